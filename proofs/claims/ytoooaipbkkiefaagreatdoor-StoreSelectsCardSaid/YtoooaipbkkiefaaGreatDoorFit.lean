/- A scope in which the run jumps among labels: what holds at each label with so much fuel left; every way between labels takes some. -/
import Derived.Test.YtoooaipbkkiefaaGreatDoorMid
import Derived.Test.YtoooaipbkkiefaaGreatDoorBytes
import Derived.OrdersIn
import Derived.OrdersHeld
import Derived.RangeFuncCalls
import Derived.OwnWalkIn
import Derived.ScopeJumps
import Derived.WalkMore
import Derived.WalkKit
namespace Go.Proofs.YtoooaipbkkiefaaGreatDoor
open Go.RowKit
set_option maxRecDepth 100000
set_option maxHeartbeats 2000000

def cells6 (x : Fin 6 → Value) : List Value := [x 0, x 1, x 2, x 3, x 4, x 5]
theorem cells6_len (vs : List (Fin 6 → Value)) : (vs.flatMap cells6).length = vs.length * 6 := by
  induction vs with
  | nil => rfl
  | cons x r ih => rw [List.flatMap_cons, List.length_append, ih, List.length_cons]; simp [cells6] <;> omega
theorem cells6_get : ∀ (vs : List (Fin 6 → Value)) (i : Nat) (x : Fin 6 → Value) (j : Fin 6), vs[i]? = some x → (vs.flatMap cells6)[i * 6 + j.val]? = some (x j)
  | [], i, x, j, h => by simp at h
  | y :: r, 0, x, j, h => by
    obtain rfl : y = x := by simpa using h
    rw [List.flatMap_cons, List.getElem?_append_left (by simp [cells6] <;> omega)]
    match j with
    | 0 => rfl
    | 1 => rfl
    | 2 => rfl
    | 3 => rfl
    | 4 => rfl
    | 5 => rfl
  | y :: r, i + 1, x, j, h => by
    rw [List.flatMap_cons, List.getElem?_append_right (by simp [cells6]; omega)]
    have := cells6_get r i x j (by simpa using h)
    rwa [show (i + 1) * 6 + j.val - (cells6 y).length = i * 6 + j.val by simp [cells6] <;> omega]
theorem leaf_one {x : Fin 6 → Value} {p : Nat → Bool} (h : LeafV (aggOf x) p) : ∀ u ∈ cells6 x, u.oneCell' = true := by
  obtain ⟨u0, u1, u2, u3, e, -⟩ := h
  unfold aggOf at e
  simp only [Value.agg.injEq, Array.mk.injEq, List.cons.injEq, and_true] at e
  obtain ⟨e0, e1, e2, e3, e4, e5⟩ := e
  intro u hu
  simp only [cells6, e0, e1, e2, e3, e4, e5, List.mem_cons, List.not_mem_nil, or_false] at hu
  rcases hu with rfl | rfl | rfl | rfl | rfl | rfl <;> rfl
theorem node_one {W : World} {X : Nat → Prop} {n : Nd} {x : Fin 6 → Value} (h : NodeV W X n (aggOf x)) : ∀ u ∈ cells6 x, u.oneCell' = true := by
  cases n with
  | one p => unfold NodeV at h; exact leaf_one h
  | op k l =>
    unfold NodeV at h
    obtain ⟨A, c, e, -⟩ := h
    unfold aggOf kindV at e
    simp only [Value.agg.injEq, Array.mk.injEq, List.cons.injEq, and_true] at e
    obtain ⟨e0, e1, e2, e3, e4, e5⟩ := e
    intro u hu
    simp only [cells6, e0, e1, e2, e3, e4, e5, List.mem_cons, List.not_mem_nil, or_false] at hu
    rcases hu with rfl | rfl | rfl | rfl | rfl | rfl
    · rfl
    · rfl
    · rfl
    · rfl
    · rfl
    · cases A <;> rfl
/-- a row of patterns of the call's own -/
def OwnN (W : World) (B : Nat) (v : Value) (l : List Nd) : Prop :=
  ∃ (X : Nat → Prop) (vs : List (Fin 6 → Value)), vs.length = l.length ∧ W.ownsRow B 142 6 v l.length (vs.flatMap cells6) ∧ (∀ (i : Nat) (n : Nd) (x : Fin 6 → Value), l[i]? = some n → vs[i]? = some x → NodeV W X n (aggOf x)) ∧ ∀ b, X b → B ≤ b ∧ b < W.heap.size ∧ v.ownBlock ≠ some b
theorem OwnN.nil (W : World) (B : Nat) : OwnN W B (.slice none 0 0) [] := ⟨fun _ => False, [], rfl, World.ownsRow_nil _ _ _ _, fun i n x h => by simp at h, fun b h => h.elim⟩
theorem node_info : (Tryz.prog.info? 142).map (fun i => (i.zero, i.size, i.bytes)) = some (some (.agg #[.int .i64 0, .int .u64 0, .int .u64 0, .int .u64 0, .int .u64 0, .slice none 0 0]), 6, 64) := by kernel_rfl
theorem run_appN {W : World} {B : Nat} {v : Value} {l : List Nd} {n : Nd} {X : Nat → Prop} {g c : Nat} {x : Fin 6 → Value} (h : OwnN W B v l) (hx : sixAt W g 0 x) (hn : NodeV W X n (aggOf x)) (hX : ∀ b, X b → B ≤ b ∧ b < W.heap.size ∧ v.ownBlock ≠ some b) (hl : l.length ≤ 1000000) (hB : B ≤ W.heap.size) :
    ∃ v' W', (Builtin.append_ #[140, 140] 140 #[v, .slice (some ⟨g, 0, none⟩) 1 c]).run Tryz.prog W = .ok v' W' ∧ OwnN W' B v' (l ++ [n]) ∧ W.grownBy W' v.ownBlock := by
  obtain ⟨i0, hi, hz0, hz1, hz2⟩ := info_parts node_info
  obtain ⟨Y, vs, hvl, hown, hel, hY⟩ := h
  have hadd : ∀ j, (⟨g, 0, none⟩ : Addr).add j = ⟨g, j, none⟩ := fun j => by unfold Addr.add; split <;> simp_all
  obtain ⟨v', w', hr, h2, h3, _, h5⟩ := run_append_own_at (P := Tryz.prog) W B 140 140 142 i0 (.agg #[.int .i64 0, .int .u64 0, .int .u64 0, .int .u64 0, .int .u64 0, .slice none 0 0]) 6 64 Tryz.underlying140 hi hz0 hz1 hz2 rfl (by omega) v l.length _ hown ⟨g, 0, none⟩ 1 c (cells6 x) (by simp [cells6]) (fun j u hu => by
    rw [hadd]
    have hj : j < 6 := by have := (List.getElem?_eq_some_iff.1 hu).1; simpa [cells6] using this
    have := hx ⟨j, hj⟩
    simp only [Nat.zero_mul, Nat.zero_add] at this
    rw [this, ← hu]
    have := cells6_get [x] 0 x ⟨j, hj⟩ rfl
    simpa using this.symm) (node_one hn) (by unfold maxLen; omega) (by omega) hB
  have hs := h3.size
  have same : ∀ Z : Nat → Prop, (∀ b, Z b → B ≤ b ∧ b < W.heap.size ∧ v.ownBlock ≠ some b) → SameOn W w' Z := fun Z hZ b hb hlt => h3.block b hlt (fun e => (hZ b hb).2.2 e.symm)
  refine ⟨v', w', hr, ⟨fun b => Y b ∨ X b, vs ++ [x], by simp [hvl], ?_, fun i m y hm hy => ?_, fun b hb => ?_⟩, h3⟩
  · rw [List.flatMap_append, List.length_append]
    simpa using h2
  · by_cases hi : i < l.length
    · rw [List.getElem?_append_left hi] at hm
      rw [List.getElem?_append_left (by omega)] at hy
      exact (NodeV.same (same Y hY) m _ (hel i m y hm hy)).mono (fun b hb => .inl hb) m _
    · rw [List.getElem?_append_right (by omega)] at hm
      rw [List.getElem?_append_right (by omega)] at hy
      have e0 : i - l.length = 0 := by
        have := (List.getElem?_eq_some_iff.1 hm).1
        simpa using this
      rw [e0] at hm
      rw [hvl, e0] at hy
      obtain rfl : n = m := by simpa using hm
      obtain rfl : x = y := by simpa using hy
      exact (NodeV.same (same X hX) n _ hn).mono (fun b hb => .inr hb) n _
  · have : B ≤ b ∧ b < W.heap.size ∧ v.ownBlock ≠ some b := hb.elim (hY b) (hX b)
    refine ⟨this.1, by omega, ?_⟩
    rcases h5 with e | e
    · rw [e]; exact this.2.2
    · rw [e]; intro e2; have := Option.some.inj e2; omega
end Go.Proofs.YtoooaipbkkiefaaGreatDoor
namespace Go.Proofs.YtoooaipbkkiefaaGreatDoor
open Go.RowKit
set_option maxRecDepth 100000

def noN : Nd := .op 0 []
/-- 'br': what a pattern behind an opening bracket reads -/
def atomS (s : List UInt8) (br : Nat → Bool × Nd × Nat) (k : Nat) : Bool × Nd × Nat :=
  if isAt s k 46 then (true, .one (fun x => !(fun _ => false : Nat → Bool) x), k + 1)
  else if isAt s k 40 then
    (if (br (k + 1)).1 then (if isAt s (br (k + 1)).2.2 41 then (true, (br (k + 1)).2.1, (br (k + 1)).2.2 + 1) else (false, noN, (br (k + 1)).2.2)) else (false, noN, (br (k + 1)).2.2))
  else if isAt s k 91 then ((setS s (k + 1)).1, .one (setS s (k + 1)).2.1, (setS s (k + 1)).2.2)
  else if (letterS s spL bsL k).1 then (true, .one (fun x => false || inR (letterS s spL bsL k).2.1.toNat (letterS s spL bsL k).2.1.toNat x), (letterS s spL bsL k).2.2)
  else (false, noN, (letterS s spL bsL k).2.2)
def pieceS (s : List UInt8) (br : Nat → Bool × Nd × Nat) (k : Nat) : Bool × Nd × Nat :=
  let r := atomS s br k
  if r.1 then
    if isAt s r.2.2 42 then (true, .op 3 [r.2.1], r.2.2 + 1)
    else if isAt s r.2.2 43 then (true, .op 4 [r.2.1], r.2.2 + 1)
    else if isAt s r.2.2 63 then (true, .op 5 [r.2.1], r.2.2 + 1)
    else r
  else (false, noN, r.2.2)
def goesOn (s : List UInt8) (k : Nat) : Bool := decide (k < s.length) && !isAt s k 124 && !isAt s k 41
def piecesF (s : List UInt8) (br : Nat → Bool × Nd × Nat) : Nat → Nat → List Nd → Bool × List Nd × Nat
  | 0, k, _ => (false, [], k)
  | f + 1, k, acc =>
    if goesOn s k then (if (pieceS s br k).1 then piecesF s br f (pieceS s br k).2.2 (acc ++ [(pieceS s br k).2.1]) else (false, [], (pieceS s br k).2.2))
    else (true, acc, k)
def altF (s : List UInt8) (br : Nat → Bool × Nd × Nat) : Nat → Nat → List Nd → Bool × List Nd × Nat
  | 0, k, _ => (false, [], k)
  | f + 1, k, acc =>
    let r := piecesF s br (s.length + 1) k []
    if r.1 then (if isAt s r.2.2 124 then altF s br f (r.2.2 + 1) (acc ++ [.op 1 r.2.1]) else (true, acc ++ [.op 1 r.2.1], r.2.2))
    else (false, [], r.2.2)
/-- d: more than bytes are left -/
def patS (s : List UInt8) : Nat → Nat → Bool × Nd × Nat
  | 0, k => (false, noN, k)
  | d + 1, k => ((altF s (patS s d) (s.length + 1) k []).1, .op 2 (altF s (patS s d) (s.length + 1) k []).2.1, (altF s (patS s d) (s.length + 1) k []).2.2)

/-- a tree that was made since w -/
def NewN (w w' : World) (n : Nd) (v : Value) : Prop := ∃ X : Nat → Prop, (∀ c, X c → w.heap.size ≤ c ∧ c < w'.heap.size) ∧ NodeV w' X n v
def ReadPost (b : Nat) (s : ByteArray) (r : Bool × Nd × Nat) (w : World) (e : Ending) (w' : World) : Prop :=
  Rd w' b s r.2.2 ∧ Only w w' b ∧ ∃ v, e = .returned (.tuple #[v, .bool r.1]) ∧ (r.1 = true → NewN w w' r.2.1 v) ∧ (r.1 = false → v = zeroN)
theorem NewN.leaf {w w' : World} {p : Nat → Bool} {v : Value} (h : LeafV v p) : NewN w w' (.one p) v := ⟨fun _ => False, fun _ h => h.elim, by unfold NodeV; exact h⟩
theorem node_form {W : World} {X : Nat → Prop} {n : Nd} {v : Value} (h : NodeV W X n v) : ∃ (k u0 u1 u2 u3 m c : Nat) (A : Option Addr), v = .agg #[.int .i64 k, .int .u64 u0, .int .u64 u1, .int .u64 u2, .int .u64 u3, .slice A m c] := by
  cases n with
  | one p =>
    unfold NodeV at h
    obtain ⟨u0, u1, u2, u3, e, -⟩ := h
    exact ⟨0, u0, u1, u2, u3, 0, 0, none, e⟩
  | op k l =>
    unfold NodeV at h
    obtain ⟨A, c, e, -⟩ := h
    exact ⟨k, 0, 0, 0, 0, l.length, c, A, e⟩
theorem NewN.form {w w' : World} {n : Nd} {v : Value} (h : NewN w w' n v) : ∃ (k u0 u1 u2 u3 m c : Nat) (A : Option Addr), v = .agg #[.int .i64 k, .int .u64 u0, .int .u64 u1, .int .u64 u2, .int .u64 u3, .slice A m c] := by
  obtain ⟨X, -, h⟩ := h
  exact node_form h
/-- of w1's making; nothing of that has changed since -/
theorem NewN.keep {w W1 W2 W3 : World} {n : Nd} {v : Value} (h : NewN W1 W2 n v) (h1 : w.heap.size ≤ W1.heap.size) (h2 : W2.heap.size ≤ W3.heap.size) (g : ∀ c, W1.heap.size ≤ c → c < W2.heap.size → W3.heap[c]? = W2.heap[c]?) : NewN w W3 n v := by
  obtain ⟨X, hX, hn⟩ := h
  exact ⟨X, fun c hc => ⟨by have := (hX c hc).1; omega, by have := (hX c hc).2; omega⟩, NodeV.same (fun c hc _ => g c (hX c hc).1 (hX c hc).2) n v hn⟩
/-- the six cells of a tree's value -/
theorem node_six {W : World} {X : Nat → Prop} {n : Nd} {v : Value} (h : NodeV W X n v) : ∃ x : Fin 6 → Value, v = aggOf x := by
  cases n with
  | one p =>
    unfold NodeV at h
    obtain ⟨u0, u1, u2, u3, e, -⟩ := h
    exact ⟨fun j => match j with | 0 => .int .i64 0 | 1 => .int .u64 u0 | 2 => .int .u64 u1 | 3 => .int .u64 u2 | 4 => .int .u64 u3 | 5 => .slice none 0 0, e⟩
  | op k l =>
    unfold NodeV at h
    obtain ⟨A, c, e, -⟩ := h
    exact ⟨fun j => match j with | 0 => .int .i64 k | 1 => .int .u64 0 | 2 => .int .u64 0 | 3 => .int .u64 0 | 4 => .int .u64 0 | 5 => .slice A l.length c, e⟩
end Go.Proofs.YtoooaipbkkiefaaGreatDoor
namespace Go.Proofs.YtoooaipbkkiefaaGreatDoor
open Go.RowKit
set_option maxRecDepth 100000
set_option maxHeartbeats 4000000
attribute [local go_sem] Oper.semAt_some

/-- the states when some parts have been added -/
def turnF (l : List Nd) (b : Nat) (S : List St) (pre : List (Fin l.length)) : List St × Nat := pre.foldl (fun s i => addS l[i.val] s.2 s.1) (S, b)
theorem turnF_snoc (l : List Nd) (b : Nat) (S : List St) (pre : List (Fin l.length)) (x : Fin l.length) : turnF l b S (pre ++ [x]) = addS l[x.val] (turnF l b S pre).2 (turnF l b S pre).1 := by
  unfold turnF
  rw [List.foldl_append]
  rfl
theorem turnF_all (l : List Nd) (b : Nat) (S : List St) : turnF l b S (revs l.length) = addTurn l b S := by
  rw [addTurn_foldr]
  exact revs_fold l (fun s n => addS n s.2 s.1) (S, b)
theorem turnF_len (l : List Nd) (hw : WfL l) (b : Nat) (S : List St) : ∀ pre, (turnF l b S pre).1.length ≤ S.length + pre.length * (wts l) := by
  intro pre
  have key : ∀ (r : List (Fin l.length)), (turnF l b S r.reverse).1.length ≤ S.length + r.length * (wts l) := fun r => by
    induction r with
    | nil => simp [turnF]
    | cons x r ih =>
      rw [List.reverse_cons, turnF_snoc]
      have h1 := (addS_len l[x.val] (turnF l b S r.reverse).2 (turnF l b S r.reverse).1).2 (hw.mem _ (List.getElem_mem _))
      have h2 := wts_mem (List.getElem_mem x.isLt : l[x.val] ∈ l)
      rw [List.length_cons, Nat.succ_mul]
      omega
  have := key pre.reverse
  simpa using this
/-- a pattern's parts in memory -/
theorem NodeV.parts {W : World} {X : Nat → Prop} {k : Nat} {l : List Nd} {nv : Value} (h : NodeV W X (.op k l) nv) : ∃ (A : Option Addr) (pb c : Nat) (val : Nat → Fin 6 → Value), nv = .agg #[.int .i64 k, .int .u64 0, .int .u64 0, .int .u64 0, .int .u64 0, .slice A l.length c] ∧ l.length ≤ c ∧ c ≤ maxLen ∧ PartsAt W A pb l.length val ∧ (0 < l.length → X pb) ∧ ∀ (i : Nat) (hi : i < l.length), NodeV W X l[i] (aggOf (val i)) := by
  unfold NodeV at h
  obtain ⟨A, c, e, h1, h2, h3⟩ := h
  by_cases h0 : 0 < l.length
  · obtain ⟨pb, rfl, hX, hn⟩ := h3 h0
    have key : ∀ i : Nat, ∃ v : Fin 6 → Value, ∀ hi : i < l.length, sixAt W pb i v ∧ NodeV W X l[i] (aggOf v) := fun i => by
      by_cases hi : i < l.length
      · obtain ⟨v, a, b⟩ := NodesFrom.get l 0 i l[i] hn (List.getElem?_eq_getElem hi)
        exact ⟨v, fun _ => ⟨by rwa [Nat.zero_add] at a, b⟩⟩
      · exact ⟨fun _ => undef, fun h => absurd h hi⟩
    obtain ⟨val, hval⟩ := Classical.axiomOfChoice key
    exact ⟨_, pb, c, val, e, h1, h2, fun _ => ⟨rfl, fun j hj => (hval j hj).1⟩, fun _ => hX, fun i hi => (hval i hi).2⟩
  · exact ⟨A, 0, c, fun _ _ => undef, e, h1, h2, fun h => absurd h h0, fun h => absurd h h0, fun i hi => by omega⟩
/-- between two rounds: what the builder, the variable N hold -/
def TurnI (B g N : Nat) (w0 : World) (v : Value) (r : List St × Nat) (W : World) : Prop := ∃ v', Bld B g W r.1 v' ∧ BMid g N w0 v W v' ∧ W.heap[N]? = some (.cells #[.int .i64 r.2] 3 (0, 0))
theorem turnI_own {β : Type} (B g N : Nat) (w0 : World) (v : Value) (f : β → List St × Nat) : OwnFrom w0.heap.size (fun s W => TurnI B g N w0 v (f s) W) := fun s X Y row hs hg hr => by
  obtain ⟨v', h1, h2, h3⟩ := hs
  exact ⟨v', h1.turn hg (fun r e => (hr r e).2), h2.turn hg (fun r e => (hr r e).1), cells_turn hg (fun r e => (hr r e).2) h3⟩
end Go.Proofs.YtoooaipbkkiefaaGreatDoor
/- add at parts one behind the other: the walk. -/
namespace Go.Proofs.YtoooaipbkkiefaaGreatDoor
open Go.RowKit
set_option maxRecDepth 100000
set_option maxHeartbeats 4000000
attribute [local go_sem] Oper.semAt_some

theorem room_turn {l : List Nd} {S p : Nat} (h : S + ((l.length + 1) * (wts l + 1) + 1 + bdm l) ≤ 1000000000000) (hp : p < l.length) : S + p * wts l + bdm l ≤ 1000000000000 := by
  have : p * wts l ≤ (l.length + 1) * (wts l + 1) := Nat.mul_le_mul (by omega) (by omega)
  omega
theorem four_new (w : World) (c1 c2 c3 c4 : Array Value) (t1 t2 t3 t4 : TypeId) : ((((w.alloc (.cells c1 t1)).alloc (.cells c2 t2)).alloc (.cells c3 t3)).alloc (.cells c4 t4)).heap[w.heap.size]? = some (.cells c1 t1 (0, 0)) ∧ ((((w.alloc (.cells c1 t1)).alloc (.cells c2 t2)).alloc (.cells c3 t3)).alloc (.cells c4 t4)).heap[w.heap.size + 1]? = some (.cells c2 t2 (0, 0)) ∧ ((((w.alloc (.cells c1 t1)).alloc (.cells c2 t2)).alloc (.cells c3 t3)).alloc (.cells c4 t4)).heap[w.heap.size + 2]? = some (.cells c3 t3 (0, 0)) ∧ ((((w.alloc (.cells c1 t1)).alloc (.cells c2 t2)).alloc (.cells c3 t3)).alloc (.cells c4 t4)).heap[w.heap.size + 3]? = some (.cells c4 t4 (0, 0)) := by
  obtain ⟨h1, h2, h3⟩ := three_new w c1 c2 c3 t1 t2 t3
  have h4 := heap_alloc_new (((w.alloc (.cells c1 t1)).alloc (.cells c2 t2)).alloc (.cells c3 t3)) (.cells c4 t4)
  have hs : (((w.alloc (.cells c1 t1)).alloc (.cells c2 t2)).alloc (.cells c3 t3)).heap.size = w.heap.size + 3 := by simp
  rw [hs] at h4
  have g := ((Gr.refl (((w.alloc (.cells c1 t1)).alloc (.cells c2 t2)).alloc (.cells c3 t3))).alloc c4 t4).b.block
  rw [hs] at g
  exact ⟨(g _ (by omega)).trans h1, (g _ (by omega)).trans h2, (g _ (by omega)).trans h3, h4⟩
theorem six_form {W : World} {X : Nat → Prop} {n : Nd} {y : Fin 6 → Value} (h : NodeV W X n (aggOf y)) : ∃ (k u0 u1 u2 u3 m c : Nat) (A : Option Addr), y 0 = .int .i64 k ∧ y 1 = .int .u64 u0 ∧ y 2 = .int .u64 u1 ∧ y 3 = .int .u64 u2 ∧ y 4 = .int .u64 u3 ∧ y 5 = .slice A m c := by
  obtain ⟨k, u0, u1, u2, u3, m, c, A, e⟩ := node_form h
  unfold aggOf at e
  simp only [Value.agg.injEq, Array.mk.injEq, List.cons.injEq, and_true] at e
  exact ⟨k, u0, u1, u2, u3, m, c, A, e⟩
theorem add_turn (l : List Nd) (ih : ∀ n ∈ l, AddC n) : AddC (.op 1 l) := by
  intro B g b X S nv v w h hB hX hn hw hbd
  obtain ⟨A, pb, c, val, rfl, hc1, hc2, hP, hXp, hns⟩ := hn.parts
  unfold Wf at hw
  unfold bd at hbd
  have hw := hw.1
  have hgl := h.lt
  have hbg := h.b
  have hrl := h.r.lt
  have CA := Lib.hid (fun (x : Fin l.length) W (hb : Below B w W) (b' : Nat) (S' : List St) u (h : Bld B g W S' u) (hl : S'.length + bd l[x.val] ≤ 1000000000000) => ih l[x.val] (List.getElem_mem _) B g b' X S' (aggOf (val x.val)) u W h (Nat.le_trans hB hb.size) hX (NodeV.same (fun c hc _ => hb.block c (hX c hc)) _ _ (hns x.val x.isLt)) (hw.mem _ (List.getElem_mem _)) hl)
  have HB := Lib.hid h
  have HNS := Lib.hid hns
  have HP := Lib.hid hP
  have HL := Lib.hid (fun (pre : List (Fin l.length)) (x : Fin l.length) (hp : pre.length < l.length) => show (turnF l b S pre).1.length + bd l[x.val] ≤ 1000000000000 by
    have h1 := turnF_len l hw b S pre
    have h2 := room_turn hbd hp
    have h3 := bdm_mem (List.getElem_mem x.isLt : l[x.val] ∈ l)
    omega)
  have e1 : addS (.op 1 l) b S = addTurn l b S := by
    conv => lhs; unfold addS
    rfl
  have hml : l.length ≤ 1000000000000 := by
    have : (l.length + 1) * 1 ≤ (l.length + 1) * (wts l + 1) := Nat.mul_le_mul (Nat.le_refl _) (by omega)
    omega
  rw [e1, ← turnF_all]
  have h0 : turnF l b S [] = (S, b) := rfl
  have H0 := Lib.hid h0
  clear h0 e1 hn hns hw hbd hP ih h
  refine (callsIn_wide (n := 9)).1 ?_
  refine callsIn_of_wp_marks Tryz.func97 rfl trivial ?_ rfl
  simp only [Tryz.ntmps97, List.size_toArray, List.length_cons, List.length_nil, Nat.reduceAdd, Nat.reduceSub, Array.replicate_succ, Array.replicate_zero, List.push_toArray, List.append_toArray, List.nil_append, List.cons_append]
  gi_wp2_with (refine ⟨trivial, ?_⟩; gi_at_call 127; refine (backward_in Fence.wide _ trivial rfl _ _ _ _).mono ?_; rintro e w' ⟨rfl, rfl⟩)
  have hn4 := four_new w #[.pointer (some ⟨g, 0, none⟩)] #[.int .i64 1, .int .u64 0, .int .u64 0, .int .u64 0, .int .u64 0, .slice A l.length c] #[.int .i64 b] #[.slice A l.length c] 196 142 3 140
  have k0 : Gr w ((((w.alloc (.cells #[.pointer (some ⟨g, 0, none⟩)] 196)).alloc (.cells #[.int .i64 1, .int .u64 0, .int .u64 0, .int .u64 0, .int .u64 0, .slice A l.length c] 142)).alloc (.cells #[.int .i64 b] 3)).alloc (.cells #[.slice A l.length c] 140)) := (Gr3 w _ _ _ _ _ _).alloc _ _
  have hsz : ((((w.alloc (.cells #[.pointer (some ⟨g, 0, none⟩)] 196)).alloc (.cells #[.int .i64 1, .int .u64 0, .int .u64 0, .int .u64 0, .int .u64 0, .slice A l.length c] 142)).alloc (.cells #[.int .i64 b] 3)).alloc (.cells #[.slice A l.length c] 140)).heap.size = w.heap.size + 4 := by simp
  obtain ⟨W0, hW0⟩ : ∃ W0, (((w.alloc (.cells #[.pointer (some ⟨g, 0, none⟩)] 196)).alloc (.cells #[.int .i64 1, .int .u64 0, .int .u64 0, .int .u64 0, .int .u64 0, .slice A l.length c] 142)).alloc (.cells #[.int .i64 b] 3)).alloc (.cells #[.slice A l.length c] 140) = W0 := ⟨_, rfl⟩
  rw [hW0] at hn4 k0 hsz ⊢
  clear hW0
  obtain ⟨n0, n1, n2, n3⟩ := hn4
  have hpb : 0 < l.length → pb < w.heap.size ∧ pb < B := fun h0 => by have := hX pb (hXp h0); omega
  have hP0 : PartsAt W0 A pb l.length val := fun h0 => by
    obtain ⟨e, hs⟩ := HP.out h0
    exact ⟨e, fun j hj i => k0.cell (hs j hj i)⟩
  have hpb2 : ∃ pb', PartsAt W0 A pb' l.length val ∧ pb' < W0.heap.size ∧ (0 < l.length → pb' < B) := by
    by_cases h0 : 0 < l.length
    · exact ⟨pb, hP0, by have := hpb h0; omega, fun _ => (hpb h0).2⟩
    · exact ⟨0, fun h => absurd h h0, by omega, fun h => absurd h h0⟩
  obtain ⟨pq, hPq, hpq, hpqB⟩ := hpb2
  have hv0 : ∀ k, w.heap.size ≤ k → v.ownBlock ≠ some k := fun k hk e => by have := hrl _ e; omega
  refine wpIn_rangeFunc_ownH rfl (by omega) (gf := 169) (lb := #[.pointer (some ⟨w.heap.size + 1 + 1 + 1, 0, none⟩)]) rfl trivial (enters_of Tryz.func169 (by kernel_rfl) rfl)
    (backward_stops Fence.wide _ trivial rfl (by omega) (w.heap.size + 1 + 1 + 1) pq l.length c A val hml W0 (by omega) (cell_of_row W0 _ 0 _ _ (0, 0) n3) hPq) two_t (two_b (by omega) hpq) (Below.refl _ _) (fun _ => rfl)
    (fun pre W => TurnI B g (w.heap.size + 1 + 1) W0 v (turnF l b S pre) W)
    (fun _ _ _ => False)
    (turnI_own B g (w.heap.size + 1 + 1) W0 v (turnF l b S))
    (fun _ _ _ _ _ hs _ _ => hs)
    ⟨v, by rw [H0.out]; exact HB.out.gr k0, BMid.refl _ _ _ _, by rw [H0.out]; exact n2⟩
    (fun x a' W => ∃ Bx, W0.heap.size ≤ Bx ∧ W.heap[Bx]? = some (.cells #[val x.val 0, val x.val 1, val x.val 2, val x.val 3, val x.val 4, val x.val 5] 142 (0, 0)) ∧ a' = { tmps := #[.pointer (some ⟨g, 0, none⟩), .agg #[.int .i64 1, .int .u64 0, .int .u64 0, .int .u64 0, .int .u64 0, .slice A l.length c], .int .i64 b, .pointer (some ⟨w.heap.size, 0, none⟩), .pointer (some ⟨w.heap.size + 1, 0, none⟩), .pointer (some ⟨w.heap.size + 1 + 1, 0, none⟩), .int .i64 0, undef, .pointer (some ⟨Bx, 0, none⟩), .pointer (some ⟨w.heap.size + 1, 0, none⟩), .int .i64 1, .bool false, .bool false, undef, undef, undef, undef, undef, undef, .bool true, .bool true, .pointer (some ⟨w.heap.size + 1, 5, none⟩), .slice A l.length c, .func (.func 169) #[] #[.pointer (some ⟨w.heap.size + 1 + 1 + 1, 0, none⟩)], .int .i64 (x.val : Int), aggOf (val x.val), undef, undef, undef, undef, undef, undef, undef, undef, undef, undef, undef, undef, undef, undef, undef, undef, undef, undef, undef, undef, undef, undef, undef, undef, undef, undef, undef, undef, undef], defers := [] })
    (fun x a' _ X Y row hs hg hr => by obtain ⟨Bx, h1, h2, h3⟩ := hs; exact ⟨Bx, h1, cells_turn hg (fun r e => (hr r e).2) h2, h3⟩)
    ?assign ?body ?done ?stop
  case assign =>
    rintro l1 pre x W K hI hK
    obtain ⟨k, u0, u1, u2, u3, m, cc, A2, y0, y1, y2, y3, y4, y5⟩ := six_form (HNS.out x.val x.isLt)
    unfold aggOf at hK ⊢
    simp only [y0, y1, y2, y3, y4, y5] at hK ⊢
    obtain ⟨v', hbld, hmid, hN⟩ := hI
    have hWs := hmid.size
    have ga : Gr W (W.alloc (.cells #[.int .i64 k, .int .u64 u0, .int .u64 u1, .int .u64 u2, .int .u64 u3, .slice A2 m cc] 142)) := (Gr.refl W).alloc _ _
    gi_wp2
    exact hK _ _ ((KeepsOthers.alloc _ _).from _) ⟨ga.b.block _ (by omega), ga.b.block _ (by omega)⟩ ⟨v', hbld.gr ga, hmid.gr ga, (ga.b.block _ (by omega)).trans hN⟩ ⟨W.heap.size, hWs, heap_alloc_new W _, rfl⟩
  case body =>
    rintro l1 pre x a' W hl1 - ⟨v', hbld, hmid, hN⟩ ⟨Bx, hBx, bX, rfl⟩ hlt
    have hbelow : Below B w W := (k0.b.mono hB).trans (hmid.below hbg (by omega) (fun k e => (hrl k e).1) (by omega))
    have hlb := HL.out pre x hlt
    have m0 := hmid.blk (c := w.heap.size) (by omega) (by omega) (by omega) (hv0 _ (by omega)) n0
    have hWs := hmid.size
    have hvN := hmid.other (c := w.heap.size + 1 + 1) (by omega) (hv0 _ (by omega))
    have hvB := hmid.other (c := w.heap.size + 1 + 1 + 1) (by omega) (hv0 _ (by omega))
    have hpql : pq < B := hpqB (by have := x.isLt; omega)
    have C1 := Lib.hid (CA.out x W hbelow (turnF l b S pre).2 (turnF l b S pre).1 v' hbld hlb)
    have HBL := Lib.hid hbld
    have HM := Lib.hid hmid
    have hvq : v'.ownBlock ≠ some pq := fun e => by have := (hbld.r.lt _ e).1; omega
    have hstep := turnF_snoc l b S pre x
    obtain ⟨r, hr⟩ : ∃ r, turnF l b S pre = r := ⟨_, rfl⟩
    rw [hr] at C1 HBL hN hstep
    have HST := Lib.hid hstep
    clear hstep hbld hmid hlb hr hbelow
    unfold aggOf at C1 ⊢
    have c0 := cell_of_row W _ 0 _ _ (0, 0) m0
    have c2 := cell_of_row W _ 0 _ _ (0, 0) hN
    have x0 := cell_of_row W _ 0 _ _ (0, 0) bX
    have x1 := cell_of_row W _ 1 _ _ (0, 0) bX
    have x2 := cell_of_row W _ 2 _ _ (0, 0) bX
    have x3 := cell_of_row W _ 3 _ _ (0, 0) bX
    have x4 := cell_of_row W _ 4 _ _ (0, 0) bX
    have x5 := cell_of_row W _ 5 _ _ (0, 0) bX
    have hNs : w.heap.size + 1 + 1 < W.heap.size := by omega
    have hzB : ∀ k, w.heap.size + 1 + 1 = k → k < W.heap.size := fun k e => by omega
    gi_wp2_with fail
    refine ⟨trivial, CallsIn.mono (CallsIn.inRound l1 (callsIn_wide.2 C1.out)) ?_⟩
    rintro e w1 ⟨rfl, v1, hb1, hs1⟩
    have hN1 := (hs1.block (w.heap.size + 1 + 1) hNs (by omega) hvN).trans hN
    have d2 := cell_of_row w1 _ 0 _ _ (0, 0) hN1
    have f2 := frozen_of_row w1 _ 0 _ _ hN1
    have HF := Lib.hid (show KeepsFrom W0.heap.size W (w1.setCell ⟨w.heap.size + 1 + 1, 0, none⟩ (.int .i64 (addS l[x.val] r.2 r.1).2)) from (hs1.keepsFrom HBL.out _).trans ((KeepsOthers.setCell _ _ _).from _))
    have HT := Lib.hid (show Two (w.heap.size + 1 + 1 + 1) pq W (w1.setCell ⟨w.heap.size + 1 + 1, 0, none⟩ (.int .i64 (addS l[x.val] r.2 r.1).2)) from ⟨(Below.heap_setCell w1 _ _ _ (by show w.heap.size + 1 + 1 + 1 ≠ w.heap.size + 1 + 1; omega)).trans (hs1.block _ (by omega) (by omega) hvB), (Below.heap_setCell w1 _ _ _ (by show pq ≠ w.heap.size + 1 + 1; omega)).trans (hs1.block _ (by omega) (by omega) hvq)⟩)
    have HI := Lib.hid (show TurnI B g (w.heap.size + 1 + 1) W0 v (turnF l b S (pre ++ [x])) (w1.setCell ⟨w.heap.size + 1 + 1, 0, none⟩ (.int .i64 (addS l[x.val] r.2 r.1).2)) by
      rw [HST.out]
      refine ⟨v1, hb1.setFar _ (by omega) (hs1.other hNs hvN), (HM.out.step hs1).set _, ?_⟩
      have := heap_setCell_same w1 (w.heap.size + 1 + 1) 0 _ _ (.int .i64 (addS l[x.val] r.2 r.1).2) hN1
      simpa using this)
    clear hb1 hs1 hN1 HST C1 HBL HM
    gi_wp2_with fail
    exact ⟨HF.out, HT.out, HI.out⟩
  case done =>
    rintro D ys W hD rfl ⟨v', hbld, hmid, hN⟩ hK
    have c2 := cell_of_row W _ 0 _ _ (0, 0) hN
    gi_wp2
    refine ⟨by simp, .inl ⟨_, _, rfl, run_takeDeferred hK, ?_⟩⟩
    have hk : W.grownBy (W.putObj D (.deferred none)) (some D) := grownBy_putObj' W D _
    have hkr : ∀ r, some D = some r → ∃ o : Obj, W.heap[r]? = some o ∧ o.isCells = false := fun r e => by cases e; exact ⟨_, hK, rfl⟩
    exact ⟨_, results_tmp rfl _ _ _, rfl, v', hbld.turn hk hkr, (hmid.turn hk (fun r e => by cases e; exact hD)).bstep k0 (by omega)⟩
  case stop =>
    rintro D c pre W _ _ h _
    exact h.elim
end Go.Proofs.YtoooaipbkkiefaaGreatDoor
namespace Go.Proofs.YtoooaipbkkiefaaGreatDoor
open Go.RowKit
set_option maxHeartbeats 1000000

section
variable {P : Program} {ops : Array Oper} {Q : Exit → Act → World → Prop} {md : Region.Mode} {S : World → Prop} {l n : Nat}
theorem wpOpIn_of {i : Nat} {a : Act} {w : World} {K K' : Act → World → Prop} (hK : ∀ a w, K a w → K' a w) (hQ : ¬ LetsOut Q) (hd : ∀ o ∈ ops.toList, (∀ c, o.op ≠ .defer c)) (h : wpOp P ops Q i K a w) : wpOpIn (Fence.wide.inRound l) n P ops Q i K' a w := by
  unfold wpOp at h
  unfold wpOpIn
  split
  · rename_i ho
    simp only [ho] at h
    exact hK _ _ h
  · rename_i o ho
    simp only [ho] at h
    have hab : ∀ f, o.about P w a.eval = some f → (Fence.wide.inRound l).fn f := fun f _ => trivial
    split
    · rename_i hw
      simp only [hw, if_true] at h
      rcases h with h | ⟨-, h⟩
      · refine ⟨hab, ?_⟩
        rw [Fence.inRound_round, Oper.semAt_some l _ _ (hd o (List.mem_of_getElem? (l := ops.toList) (i := i) (by rw [Array.getElem?_toList]; exact ho)))]
        unfold Oper.wp at h
        generalize (execOp a.eval o).run P w = r at *
        cases r with
        | ok x w' =>
          cases x <;> simp only [Oper.upon, Oper.uponIn] at h ⊢ <;>
            first
              | exact hK _ _ h
              | exact ⟨fun e => (by cases e), CallsIn.inRound l (callsIn_wide.2 (Calls.mono h (fun e w'' he => by cases e <;> first | exact hK _ _ he | exact he)))⟩
              | exact ⟨fun e => (by cases e), fun c cs _ => (h c cs).elim fun v h => h.elim fun w' h => ⟨v, w', hK _ _ h.1, stepsIn_wide.2 h.2⟩⟩
        | halt x w' => cases x <;> simp only [Oper.upon, Oper.uponIn] at h ⊢ <;> exact h
      · exact absurd h hQ
    · rename_i hw
      simp only [hw] at h
      exact ⟨hab, hK _ _ h⟩
theorem wpAnyIn_of_held (hQ : ¬ LetsOut Q) (hd : ∀ o ∈ ops.toList, (∀ c, o.op ≠ .defer c)) : ∀ (fuel : Nat) (listed : Array Bool) (a : Act) (w : World), wpAnyH P md ops Q S fuel listed a w → wpAnyIn (Fence.wide.inRound l) n P md ops Q fuel listed a w
  | 0, _, _, _, h => h
  | fuel + 1, _, _, _, h => ⟨h.1, fun i hi => wpOpIn_of (fun a' w' h' => wpAnyIn_of_held hQ hd fuel _ a' w' h'.2) hQ hd (h.2 i hi)⟩
/-- the held walk of a region serves in a round, too -/
theorem region_in_round {id : Nat} {a : Act} {w : World} (hm : P.follows .mixedOrders = true) (hQ : ¬ LetsOut Q) (hd : ∀ o ∈ ops.toList, (∀ c, o.op ≠ .defer c))
    (h : wpAnyH P .any ops Q S ops.size (Array.replicate ops.size false) a w.drew) : (Code.region id ops true).wpIn (Fence.wide.inRound l) n P Q a w :=
  wpIn_region_any hm (wpAnyIn_of_held hQ hd _ _ _ _ h)
end
end Go.Proofs.YtoooaipbkkiefaaGreatDoor
namespace Go.Proofs.YtoooaipbkkiefaaGreatDoor
open Go.RowKit
set_option maxRecDepth 100000
set_option maxHeartbeats 4000000
attribute [local go_sem] Oper.semAt_some

def eitF (l : List Nd) (b : Nat) (r : List St × Nat) (pre : List (Fin l.length)) : List St × Nat := pre.foldl (fun s i => forkOn (addS l[i.val] b s.1) s.2) r
theorem eitF_snoc (l : List Nd) (b : Nat) (r : List St × Nat) (pre : List (Fin l.length)) (x : Fin l.length) : eitF l b r (pre ++ [x]) = forkOn (addS l[x.val] b (eitF l b r pre).1) (eitF l b r pre).2 := by
  unfold eitF
  rw [List.foldl_append]
  rfl
theorem eitF_all (l : List Nd) (n : Nd) (b : Nat) (S : List St) : eitF l b (addS n b S) (revs l.length) = addAlt (l ++ [n]) b S := by
  rw [addAlt_foldr]
  exact revs_fold l (fun s m => forkOn (addS m b s.1) s.2) (addS n b S)
theorem eitF_len (l : List Nd) (hw : WfL l) (b : Nat) (r : List St × Nat) : ∀ pre, (eitF l b r pre).1.length ≤ r.1.length + pre.length * (wts l + 1) := by
  intro pre
  have key : ∀ (q : List (Fin l.length)), (eitF l b r q.reverse).1.length ≤ r.1.length + q.length * (wts l + 1) := fun q => by
    induction q with
    | nil => simp [eitF]
    | cons x q ih =>
      rw [List.reverse_cons, eitF_snoc]
      have h1 := (addS_len l[x.val] b (eitF l b r q.reverse).1).2 (hw.mem _ (List.getElem_mem _))
      have h2 := wts_mem (List.getElem_mem x.isLt : l[x.val] ∈ l)
      unfold forkOn
      rw [List.length_cons, Nat.succ_mul]
      simp
      omega
  have := key pre.reverse
  simpa using this
theorem wts_app (l : List Nd) (n : Nd) : wts (l ++ [n]) = wts l + wt n := by
  induction l with
  | nil => simp [wts]
  | cons m r ih => rw [List.cons_append]; unfold wts; rw [ih]; omega
theorem bdm_app (l : List Nd) (n : Nd) : bdm l ≤ bdm (l ++ [n]) ∧ bd n ≤ bdm (l ++ [n]) := by
  induction l with
  | nil => simp [bdm]
  | cons m r ih => rw [List.cons_append]; unfold bdm; omega
theorem WfL.app {l : List Nd} {n : Nd} (h : WfL (l ++ [n])) : WfL l ∧ Wf n := by
  refine ⟨?_, h.mem n (by simp)⟩
  induction l with
  | nil => unfold WfL; trivial
  | cons m r ih =>
    rw [List.cons_append] at h
    unfold WfL at h ⊢
    exact ⟨h.1, ih h.2⟩
def Eit8 (W : World) (N pb o g b : Nat) (x : Fin 6 → Value) : Prop := W.cell? ⟨N, 0, none⟩ = some (.pointer (some ⟨g, 0, none⟩)) ∧ W.cell? ⟨N + 1, 0, none⟩ = some (.int .i64 b) ∧ W.cell? ⟨pb, o, none⟩ = some (x 0) ∧ W.cell? ⟨pb, o + 1, none⟩ = some (x 1) ∧ W.cell? ⟨pb, o + 2, none⟩ = some (x 2) ∧ W.cell? ⟨pb, o + 3, none⟩ = some (x 3) ∧ W.cell? ⟨pb, o + 4, none⟩ = some (x 4) ∧ W.cell? ⟨pb, o + 5, none⟩ = some (x 5)
theorem Eit8.same {W W' : World} {N pb o g b : Nat} {x : Fin 6 → Value} (h : Eit8 W N pb o g b x) (k0 : W'.heap[N]? = W.heap[N]?) (k1 : W'.heap[N + 1]? = W.heap[N + 1]?) (k2 : W'.heap[pb]? = W.heap[pb]?) : Eit8 W' N pb o g b x := by
  have key : ∀ c : Nat, W'.heap[c]? = W.heap[c]? → ∀ (i : Nat) (v : Value), W.cell? ⟨c, i, none⟩ = some v → W'.cell? ⟨c, i, none⟩ = some v := fun c e i v hv => (World.cell?_of_block (a := ⟨c, i, none⟩) e).trans hv
  obtain ⟨h0, h1, h2, h3, h4, h5, h6, h7⟩ := h
  exact ⟨key _ k0 _ _ h0, key _ k1 _ _ h1, key _ k2 _ _ h2, key _ k2 _ _ h3, key _ k2 _ _ h4, key _ k2 _ _ h5, key _ k2 _ _ h6, key _ k2 _ _ h7⟩
theorem Eit8.lt {W : World} {N pb o g b : Nat} {x : Fin 6 → Value} (h : Eit8 W N pb o g b x) : N < W.heap.size ∧ N + 1 < W.heap.size ∧ pb < W.heap.size :=
  ⟨World.block_lt_of_cell? W _ h.1, World.block_lt_of_cell? W _ h.2.1, World.block_lt_of_cell? W _ h.2.2.1⟩
theorem Eit8.gr {W W' : World} {N pb o g b : Nat} {x : Fin 6 → Value} (h : Eit8 W N pb o g b x) (k : Gr W W') : Eit8 W' N pb o g b x :=
  h.same (k.b.block _ h.lt.1) (k.b.block _ h.lt.2.1) (k.b.block _ h.lt.2.2)
theorem Eit8.step {W W' : World} {N pb o g b : Nat} {x : Fin 6 → Value} {v v' : Value} (h : Eit8 W N pb o g b x) (k : BStep g W v W' v') (h0 : N ≠ g ∧ v.ownBlock ≠ some N) (h1 : N + 1 ≠ g ∧ v.ownBlock ≠ some (N + 1)) (h2 : pb ≠ g ∧ v.ownBlock ≠ some pb) : Eit8 W' N pb o g b x :=
  h.same (k.block _ h.lt.1 h0.1 h0.2) (k.block _ h.lt.2.1 h1.1 h1.2) (k.block _ h.lt.2.2 h2.1 h2.2)
theorem Eit8.set {W : World} {N pb o g b : Nat} {x : Fin 6 → Value} (h : Eit8 W N pb o g b x) {M : Nat} (u : Value) (h0 : N ≠ M) (h1 : N + 1 ≠ M) (h2 : pb ≠ M) : Eit8 (W.setCell ⟨M, 0, none⟩ u) N pb o g b x :=
  h.same (Below.heap_setCell W _ _ _ h0) (Below.heap_setCell W _ _ _ h1) (Below.heap_setCell W _ _ _ h2)
theorem room_alt {l : List Nd} {n : Nd} {S p : Nat} (h : S + (((l ++ [n]).length + 1) * (wts (l ++ [n]) + 1) + 1 + bdm (l ++ [n])) ≤ 1000000000000) (hp : p < l.length) : S + wt n + p * (wts l + 1) + bdm l ≤ 1000000000000 := by
  have h1 := bdm_app l n
  rw [wts_app] at h
  have : p * (wts l + 1) + (wts l + wt n + 1) ≤ ((l ++ [n]).length + 1) * (wts l + wt n + 1) := by
    have h2 : p * (wts l + 1) ≤ p * (wts l + wt n + 1) := Nat.mul_le_mul (Nat.le_refl _) (by omega)
    have h3 : (p + 1) * (wts l + wt n + 1) ≤ ((l ++ [n]).length + 1) * (wts l + wt n + 1) := Nat.mul_le_mul (by simp; omega) (Nat.le_refl _)
    rw [Nat.succ_mul] at h3
    omega
  omega
/-- behind the last part: the builder, the frame's three variables -/
structure EitSt (B g b : Nat) (w : World) (v : Value) (S0 : List St) (f0 N : Nat) (W : World) (v1 : Value) : Prop where
  bld : Bld B g W S0 v1
  step : BStep g w v W v1
  c0 : W.cell? ⟨w.heap.size, 0, none⟩ = some (.pointer (some ⟨g, 0, none⟩))
  c1 : W.cell? ⟨w.heap.size + 1, 0, none⟩ = some (.int .i64 b)
  c2 : W.heap[N]? = some (.cells #[.int .i64 f0] 3 (0, 0))
  lo : w.heap.size + 2 ≤ N
  own : ∀ k, (k = w.heap.size ∨ k = w.heap.size + 1 ∨ k = N) → v1.ownBlock ≠ some k
theorem BStep.setFar {g : Nat} {w W : World} {v v' : Value} (h : BStep g w v W v') {N o : Nat} (hN : w.heap.size ≤ N) (u : Value) : BStep g w v (W.setCell ⟨N, o, none⟩ u) v' :=
  ⟨h.os, h.tape, h.output, by simpa [World.setCell] using h.size, fun c hc hg hv => (Below.heap_setCell W _ _ c (by show c ≠ N; omega)).trans (h.block c hc hg hv), h.own⟩
theorem eitSt_late {B g b pb o f0 : Nat} {w w1 : World} {v v1 : Value} {S0 : List St} {x : Fin 6 → Value} (h : Bld B g w1 S0 v1) (k : BStep g w v w1 v1) (e : Eit8 w1 w.heap.size pb o g b x) (hz : w.heap.size + 2 ≤ w1.heap.size) (h0 : v1.ownBlock ≠ some w.heap.size) (h1 : v1.ownBlock ≠ some (w.heap.size + 1)) :
    EitSt B g b w v S0 f0 w1.heap.size (w1.alloc (.cells #[.int .i64 f0] 3)) v1 :=
  have g1 : Gr w1 (w1.alloc (.cells #[.int .i64 f0] 3)) := (Gr.refl w1).alloc _ _
  ⟨h.gr g1, k.gr g1, (e.gr g1).1, (e.gr g1).2.1, heap_alloc_new w1 _, hz, fun c hc e => by
    rcases hc with rfl | rfl | rfl
    · exact h0 e
    · exact h1 e
    · have := h.r.lt _ e; omega⟩
theorem eitSt_early {B g b pb o f0 N : Nat} {w w1 : World} {v v1 : Value} {S0 : List St} {x : Fin 6 → Value} (h : Bld B g w1 S0 v1) (k : BStep g w v w1 v1) (e : Eit8 w1 w.heap.size pb o g b x) (hz : w.heap.size + 2 ≤ N) (hg : g < w.heap.size) (hp : pb < w.heap.size) (h0 : v1.ownBlock ≠ some w.heap.size) (h1 : v1.ownBlock ≠ some (w.heap.size + 1)) (h2 : v1.ownBlock ≠ some N) (u : Value) (hN : w1.heap[N]? = some (.cells #[u] 3 (0, 0))) :
    EitSt B g b w v S0 f0 N (w1.setCell ⟨N, 0, none⟩ (.int .i64 f0)) v1 :=
  have e2 := e.set (M := N) (.int .i64 f0) (by omega) (by omega) (by omega)
  ⟨h.setFar _ (by omega) h2, k.setFar (by omega) _, e2.1, e2.2.1, by have := heap_setCell_same w1 N 0 _ _ (.int .i64 f0) hN; simpa using this, hz, fun c hc e => by
    rcases hc with rfl | rfl | rfl
    · exact h0 e
    · exact h1 e
    · exact h2 e⟩
theorem BStep.mid {g N : Nat} {w W W' : World} {v v1 v' : Value} (h : BStep g w v W v1) (k : BMid g N W v1 W' v') (hN : w.heap.size ≤ N) : BStep g w v W' v' :=
  ⟨k.os.trans h.os, k.tape.trans h.tape, k.output.trans h.output, Nat.le_trans h.size k.size, fun c hc hg hv => (k.block c (Nat.lt_of_lt_of_le hc h.size) hg (by omega) (h.other hc hv)).trans (h.block c hc hg hv), by
    rcases k.own with e | ⟨j, e, hj⟩
    · rw [e]; exact h.own
    · exact .inr ⟨j, e, Nat.le_trans h.size hj⟩⟩
theorem RowSt.typeOf {W : World} {B : Nat} {v : Value} {l : List St} (h : RowSt W B v l) {k : Nat} (e : v.ownBlock = some k) : ∃ cur, W.heap[k]? = some (.cells cur 168 (0, 0)) := by
  obtain ⟨vs, h1, h2, h3⟩ := h
  rcases h2.2 with ⟨rfl, -⟩ | ⟨g, cap, cur, rfl, e2, e3, -⟩
  · cases e
  · have : g = k := by simpa [Value.ownBlock] using e
    subst this
    exact ⟨_, e3⟩
theorem wt_bd (n : Nd) : wt n ≤ bd n := by
  cases n with
  | one p => unfold wt bd; omega
  | op k l =>
    unfold wt bd
    have : l.length * 1 + (wts l + 1) ≤ (l.length + 1) * (wts l + 1) := by
      rw [Nat.succ_mul]
      have : l.length * 1 ≤ l.length * (wts l + 1) := Nat.mul_le_mul (Nat.le_refl _) (by omega)
      omega
    split
    · omega
    split <;> omega
end Go.Proofs.YtoooaipbkkiefaaGreatDoor
namespace Go.Proofs.YtoooaipbkkiefaaGreatDoor
open Go.RowKit
set_option maxRecDepth 100000
set_option maxHeartbeats 4000000
attribute [local go_sem] Oper.semAt_some

theorem addEither_any (l : List Nd) (n : Nd) (ih : ∀ m ∈ l ++ [n], AddC m) (B g b : Nat) (X : Nat → Prop) (S : List St) (A : Option Addr) (c : Nat) (v : Value) (w : World) (h : Bld B g w S v) (hB : B ≤ w.heap.size) (hX : ∀ c, X c → c < B) (pb : Nat) (val : Nat → Fin 6 → Value)
    (hP : PartsAt w A pb (l ++ [n]).length val) (hXp : 0 < (l ++ [n]).length → X pb) (hc1 : (l ++ [n]).length ≤ c) (_hc2 : c ≤ maxLen) (hns : ∀ (i : Nat) (hi : i < (l ++ [n]).length), NodeV w X (l ++ [n])[i] (aggOf (val i))) (hw : WfL (l ++ [n]))
    (hbd : S.length + (((l ++ [n]).length + 1) * (wts (l ++ [n]) + 1) + 1 + bdm (l ++ [n])) ≤ 1000000000000) :
    Calls Tryz.prog 128 #[.pointer (some ⟨g, 0, none⟩), .slice A (l ++ [n]).length c, .int .i64 b] w (AddPost B g (addAlt (l ++ [n]) b S) w v) := by
  have hlen : (l ++ [n]).length = l.length + 1 := by simp
  rw [hlen] at hP hXp hc1 ⊢
  obtain ⟨rfl, hcs⟩ := hP (by omega)
  have hpb := hX pb (hXp (by omega))
  have hgl := h.lt
  have hbg := h.b
  have hrl := h.r.lt
  have hbm := bdm_app l n
  have hnd : NodeV w X n (aggOf (val l.length)) := by
    have := hns l.length (by simp)
    simpa using this
  have hnl : ∀ x : Fin l.length, NodeV w X l[x.val] (aggOf (val x.val)) := fun x => by
    have := hns x.val (by have := x.isLt; simp; omega)
    rwa [List.getElem_append_left x.isLt] at this
  have CL := Lib.hid (fun W (k : Gr w W) => ih n (by simp) B g b X S (aggOf (val l.length)) v W (h.gr k) (Nat.le_trans hB k.size) hX (hnd.gr k) hw.app.2 (by omega))
  have CA := Lib.hid (fun (x : Fin l.length) W (hb : Below B w W) (S' : List St) u (h : Bld B g W S' u) (hl : S'.length + bd l[x.val] ≤ 1000000000000) => ih l[x.val] (by simp) B g b X S' (aggOf (val x.val)) u W h (Nat.le_trans hB hb.size) hX (NodeV.same (fun c hc _ => hb.block c (hX c hc)) _ _ (hnl x)) (hw.app.1.mem _ (List.getElem_mem _)) hl)
  have hlst := (addS_len n b S).2 hw.app.2
  have HL := Lib.hid (fun (pre : List (Fin l.length)) (x : Fin l.length) (hp : pre.length < l.length) => show (eitF l b (addS n b S) pre).1.length + bd l[x.val] ≤ 1000000000000 by
    have h1 := eitF_len l hw.app.1 b (addS n b S) pre
    have h2 := room_alt hbd hp
    have h3 := bdm_mem (List.getElem_mem x.isLt : l[x.val] ∈ l)
    omega)
  have HL2 := Lib.hid (fun (pre : List (Fin l.length)) (x : Fin l.length) (hp : pre.length < l.length) => show (addS l[x.val] b (eitF l b (addS n b S) pre).1).1.length ≤ 1000000000000 by
    have h1 := HL.out pre x hp
    have h2 := (addS_len l[x.val] b (eitF l b (addS n b S) pre).1).2 (hw.app.1.mem _ (List.getElem_mem _))
    have h3 := wt_bd l[x.val]
    omega)
  have HNS := Lib.hid hnl
  have HB := Lib.hid h
  have hml : l.length ≤ 1000000000000 := by
    have : ((l ++ [n]).length + 1) * 1 ≤ ((l ++ [n]).length + 1) * (wts (l ++ [n]) + 1) := Nat.mul_le_mul (Nat.le_refl _) (by omega)
    omega
  have hx := hcs l.length (by omega)
  have key : ∀ i : Fin 6, w.cell? ⟨pb, l.length * 6 + i.val, none⟩ = some (val l.length i) := hx
  have q0 : w.cell? ⟨pb, l.length * 6, none⟩ = some (val l.length 0) := key 0
  have q1 : w.cell? ⟨pb, l.length * 6 + 1, none⟩ = some (val l.length 1) := key 1
  have q2 : w.cell? ⟨pb, l.length * 6 + 2, none⟩ = some (val l.length 2) := key 2
  have q3 : w.cell? ⟨pb, l.length * 6 + 3, none⟩ = some (val l.length 3) := key 3
  have q4 : w.cell? ⟨pb, l.length * 6 + 4, none⟩ = some (val l.length 4) := key 4
  have q5 : w.cell? ⟨pb, l.length * 6 + 5, none⟩ = some (val l.length 5) := key 5
  have hPl : PartsAt w (some ⟨pb, 0, none⟩) pb l.length val := fun _ => ⟨rfl, fun j hj => hcs j (by omega)⟩
  have HP := Lib.hid hPl
  rw [← eitF_all]
  obtain ⟨r0, hr0⟩ : ∃ r0, addS n b S = r0 := ⟨_, rfl⟩
  rw [hr0] at CL HL HL2 ⊢
  clear hr0 key hx hcs hPl hP hbd hlst hns hnl hnd hw ih h hbm
  obtain ⟨S0, f0⟩ := r0
  replace CL : Hid (∀ W, Gr w W → Calls Tryz.prog 97 #[.pointer (some ⟨g, 0, none⟩), aggOf (val l.length), .int .i64 b] W (fun e w' => e = .returned (.int .i64 f0) ∧ ∃ v', Bld B g w' S0 v' ∧ BStep g W v w' v')) := CL
  unfold aggOf at CL
  refine (callsIn_wide (n := 9)).1 ?_
  refine callsIn_of_wp_marks Tryz.func128 rfl trivial ?_ rfl
  simp only [Tryz.ntmps128, List.size_toArray, List.length_cons, List.length_nil, Nat.reduceAdd, Nat.reduceSub, Array.replicate_succ, Array.replicate_zero, List.push_toArray, List.append_toArray, List.nil_append, List.cons_append]
  have hi1 : ((l.length : Int) + 1) - 1 = (l.length : Int) := by omega
  gi_wp2
  refine wpIn_wide.2 ?_
  have k0 : Gr w ((w.alloc (.cells #[.pointer (some ⟨g, 0, none⟩)] 196)).alloc (.cells #[.int .i64 b] 3)) := ((Gr.refl w).alloc _ _).alloc _ _
  have n0 : ((w.alloc (.cells #[.pointer (some ⟨g, 0, none⟩)] 196)).alloc (.cells #[.int .i64 b] 3)).heap[w.heap.size]? = some (.cells #[.pointer (some ⟨g, 0, none⟩)] 196 (0, 0)) := (((Gr.refl (w.alloc (.cells #[.pointer (some ⟨g, 0, none⟩)] 196))).alloc #[.int .i64 b] 3).b.block _ (by simp)).trans (heap_alloc_new w _)
  have n1 := heap_alloc_new (w.alloc (.cells #[.pointer (some ⟨g, 0, none⟩)] 196)) (.cells #[.int .i64 b] 3)
  rw [show (w.alloc (.cells #[.pointer (some ⟨g, 0, none⟩)] 196)).heap.size = w.heap.size + 1 by simp] at n1
  have hsz : ((w.alloc (.cells #[.pointer (some ⟨g, 0, none⟩)] 196)).alloc (.cells #[.int .i64 b] 3)).heap.size = w.heap.size + 2 := by simp
  obtain ⟨W0, hW0⟩ : ∃ W0, (w.alloc (.cells #[.pointer (some ⟨g, 0, none⟩)] 196)).alloc (.cells #[.int .i64 b] 3) = W0 := ⟨_, rfl⟩
  rw [hW0] at k0 n0 n1 hsz ⊢
  clear hW0
  have HS : Hid (Eit8 W0.drew w.heap.size pb (l.length * 6) g b (val l.length)) := Lib.hid ⟨cell_of_row W0 _ 0 _ _ (0, 0) n0, cell_of_row W0 _ 0 _ _ (0, 0) n1, k0.cell q0, k0.cell q1, k0.cell q2, k0.cell q3, k0.cell q4, k0.cell q5⟩
  have K0 := Lib.hid k0
  have hv0 : ∀ k, w.heap.size ≤ k → v.ownBlock ≠ some k := fun k hk e => by have := hrl _ e; omega
  have hvp : v.ownBlock ≠ some pb := fun e => by have := hrl _ e; omega
  have HV := Lib.hid hv0
  have hsz1 : W0.heap.size ≤ w.heap.size + 2 := by omega
  have hsz2 : w.heap.size + 2 ≤ W0.heap.size := by omega
  clear hsz
  have hix : (l.length : Int) < (l.length : Int) + 1 := by omega
  have hix0 : (0 : Int) ≤ (l.length : Int) := by omega
  have hgB : g < W0.heap.size := by omega
  clear k0 n0 n1 q0 q1 q2 q3 q4 q5 hv0
  go_region_held3 (fun w' => w'.cell? ⟨w.heap.size, 0, none⟩ = some (.pointer (some ⟨g, 0, none⟩)) ∧ w'.cell? ⟨w.heap.size + 1, 0, none⟩ = some (.int .i64 b) ∧ w'.cell? ⟨pb, l.length * 6, none⟩ = some (val l.length 0) ∧ w'.cell? ⟨pb, l.length * 6 + 1, none⟩ = some (val l.length 1) ∧ w'.cell? ⟨pb, l.length * 6 + 2, none⟩ = some (val l.length 2) ∧ w'.cell? ⟨pb, l.length * 6 + 3, none⟩ = some (val l.length 3) ∧ w'.cell? ⟨pb, l.length * 6 + 4, none⟩ = some (val l.length 4) ∧ w'.cell? ⟨pb, l.length * 6 + 5, none⟩ = some (val l.length 5))
    (first
     | exact HS1.out
     | exact HS1.out.gr ((Gr.refl _).alloc _ _)
     | exact HS1.out.set _ (by omega) (by omega) (by omega)
     | exact HS.out
     | exact HS.out.gr ((Gr.refl _).alloc _ _)
     | exact (HS1.out.gr ((Gr.refl _).alloc _ _)).set _ (by omega) (by omega) (by omega))
    (first
     | (go_at_call 97
        refine (CL.out _ K0.out.drew).mono ?_
        rintro e w1 ⟨rfl, v1, hb1, hs1⟩
        have hz1 : W0.heap.size ≤ w1.heap.size := hs1.size
        have HS1 : Hid (Eit8 w1 w.heap.size pb (l.length * 6) g b (val l.length)) := Lib.hid (HS.out.step hs1 ⟨by omega, HV.out _ (by omega)⟩ ⟨by omega, HV.out _ (by omega)⟩ ⟨by omega, hvp⟩)
        have HM := Lib.hid (show BStep g w v w1 v1 from K0.out.drew.bstep hs1))
     | (go_at_call 97
        refine (CL.out _ (K0.out.drew.alloc _ _)).mono ?_
        rintro e w1 ⟨rfl, v1, hb1, hs1⟩
        have hz1 : W0.heap.size + 1 ≤ w1.heap.size := by
          have := hs1.size
          simp at this
          exact this
        have HS1 : Hid (Eit8 w1 w.heap.size pb (l.length * 6) g b (val l.length)) := Lib.hid ((HS.out.gr ((Gr.refl _).alloc _ _)).step hs1 ⟨by omega, HV.out _ (by omega)⟩ ⟨by omega, HV.out _ (by omega)⟩ ⟨by omega, hvp⟩)
        have HM := Lib.hid (show BStep g w v w1 v1 from (K0.out.drew.alloc _ _).bstep hs1)
        have hN1 : w1.heap[W0.heap.size]? = some (.cells #[.int .i64 0] 3 (0, 0)) := (hs1.block _ (by simp) (by omega) (HV.out _ (by omega))).trans (heap_alloc_new W0.drew _)
        have c1 := cell_of_row w1 _ 0 _ _ (0, 0) hN1
        have f1 := frozen_of_row w1 _ 0 _ _ hN1
        simp only [List.getElem?_toArray, List.getElem?_cons_zero] at c1))
  all_goals
    first
    | (have HE := Lib.hid (eitSt_late (f0 := f0) hb1 HM.out HS1.out (by omega) (hs1.other (by first | (show _ < W0.heap.size; omega) | (simp <;> omega)) (HV.out _ (by omega))) (hs1.other (by first | (show _ < W0.heap.size; omega) | (simp <;> omega)) (HV.out _ (by omega))))
       obtain ⟨N2, hN2⟩ : ∃ N2, w1.heap.size = N2 := ⟨_, rfl⟩
       obtain ⟨Wb, hWb⟩ : ∃ Wb, w1.alloc (.cells #[.int .i64 f0] 3) = Wb := ⟨_, rfl⟩
       rw [hN2, hWb] at HE
       rw [hN2, hWb])
    | (have HE := Lib.hid (eitSt_early (f0 := f0) hb1 HM.out HS1.out (by omega) hgl (by omega) (hs1.other (by first | (show _ < W0.heap.size; omega) | (simp <;> omega)) (HV.out _ (by omega))) (hs1.other (by first | (show _ < W0.heap.size; omega) | (simp <;> omega)) (HV.out _ (by omega))) (hs1.other (by first | (show _ < W0.heap.size; omega) | (simp <;> omega)) (HV.out _ (by omega))) _ hN1)
       obtain ⟨N2, hN2⟩ : ∃ N2, W0.heap.size = N2 := ⟨_, rfl⟩
       rw [hN2] at HE
       rw [hN2]
       obtain ⟨Wb, hWb⟩ : ∃ Wb, w1.setCell ⟨N2, 0, none⟩ (.int .i64 f0) = Wb := ⟨_, rfl⟩
       rw [hWb] at HE
       rw [hWb]
       clear hN1 c1 f1)
    clear HM hs1 hb1 HS1 hN2 hWb HS K0 CL HV hsz1 hsz2 hz1 hgB hvp
    gi_wp2_with (refine ⟨trivial, ?_⟩; gi_at_call 127; refine (backward_in Fence.wide _ trivial rfl _ _ _ _).mono ?_; rintro e w' ⟨rfl, rfl⟩)
    have k2 : Gr Wb (Wb.alloc (.cells #[.slice (some ⟨pb, 0, none⟩) l.length c] 140)) := (Gr.refl Wb).alloc _ _
    have n3 := heap_alloc_new Wb (.cells #[.slice (some ⟨pb, 0, none⟩) l.length c] 140)
    have hz2 : (Wb.alloc (.cells #[.slice (some ⟨pb, 0, none⟩) l.length c] 140)).heap.size = Wb.heap.size + 1 := by simp
    obtain ⟨W2, hW2⟩ : ∃ W2, Wb.alloc (.cells #[.slice (some ⟨pb, 0, none⟩) l.length c] 140) = W2 := ⟨_, rfl⟩
    rw [hW2] at k2 n3 hz2 ⊢
    clear hW2
    have n2 := (k2.b.block _ (Array.getElem?_eq_some_iff.1 HE.out.c2).1).trans HE.out.c2
    have hN2 : N2 < Wb.heap.size := (Array.getElem?_eq_some_iff.1 HE.out.c2).1
    have hN2l := HE.out.lo
    have hbW := HE.out.step.below HB.out hB
    have hwb := HE.out.step.size
    have hgb := HE.out.bld.lt
    have hown := HE.out.own
    have hol := HE.out.bld.r.lt
    have HOWN := Lib.hid hown
    have HOL := Lib.hid hol
    clear hown hol
    have hP2 : PartsAt W2 (some ⟨pb, 0, none⟩) pb l.length val := fun h0 => by
      obtain ⟨e, hs⟩ := HP.out h0
      exact ⟨e, fun j hj i => k2.cell ((hbW.cell (p := ⟨pb, j * 6 + i.val, none⟩) hpb).trans (hs j hj i))⟩
    refine wpIn_rangeFunc_ownH rfl (by omega) (gf := 169) (lb := #[.pointer (some ⟨Wb.heap.size, 0, none⟩)]) rfl trivial (enters_of Tryz.func169 (by kernel_rfl) rfl)
      (backward_stops Fence.wide _ trivial rfl (by omega) Wb.heap.size pb l.length c (some ⟨pb, 0, none⟩) val hml W2 (by omega) (cell_of_row W2 _ 0 _ _ (0, 0) n3) hP2) two_t (two_b (by omega) (by omega)) (Below.refl _ _) (fun _ => rfl)
      (fun pre W => TurnI B g N2 W2 v1 (eitF l b (S0, f0) pre) W)
      (fun _ _ _ => False)
      (turnI_own B g N2 W2 v1 (eitF l b (S0, f0)))
      (fun _ _ _ _ _ hs _ _ => hs)
      ⟨v1, HE.out.bld.gr k2, BMid.refl _ _ _ _, n2⟩
      (fun x a' W => ∃ Bx, W2.heap.size ≤ Bx ∧ W.heap[Bx]? = some (.cells #[val x.val 0, val x.val 1, val x.val 2, val x.val 3, val x.val 4, val x.val 5] 142 (0, 0)) ∧ a' = { tmps := #[.pointer (some ⟨g, 0, none⟩), .slice (some ⟨pb, 0, none⟩) (l.length + 1) c, .int .i64 b, .pointer (some ⟨w.heap.size, 0, none⟩), undef, .pointer (some ⟨w.heap.size + 1, 0, none⟩), .int .i64 0, .int .i64 l.length, .pointer (some ⟨N2, 0, none⟩), undef, .pointer (some ⟨Bx, 0, none⟩), .slice (some ⟨pb, 0, none⟩) (l.length + 1) c, .int .i64 (l.length + 1), .int .i64 l.length, .pointer (some ⟨g, 0, none⟩), .slice (some ⟨pb, 0, none⟩) (l.length + 1) c, .int .i64 l.length, .pointer (some ⟨pb, l.length * 6, none⟩), .agg #[val l.length 0, val l.length 1, val l.length 2, val l.length 3, val l.length 4, val l.length 5], .int .i64 b, .int .i64 f0, .slice (some ⟨pb, 0, none⟩) (l.length + 1) c, .int .i64 l.length, .slice (some ⟨pb, 0, none⟩) l.length c, .func (.func 169) #[] #[.pointer (some ⟨Wb.heap.size, 0, none⟩)], .int .i64 (x.val : Int), aggOf (val x.val), undef, undef, undef, undef, undef, undef, undef, undef, undef], defers := [] })
      (fun x a' _ X Y row hs hg hr => by obtain ⟨Bx, h1, h2, h3⟩ := hs; exact ⟨Bx, h1, cells_turn hg (fun r e => (hr r e).2) h2, h3⟩)
      ?assign ?body ?done ?stop
    case assign =>
      rintro l1 pre x W K hI hK
      obtain ⟨k, u0, u1, u2, u3, m, cc, A2, y0, y1, y2, y3, y4, y5⟩ := six_form (HNS.out x)
      unfold aggOf at hK ⊢
      simp only [y0, y1, y2, y3, y4, y5] at hK ⊢
      obtain ⟨v', hbld, hmid, hN⟩ := hI
      have hWs := hmid.size
      have ga : Gr W (W.alloc (.cells #[.int .i64 k, .int .u64 u0, .int .u64 u1, .int .u64 u2, .int .u64 u3, .slice A2 m cc] 142)) := (Gr.refl W).alloc _ _
      gi_wp2
      exact hK _ _ ((KeepsOthers.alloc _ _).from _) ⟨ga.b.block _ (by omega), ga.b.block _ (by omega)⟩ ⟨v', hbld.gr ga, hmid.gr ga, (ga.b.block _ (by omega)).trans hN⟩ ⟨W.heap.size, hWs, heap_alloc_new W _, rfl⟩
    case body =>
      rintro l1 pre x a' W hl1 - ⟨v', hbld, hmid, hN⟩ ⟨Bx, hBx, bX, rfl⟩ hlt
      have hbelow : Below B w W := (hbW.trans (k2.b.mono (by omega))).trans (hmid.below hbg (by omega) (fun k e => (HOL.out k e).1) (by omega))
      have hlb := HL.out pre x hlt
      have hWs := hmid.size
      have m0 := (World.cell?_of_block (a := ⟨w.heap.size, 0, none⟩) (hmid.block w.heap.size (by omega) (by omega) (by omega) (HOWN.out _ (by omega)))).trans (k2.cell HE.out.c0)
      have m1 := (World.cell?_of_block (a := ⟨w.heap.size + 1, 0, none⟩) (hmid.block (w.heap.size + 1) (by omega) (by omega) (by omega) (HOWN.out _ (by omega)))).trans (k2.cell HE.out.c1)
      have hv0 : v'.ownBlock ≠ some w.heap.size := hmid.other (by omega) (HOWN.out _ (by omega))
      have hv1 : v'.ownBlock ≠ some (w.heap.size + 1) := hmid.other (by omega) (HOWN.out _ (by omega))
      have hv2 : v'.ownBlock ≠ some N2 := hmid.other (by omega) (HOWN.out _ (by omega))
      have hv3 : v'.ownBlock ≠ some Wb.heap.size := hmid.other (by omega) (fun e => by have := (HOL.out _ e).2; omega)
      have hvp : v'.ownBlock ≠ some pb := fun e => by have := (hbld.r.lt _ e).1; omega
      have hBxl : Bx < W.heap.size := (Array.getElem?_eq_some_iff.1 bX).1
      have hvx : v'.ownBlock ≠ some Bx := fun e => by
        obtain ⟨cur, hcur⟩ := hbld.r.typeOf e
        rw [bX] at hcur
        simp at hcur
      have C1 := Lib.hid (CA.out x W.drew ⟨hbelow.os, hbelow.tape, hbelow.output, hbelow.size, hbelow.block⟩ (eitF l b (S0, f0) pre).1 v' (hbld.gr (Gr.refl W).drew) hlb)
      have HS : Hid (Eit8 W.drew w.heap.size Bx 0 g b (val x.val)) := Lib.hid ⟨m0, m1, cell_of_row W _ 0 _ _ (0, 0) bX, cell_of_row W _ 1 _ _ (0, 0) bX, cell_of_row W _ 2 _ _ (0, 0) bX, cell_of_row W _ 3 _ _ (0, 0) bX, cell_of_row W _ 4 _ _ (0, 0) bX, cell_of_row W _ 5 _ _ (0, 0) bX⟩
      have hstep := eitF_snoc l b (S0, f0) pre x
      have hln : (addS l[x.val] b (eitF l b (S0, f0) pre).1).1.length ≤ 1000000000000 := HL2.out pre x hlt
      obtain ⟨r, hr⟩ : ∃ r, eitF l b (S0, f0) pre = r := ⟨_, rfl⟩
      rw [hr] at hN hstep C1 hbld hln
      have HB1 := Lib.hid hbld
      have HM := Lib.hid hmid
      clear hr hlb hbelow
      obtain ⟨S1, f1⟩ := r
      obtain ⟨q, hq⟩ : ∃ q, addS l[x.val] b S1 = q := ⟨_, rfl⟩
      simp only at hstep hN C1 hln
      rw [hq] at C1 hstep hln
      obtain ⟨S3, f3⟩ := q
      have HST := Lib.hid hstep
      clear hq hstep hbld hmid
      replace C1 : Hid (Calls Tryz.prog 97 #[.pointer (some ⟨g, 0, none⟩), aggOf (val x.val), .int .i64 b] W.drew (fun e w' => e = .returned (.int .i64 f3) ∧ ∃ v'', Bld B g w' S3 v'' ∧ BStep g W.drew v' w' v'')) := C1
      have c2 := cell_of_row W _ 0 _ _ (0, 0) hN
      have hg0 : w.heap.size ≠ g ∧ w.heap.size + 1 ≠ g ∧ Bx ≠ g ∧ N2 ≠ g ∧ Wb.heap.size ≠ g ∧ pb ≠ g := by omega
      obtain ⟨g0, g1, g2, g3, g4, g5⟩ := hg0
      unfold aggOf at C1 ⊢
      gi_wp2
      refine region_in_round (S := fun w' => Eit8 w' w.heap.size Bx 0 g b (val x.val)) (by kernel_rfl) ?hQ ?hd ?_
      case hQ => rintro ⟨a, w, h⟩; exact h
      case hd => simp
      refine wpAnyH_take (i := 0) (oi := _) (v := .pointer (some ⟨g, 0, none⟩)) rfl (by kernel_rfl) (by kernel_rfl) (by kernel_rfl) (fun _ _ _ h => h) (Or.inl ⟨by rfl, ?_⟩) HS.out ?_
      · intro w' hS
        obtain ⟨s0, s1, s2, s3, s4, s5, s6, s7⟩ := hS
        go_simp
      simp only [Act.put, List.setIfInBounds_toArray]
      refine wpAnyH_take (i := 1) (oi := _) (v := .pointer (some ⟨g, 0, none⟩)) rfl (by kernel_rfl) (by kernel_rfl) (by kernel_rfl) (fun _ _ _ h => h) (Or.inl ⟨by rfl, ?_⟩) HS.out ?_
      · intro w' hS
        obtain ⟨s0, s1, s2, s3, s4, s5, s6, s7⟩ := hS
        go_simp
      simp only [Act.put]
      refine wpAnyH_take (i := 2) (oi := _) (v := .agg #[val x.val 0, val x.val 1, val x.val 2, val x.val 3, val x.val 4, val x.val 5]) rfl (by kernel_rfl) (by kernel_rfl) (by kernel_rfl) (fun _ _ _ h => h) (Or.inl ⟨by rfl, ?_⟩) HS.out ?_
      · intro w' hS
        obtain ⟨s0, s1, s2, s3, s4, s5, s6, s7⟩ := hS
        go_simp
      simp only [Act.put]
      refine wpAnyH_take (i := 3) (oi := _) (v := .int .i64 b) rfl (by kernel_rfl) (by kernel_rfl) (by kernel_rfl) (fun _ _ _ h => h) (Or.inl ⟨by rfl, ?_⟩) HS.out ?_
      · intro w' hS
        obtain ⟨s0, s1, s2, s3, s4, s5, s6, s7⟩ := hS
        go_simp
      simp only [Act.put]
      refine wpAnyH_ready (rs := [4, 5]) (by kernel_rfl) (by simp) ?_
      refine AllReadyH.cons rfl (fun K hK => ?_) (AllReadyH.cons rfl (fun K hK => ?_) AllReadyH.nil)
      · go_simp
        refine C1.out.mono ?_
        rintro e w1 ⟨rfl, v3, hb3, hs3⟩
        have HB3 := Lib.hid hb3
        have HM3 := Lib.hid (show BStep g W v' w1 v3 from (Gr.refl W).drew.bstep hs3)
        have z3 : W.heap.size ≤ w1.heap.size := hs3.size
        have o0 : v3.ownBlock ≠ some w.heap.size := hs3.other (by show _ < W.heap.size; omega) hv0
        have o1 : v3.ownBlock ≠ some (w.heap.size + 1) := hs3.other (by show _ < W.heap.size; omega) hv1
        have o2 : v3.ownBlock ≠ some N2 := hs3.other (by show _ < W.heap.size; omega) hv2
        have ox : v3.ownBlock ≠ some Bx := hs3.other (by show _ < W.heap.size; omega) hvx
        have hN3 := (hs3.block N2 (by show _ < W.heap.size; omega) g3 hv2).trans hN
        have d2 := cell_of_row w1 _ 0 _ _ (0, 0) hN3
        have HS3 := Lib.hid (HS.out.step hs3 ⟨g0, hv0⟩ ⟨g1, hv1⟩ ⟨g2, hvx⟩)
        clear hb3 hs3
        dsimp only
        refine hK.out _ _ HS3.out (fun _ => ?_)
        clear hK K
        refine wpAnyH_ready (rs := [5]) (by kernel_rfl) (by simp) ?_
        refine AllReadyH.cons rfl (fun K hK => ?_) AllReadyH.nil
        go_simp
        refine hK.out _ _ HS3.out (fun _ => ?_)
        clear hK K
        refine wpAnyH_ready (rs := [6]) (by kernel_rfl) (by simp) ?_
        refine AllReadyH.cons rfl (fun K hK => ?_) AllReadyH.nil
        go_simp
        refine hK.out _ _ HS3.out (fun _ => ?_)
        clear hK K
        refine wpAnyH_ready (rs := [7]) (by kernel_rfl) (by simp) ?_
        refine AllReadyH.cons rfl (fun K hK => ?_) AllReadyH.nil
        go_simp
        refine (put_rx B g S3 ⟨noB, true, f3, f1⟩ v3 0 0 0 0 w1 HB3.out (by omega) hln (wd_none 0) (wd_none 1) (wd_none 2) (wd_none 3)).mono ?_
        rintro e w2 ⟨rfl, v4, hb4, hs4⟩
        have z4 := hs4.size
        have hN4 := (hs4.block N2 (by omega) g3 o2).trans hN3
        have d4 := cell_of_row w2 _ 0 _ _ (0, 0) hN4
        have e4 := frozen_of_row w2 _ 0 _ _ hN4
        have HS4 := Lib.hid (HS3.out.step hs4 ⟨g0, o0⟩ ⟨g1, o1⟩ ⟨g2, ox⟩)
        have HF := Lib.hid (show KeepsFrom W2.heap.size W (w2.setCell ⟨N2, 0, none⟩ (.int .i64 S3.length)) from ((HM3.out.keepsFrom HB1.out _).trans (hs4.keepsFrom HB3.out _)).trans ((KeepsOthers.setCell _ _ _).from _))
        have HT := Lib.hid (show Two Wb.heap.size pb W (w2.setCell ⟨N2, 0, none⟩ (.int .i64 S3.length)) from ⟨(Below.heap_setCell w2 _ _ _ (by show Wb.heap.size ≠ N2; omega)).trans ((HM3.out.trans hs4).block _ (by omega) g4 hv3), (Below.heap_setCell w2 _ _ _ (by show pb ≠ N2; omega)).trans ((HM3.out.trans hs4).block _ (by omega) g5 hvp)⟩)
        have HI := Lib.hid (show TurnI B g N2 W2 v1 (eitF l b (S0, f0) (pre ++ [x])) (w2.setCell ⟨N2, 0, none⟩ (.int .i64 S3.length)) by
          rw [HST.out]
          refine ⟨v4, hb4.setFar _ (by omega) (hs4.other (by omega) o2), ((HM.out.step HM3.out).step hs4).set _, ?_⟩
          have := heap_setCell_same w2 N2 0 _ _ (.int .i64 S3.length) hN4
          simpa [forkOn] using this)
        clear hb4 hs4 HST
        dsimp only
        refine hK.out _ _ HS4.out (fun _ => ?_)
        clear hK K
        refine wpAnyH_ready (rs := [8]) (by kernel_rfl) (by simp) ?_
        refine AllReadyH.cons rfl (fun K hK => ?_) AllReadyH.nil
        go_simp
        refine hK.out _ _ (HS4.out.set _ (by omega) (by omega) (by omega)) (fun _ => ?_)
        clear hK K
        refine wpAnyH_done (by kernel_rfl) ?_ _
        exact ⟨HF.out, HT.out, HI.out⟩
      · go_simp
        refine hK.out _ _ HS.out (fun _ => ?_)
        clear hK K
        refine wpAnyH_ready (rs := [4]) (by kernel_rfl) (by simp) ?_
        refine AllReadyH.cons rfl (fun K hK => ?_) AllReadyH.nil
        go_simp
        refine C1.out.mono ?_
        rintro e w1 ⟨rfl, v3, hb3, hs3⟩
        have HB3 := Lib.hid hb3
        have HM3 := Lib.hid (show BStep g W v' w1 v3 from (Gr.refl W).drew.bstep hs3)
        have z3 : W.heap.size ≤ w1.heap.size := hs3.size
        have o0 : v3.ownBlock ≠ some w.heap.size := hs3.other (by show _ < W.heap.size; omega) hv0
        have o1 : v3.ownBlock ≠ some (w.heap.size + 1) := hs3.other (by show _ < W.heap.size; omega) hv1
        have o2 : v3.ownBlock ≠ some N2 := hs3.other (by show _ < W.heap.size; omega) hv2
        have ox : v3.ownBlock ≠ some Bx := hs3.other (by show _ < W.heap.size; omega) hvx
        have hN3 := (hs3.block N2 (by show _ < W.heap.size; omega) g3 hv2).trans hN
        have d2 := cell_of_row w1 _ 0 _ _ (0, 0) hN3
        have HS3 := Lib.hid (HS.out.step hs3 ⟨g0, hv0⟩ ⟨g1, hv1⟩ ⟨g2, hvx⟩)
        clear hb3 hs3
        dsimp only
        refine hK.out _ _ HS3.out (fun _ => ?_)
        clear hK K
        refine wpAnyH_ready (rs := [6]) (by kernel_rfl) (by simp) ?_
        refine AllReadyH.cons rfl (fun K hK => ?_) AllReadyH.nil
        go_simp
        refine hK.out _ _ HS3.out (fun _ => ?_)
        clear hK K
        refine wpAnyH_ready (rs := [7]) (by kernel_rfl) (by simp) ?_
        refine AllReadyH.cons rfl (fun K hK => ?_) AllReadyH.nil
        go_simp
        refine (put_rx B g S3 ⟨noB, true, f3, f1⟩ v3 0 0 0 0 w1 HB3.out (by omega) hln (wd_none 0) (wd_none 1) (wd_none 2) (wd_none 3)).mono ?_
        rintro e w2 ⟨rfl, v4, hb4, hs4⟩
        have z4 := hs4.size
        have hN4 := (hs4.block N2 (by omega) g3 o2).trans hN3
        have d4 := cell_of_row w2 _ 0 _ _ (0, 0) hN4
        have e4 := frozen_of_row w2 _ 0 _ _ hN4
        have HS4 := Lib.hid (HS3.out.step hs4 ⟨g0, o0⟩ ⟨g1, o1⟩ ⟨g2, ox⟩)
        have HF := Lib.hid (show KeepsFrom W2.heap.size W (w2.setCell ⟨N2, 0, none⟩ (.int .i64 S3.length)) from ((HM3.out.keepsFrom HB1.out _).trans (hs4.keepsFrom HB3.out _)).trans ((KeepsOthers.setCell _ _ _).from _))
        have HT := Lib.hid (show Two Wb.heap.size pb W (w2.setCell ⟨N2, 0, none⟩ (.int .i64 S3.length)) from ⟨(Below.heap_setCell w2 _ _ _ (by show Wb.heap.size ≠ N2; omega)).trans ((HM3.out.trans hs4).block _ (by omega) g4 hv3), (Below.heap_setCell w2 _ _ _ (by show pb ≠ N2; omega)).trans ((HM3.out.trans hs4).block _ (by omega) g5 hvp)⟩)
        have HI := Lib.hid (show TurnI B g N2 W2 v1 (eitF l b (S0, f0) (pre ++ [x])) (w2.setCell ⟨N2, 0, none⟩ (.int .i64 S3.length)) by
          rw [HST.out]
          refine ⟨v4, hb4.setFar _ (by omega) (hs4.other (by omega) o2), ((HM.out.step HM3.out).step hs4).set _, ?_⟩
          have := heap_setCell_same w2 N2 0 _ _ (.int .i64 S3.length) hN4
          simpa [forkOn] using this)
        clear hb4 hs4 HST
        dsimp only
        refine hK.out _ _ HS4.out (fun _ => ?_)
        clear hK K
        refine wpAnyH_ready (rs := [8]) (by kernel_rfl) (by simp) ?_
        refine AllReadyH.cons rfl (fun K hK => ?_) AllReadyH.nil
        go_simp
        refine hK.out _ _ (HS4.out.set _ (by omega) (by omega) (by omega)) (fun _ => ?_)
        clear hK K
        refine wpAnyH_done (by kernel_rfl) ?_ _
        exact ⟨HF.out, HT.out, HI.out⟩
    case done =>
      rintro D ys W hD rfl ⟨v', hbld, hmid, hN⟩ hK
      have c2 := cell_of_row W _ 0 _ _ (0, 0) hN
      gi_wp2
      refine ⟨by simp, .inl ⟨_, _, rfl, run_takeDeferred hK, ?_⟩⟩
      have hk : W.grownBy (W.putObj D (.deferred none)) (some D) := grownBy_putObj' W D _
      have hkr : ∀ r, some D = some r → ∃ o : Obj, W.heap[r]? = some o ∧ o.isCells = false := fun r e => by cases e; exact ⟨_, hK, rfl⟩
      have h1 := hmid.turn hk (fun r e => by cases e; exact hD)
      exact ⟨_, results_tmp rfl _ _ _, rfl, v', hbld.turn hk hkr, (HE.out.step.gr k2).mid h1 (by omega)⟩
    case stop =>
      rintro D c pre W _ _ h _
      exact h.elim
end Go.Proofs.YtoooaipbkkiefaaGreatDoor
namespace Go.Proofs.YtoooaipbkkiefaaGreatDoor
open Go.RowKit
set_option maxRecDepth 100000
set_option maxHeartbeats 4000000

theorem add_alt (l : List Nd) (ih : ∀ n ∈ l, AddC n) : AddC (.op 2 l) := by
  intro B g b X S nv v w h hB hX hn hw hbd
  obtain ⟨A, pb, c, val, rfl, hc1, hc2, hP, hXp, hns⟩ := hn.parts
  unfold Wf at hw
  unfold bd at hbd
  obtain ⟨l', m, rfl⟩ : ∃ l' m, l = l' ++ [m] := by
    have h0 : l ≠ [] := by
      rcases hw.2 with e | ⟨-, e⟩ | ⟨e, -⟩
      · omega
      · exact e
      · omega
    exact ⟨l.dropLast, l.getLast h0, (List.dropLast_concat_getLast h0).symm⟩
  have CE := Lib.hid (fun W (k : Gr w W) => addEither_any l' m ih B g b X S A c v W (h.gr k) (Nat.le_trans hB k.size) hX pb val (fun h0 => ⟨(hP h0).1, fun j hj i => k.cell ((hP h0).2 j hj i)⟩) hXp hc1 hc2 (fun i hi => (hns i hi).gr k) hw.1 hbd)
  have e2 : addS (.op 2 (l' ++ [m])) b S = addAlt (l' ++ [m]) b S := by
    conv => lhs; unfold addS
    rfl
  rw [e2]
  obtain ⟨L, hL⟩ : ∃ L, (l' ++ [m]).length = L := ⟨_, rfl⟩
  obtain ⟨r, hr⟩ : ∃ r, addAlt (l' ++ [m]) b S = r := ⟨_, rfl⟩
  rw [hL, hr] at CE
  rw [hL, hr]
  clear hP hns hn ih hw hbd hXp hc1 hc2 h hL hr
  go_enter Tryz.func97, Tryz.ntmps97
  go_wp2_with (go_at_call 128; refine (CE.out _ (Gr3 w _ _ _ _ _ _)).mono ?_; rintro e w1 ⟨rfl, v', hb', hs'⟩)
  go_ret
  exact ⟨rfl, v', hb', (Gr3 w _ _ _ _ _ _).bstep hs'⟩
theorem add_loop (k : Nat) (hk : k = 3 ∨ k = 4) (n : Nd) (ih : AddC n) : AddC (.op k [n]) := by
  intro B g b X S nv v w h hB hX hn hw hbd
  unfold Wf WfL at hw
  unfold bd bdm at hbd
  have hwn := hw.1.1
  have CE := Lib.hid (fun W (q : Gr w W) => addLoop_any k hk n ih B g b X S nv v W (h.gr q) (Nat.le_trans hB q.size) hX (hn.gr q) hwn (by omega))
  obtain ⟨pb, c, x, rfl, -⟩ := hn.part
  have e2 : addS (.op k [n]) b S = loopEnd k S.length b (addS n S.length (S ++ [⟨noB, true, 0, b⟩])) := by
    conv => lhs; unfold addS
    rw [if_neg (by omega), if_neg (by omega), if_neg (by omega)]
    unfold addHead
    rfl
  rw [e2]
  obtain ⟨r, hr⟩ : ∃ r, loopEnd k S.length b (addS n S.length (S ++ [⟨noB, true, 0, b⟩])) = r := ⟨_, rfl⟩
  rw [hr] at CE
  rw [hr]
  clear hn ih hw hbd h hr hwn
  rcases hk with rfl | rfl
  · go_enter Tryz.func97, Tryz.ntmps97
    go_wp2_with (go_at_call 129; refine (CE.out _ (Gr3 w _ _ _ _ _ _)).mono ?_; rintro e w1 ⟨rfl, v', hb', hs'⟩)
    go_ret
    exact ⟨rfl, v', hb', (Gr3 w _ _ _ _ _ _).bstep hs'⟩
  · go_enter Tryz.func97, Tryz.ntmps97
    go_wp2_with (go_at_call 129; refine (CE.out _ (Gr3 w _ _ _ _ _ _)).mono ?_; rintro e w1 ⟨rfl, v', hb', hs'⟩)
    go_ret
    exact ⟨rfl, v', hb', (Gr3 w _ _ _ _ _ _).bstep hs'⟩
theorem addN_any : ∀ n, AddC n := Nd.all add_one fun k l ih => by
  by_cases h1 : k = 1
  · subst h1; exact add_turn l ih
  by_cases h2 : k = 2
  · subst h2; exact add_alt l ih
  intro B g b X S nv v w h hB hX hn hw hbd
  have hw0 := hw
  unfold Wf at hw
  have hl : l.length = 1 ∧ (k = 3 ∨ k = 4 ∨ k = 5) := by
    rcases hw.2 with e | ⟨e, -⟩ | ⟨e, e2⟩
    · omega
    · omega
    · exact ⟨e2, e⟩
  obtain ⟨n, rfl⟩ := List.length_eq_one_iff.1 hl.1
  rcases hl.2 with rfl | rfl | rfl
  · exact add_loop 3 (.inl rfl) n (ih n (by simp)) B g b X S nv v w h hB hX hn hw0 hbd
  · exact add_loop 4 (.inr rfl) n (ih n (by simp)) B g b X S nv v w h hB hX hn hw0 hbd
  · exact add_opt n (ih n (by simp)) B g b X S nv v w h hB hX hn hw0 hbd
end Go.Proofs.YtoooaipbkkiefaaGreatDoor
namespace Go.Proofs.YtoooaipbkkiefaaGreatDoor
open Go.RowKit
set_option maxRecDepth 100000
set_option maxHeartbeats 4000000

def endSt : St := ⟨noB, false, 0, 0⟩
def buildS (n : Nd) : List St × Nat := addS n 0 [endSt]
/-- a pattern's states in memory -/
def ProgAt (W : World) (P : Nat) (r : List St × Nat) : Prop := ∃ v, W.heap[P]? = some (.cells #[v, .int .i64 r.2] 174 (0, 0)) ∧ RowSt W 0 v r.1
theorem RowSt.mono {W : World} {B B' : Nat} {v : Value} {l : List St} (h : RowSt W B v l) (hB : B' ≤ B) : RowSt W B' v l := by
  obtain ⟨vs, h1, h2, h3⟩ := h
  refine ⟨vs, h1, ⟨h2.1, ?_⟩, h3⟩
  rcases h2.2 with e | ⟨g, cap, cur, e1, e2, e3⟩
  · exact .inl e
  · exact .inr ⟨g, cap, cur, e1, by omega, e3⟩
theorem ProgAt.gr {W W' : World} {P : Nat} {r : List St × Nat} (h : ProgAt W P r) (k : Gr W W') : ProgAt W' P r := by
  obtain ⟨v, h1, h2⟩ := h
  exact ⟨v, (k.b.block _ (Array.getElem?_eq_some_iff.1 h1).1).trans h1, h2.keep fun c e => k.b.block c (h2.lt c e).2⟩
theorem row_one (W : World) (B : Nat) (hB : B ≤ W.heap.size) : RowSt (W.alloc (.cells #[.int .u64 0, .int .u64 0, .int .u64 0, .int .u64 0, .bool false, .int .i64 0, .int .i64 0] 168)) B (.slice (some ⟨W.heap.size, 0, none⟩) 1 1) [endSt] :=
  ⟨[stF 0 0 0 0 false 0 0], rfl, ⟨rfl, .inr ⟨W.heap.size, 1, _, rfl, hB, heap_alloc_new W _, Nat.le_refl _, by unfold maxLen; omega, rfl, rfl⟩⟩, fun i s x hs hx => by
    match i with
    | 0 =>
      obtain rfl := Option.some.inj hs
      obtain rfl := Option.some.inj hx
      exact ⟨0, 0, 0, 0, rfl, wd_none 0, wd_none 1, wd_none 2, wd_none 3⟩
    | i + 1 => cases hs⟩
theorem build_any (n : Nd) (nv : Value) (X : Nat → Prop) (w : World) (hX : ∀ c, X c → c < w.heap.size) (hn : NodeV w X n nv) (hw : Wf n) (hbd : 1 + bd n ≤ 1000000000000) :
    Calls Tryz.prog 65 #[nv] w fun e w' => ∃ P, e = .returned (.pointer (some ⟨P, 0, none⟩)) ∧ ProgAt w' P (buildS n) ∧ Gr w w' := by
  have CA := Lib.hid (fun W (q : Gr w W) g v (h : Bld w.heap.size g W [endSt] v) => addN_any n w.heap.size g 0 X [endSt] nv v W h q.size hX (hn.gr q) hw (by simp; omega))
  obtain ⟨k, u0, u1, u2, u3, m, c, A, rfl⟩ := node_form hn
  clear hn hw hbd hX
  unfold buildS
  obtain ⟨r, hr⟩ : ∃ r, addS n 0 [endSt] = r := ⟨_, rfl⟩
  rw [hr] at CA
  rw [hr]
  obtain ⟨S1, f1⟩ := r
  replace CA : Hid (∀ W, Gr w W → ∀ g v, Bld w.heap.size g W [endSt] v → Calls Tryz.prog 97 #[.pointer (some ⟨g, 0, none⟩), .agg #[.int .i64 k, .int .u64 u0, .int .u64 u1, .int .u64 u2, .int .u64 u3, .slice A m c], .int .i64 (0 : Nat)] W (fun e w' => e = .returned (.int .i64 f1) ∧ ∃ v', Bld w.heap.size g w' S1 v' ∧ BStep g W v w' v')) := CA
  clear hr
  go_enter Tryz.func65, Tryz.ntmps65
  go_wp2_with fail
  have s1 : (w.alloc (.cells #[.int .i64 k, .int .u64 u0, .int .u64 u1, .int .u64 u2, .int .u64 u3, .slice A m c] 142)).heap.size = w.heap.size + 1 := by simp
  have s2 : ((w.alloc (.cells #[.int .i64 k, .int .u64 u0, .int .u64 u1, .int .u64 u2, .int .u64 u3, .slice A m c] 142)).alloc (.cells #[.int .u64 0, .int .u64 0, .int .u64 0, .int .u64 0, .bool false, .int .i64 0, .int .i64 0] 168)).heap.size = w.heap.size + 1 + 1 := by simp
  have r1 := row_one (w.alloc (.cells #[.int .i64 k, .int .u64 u0, .int .u64 u1, .int .u64 u2, .int .u64 u3, .slice A m c] 142)) w.heap.size (by omega)
  rw [s1] at r1
  have g3 : Gr ((w.alloc (.cells #[.int .i64 k, .int .u64 u0, .int .u64 u1, .int .u64 u2, .int .u64 u3, .slice A m c] 142)).alloc (.cells #[.int .u64 0, .int .u64 0, .int .u64 0, .int .u64 0, .bool false, .int .i64 0, .int .i64 0] 168)) (((w.alloc (.cells #[.int .i64 k, .int .u64 u0, .int .u64 u1, .int .u64 u2, .int .u64 u3, .slice A m c] 142)).alloc (.cells #[.int .u64 0, .int .u64 0, .int .u64 0, .int .u64 0, .bool false, .int .i64 0, .int .i64 0] 168)).alloc (.cells #[.slice (some ⟨w.heap.size + 1, 0, none⟩) 1 1] 171)) := (Gr.refl _).alloc _ _
  have c3 := heap_alloc_new ((w.alloc (.cells #[.int .i64 k, .int .u64 u0, .int .u64 u1, .int .u64 u2, .int .u64 u3, .slice A m c] 142)).alloc (.cells #[.int .u64 0, .int .u64 0, .int .u64 0, .int .u64 0, .bool false, .int .i64 0, .int .i64 0] 168)) (.cells #[.slice (some ⟨w.heap.size + 1, 0, none⟩) 1 1] 171)
  rw [s2] at c3
  have hb : Bld w.heap.size (w.heap.size + 1 + 1) (((w.alloc (.cells #[.int .i64 k, .int .u64 u0, .int .u64 u1, .int .u64 u2, .int .u64 u3, .slice A m c] 142)).alloc (.cells #[.int .u64 0, .int .u64 0, .int .u64 0, .int .u64 0, .bool false, .int .i64 0, .int .i64 0] 168)).alloc (.cells #[.slice (some ⟨w.heap.size + 1, 0, none⟩) 1 1] 171)) [endSt] (.slice (some ⟨w.heap.size + 1, 0, none⟩) 1 1) :=
    ⟨c3, r1.keep (fun j e => g3.b.block _ (by have : w.heap.size + 1 = j := by simpa [Value.ownBlock] using e
                                              omega)), by simp [Value.ownBlock], by omega⟩
  have gw : Gr w (((w.alloc (.cells #[.int .i64 k, .int .u64 u0, .int .u64 u1, .int .u64 u2, .int .u64 u3, .slice A m c] 142)).alloc (.cells #[.int .u64 0, .int .u64 0, .int .u64 0, .int .u64 0, .bool false, .int .i64 0, .int .i64 0] 168)).alloc (.cells #[.slice (some ⟨w.heap.size + 1, 0, none⟩) 1 1] 171)) := (((Gr.refl w).alloc _ _).alloc _ _).alloc _ _
  refine (CA.out _ gw _ _ hb).mono ?_
  rintro e w1 ⟨rfl, v1, hb1, hs1⟩
  have G1 : Gr w w1 := ⟨gw.b.trans (hs1.below hb gw.size)⟩
  have cg := hb1.cell
  obtain ⟨c0, -⟩ := cg
  obtain ⟨A1, cc1, rfl⟩ := hb1.r.form
  have HF := Lib.hid (show (∃ P, Ending.returned (.pointer (some ⟨w1.heap.size, 0, none⟩)) = .returned (.pointer (some ⟨P, 0, none⟩)) ∧ ProgAt (w1.alloc (.cells #[.slice A1 S1.length cc1, .int .i64 f1] 174)) P (S1, f1) ∧ Gr w (w1.alloc (.cells #[.slice A1 S1.length cc1, .int .i64 f1] 174))) from
    ⟨_, rfl, ⟨_, heap_alloc_new w1 _, (hb1.r.mono (Nat.zero_le _)).keep fun j e => ((Gr.refl w1).alloc _ _).b.block j (hb1.r.lt j e).2⟩, G1.alloc _ _⟩)
  clear hb1 hs1 hb G1 c3 r1 g3 gw CA s1 s2
  go_wp2_with fail
  go_ret
  exact HF.out
end Go.Proofs.YtoooaipbkkiefaaGreatDoor
namespace Go.Proofs.YtoooaipbkkiefaaGreatDoor

/-- As Q; by a goto to a label: J of that label. -/
def jumps (J : Nat → Act → World → Prop) (Q : Exit → Act → World → Prop) : Exit → Act → World → Prop
  | .goto l, a, w => J l a w
  | e, a, w => Q e a w
section
variable {P : Program} {a : Act} {w : World} {Q : Exit → Act → World → Prop}
theorem jumps_goto (J : Nat → Act → World → Prop) (l : Nat) : jumps J Q (.goto l) a w = J l a w := rfl
theorem jumps_ret (J : Nat → Act → World → Prop) : jumps J Q .ret a w = Q .ret a w := rfl
theorem jumps_normal (J : Nat → Act → World → Prop) : jumps J Q .normal a w = Q .normal a w := rfl
theorem wp_scope_ghost {c : Code} (K : Nat → Nat → Act → World → Prop)
    (first : c.wp P (jumps (fun l a w => ∃ f, K f l a w) Q) a w)
    (pass : ∀ f l a w, K f l a w → ∃ rest, findLabel c l = some rest ∧ rest.wp P (jumps (fun l' a' w' => ∃ f', f' < f ∧ K f' l' a' w') Q) a w) : (Code.scope c).wp P Q a w := by
  intro b k cs
  have key : ∀ n l a w, K n l a w → ∃ rest, gotoIn l (.inScope c :: k) = some (.code rest :: .inScope c :: k) ∧ ∃ e a' w', Q e a' w' ∧ Arrives P (lone (b.at a (.code rest :: .inScope c :: k)) cs w) b k cs e a' w' := by
    intro n
    induction n using Nat.strongRecOn with
    | _ n ih =>
      intro l a w hK
      obtain ⟨rest, hf, hp⟩ := pass n l a w hK
      refine ⟨rest, by simp [gotoIn, hf], ?_⟩
      obtain ⟨e, a₁, w₁, hq, harr⟩ := hp b (.inScope c :: k) cs
      cases e with
      | normal => exact ⟨.normal, a₁, w₁, hq, Steps.trans harr (.one step_inScope)⟩
      | exit id => exact ⟨.exit id, a₁, w₁, hq, fun k' hk => harr k' (by simp [exitTo, hk])⟩
      | goto l' =>
        obtain ⟨f', hlt, hK'⟩ := hq
        obtain ⟨rest', hg', e₂, a₂, w₂, hq₂, harr₂⟩ := ih f' hlt l' a₁ w₁ hK'
        exact ⟨e₂, a₂, w₂, hq₂, .of_steps (harr _ hg') harr₂⟩
      | ret => exact ⟨_, a₁, w₁, hq, harr⟩
      | panic ch => exact ⟨_, a₁, w₁, hq, harr⟩
      | outgrown => exact ⟨_, a₁, w₁, hq, harr⟩
  obtain ⟨e, a₁, w₁, hq, harr⟩ := first b (.inScope c :: k) cs
  cases e with
  | normal => exact ⟨.normal, a₁, w₁, hq, .head step_scope (Steps.trans harr (.one step_inScope))⟩
  | exit id => exact ⟨.exit id, a₁, w₁, hq, fun k' hk => .head step_scope (harr k' (by simp [exitTo, hk]))⟩
  | goto l' =>
    obtain ⟨f, hK⟩ := hq
    obtain ⟨rest', hg', e₂, a₂, w₂, hq₂, harr₂⟩ := key f l' a₁ w₁ hK
    exact ⟨e₂, a₂, w₂, hq₂, .of_steps (.head step_scope (harr _ hg')) harr₂⟩
  | ret => exact ⟨_, a₁, w₁, hq, .of_steps (.one step_scope) harr⟩
  | panic ch => exact ⟨_, a₁, w₁, hq, .of_steps (.one step_scope) harr⟩
  | outgrown => exact ⟨_, a₁, w₁, hq, .of_steps (.one step_scope) harr⟩
theorem wp_skip_seq {r : Code} (h : r.wp P Q a w) : (Code.skip.seq r).wp P Q a w := by
  go_wp2
  exact h
/-- two labels: 1, and 0 that is fallen into -/
theorem wp_scope_two {c r0 r1 : Code} (K : Nat → Nat → Act → World → Prop) (hK : ∀ f l a w, K f l a w → l = 0 ∨ l = 1)
    (f0 : findLabel c 0 = some (Code.skip.seq r0)) (f1 : findLabel c 1 = some (Code.skip.seq r1))
    (p0 : ∀ f g a w, f ≤ g → K f 0 a w → r0.wp P (jumps (fun l' a' w' => ∃ f', f' < g ∧ K f' l' a' w') Q) a w)
    (p1 : (∀ f g a w, f ≤ g → K f 0 a w → r0.wp P (jumps (fun l' a' w' => ∃ f', f' < g ∧ K f' l' a' w') Q) a w) → ∀ f g a w, f ≤ g → K f 1 a w → r1.wp P (jumps (fun l' a' w' => ∃ f', f' < g ∧ K f' l' a' w') Q) a w)
    (first : (∀ f g a w, f ≤ g → K f 1 a w → r1.wp P (jumps (fun l' a' w' => ∃ f', f' < g ∧ K f' l' a' w') Q) a w) → ∃ g, c.wp P (jumps (fun l' a' w' => ∃ f', f' < g ∧ K f' l' a' w') Q) a w) : (Code.scope c).wp P Q a w := by
  obtain ⟨g, hg⟩ := first (p1 p0)
  refine wp_scope_ghost K ?_ fun f l a w h => ?_
  · intro b k cs
    obtain ⟨e, a₁, w₁, hq, harr⟩ := hg b k cs
    refine ⟨e, a₁, w₁, ?_, harr⟩
    cases e with
    | goto l =>
      obtain ⟨f', -, h⟩ := hq
      exact ⟨f', h⟩
    | normal => exact hq
    | exit id => exact hq
    | ret => exact hq
    | panic ch => exact hq
    | outgrown => exact hq
  · rcases hK f l a w h with rfl | rfl
    · exact ⟨_, f0, wp_skip_seq (p0 f f a w (Nat.le_refl _) h)⟩
    · exact ⟨_, f1, wp_skip_seq (p1 p0 f f a w (Nat.le_refl _) h)⟩
end
end Go.Proofs.YtoooaipbkkiefaaGreatDoor
/- enter: a mirror of the program's own text; what memory holds. -/
namespace Go.Proofs.YtoooaipbkkiefaaGreatDoor
open Go.RowKit
set_option maxRecDepth 100000
set_option maxHeartbeats 1000000

def stAt (S : List St) (s : Nat) : St := S.getD s endSt
/-- E: of each state the turn behind that of its last entering; L: where to go on, the last one first; cur: the state at hand -/
def runF (S : List St) (T : Nat) : Nat → List Nat → List Nat → List Nat → Option Nat → List Nat × List Nat
  | 0, E, _, set, _ => (E, set)
  | f + 1, E, L, set, some s => if T < E.getD s 0 then runF S T f E L set none else if (stAt S s).fork then runF S T f (E.set s (T + 1)) (L ++ [(stAt S s).ot]) set (some (stAt S s).nx) else runF S T f (E.set s (T + 1)) L (set ++ [s]) none
  | f + 1, E, L, set, none => match L.getLast? with
    | none => (E, set)
    | some n => runF S T f E L.dropLast set (some n)
/-- how many were not entered -/
def unent (T : Nat) (E : List Nat) : Nat := (E.filter (fun x => decide (x ≤ T))).length
theorem unent_set {T : Nat} : ∀ {E : List Nat} {s : Nat}, s < E.length → E.getD s 0 ≤ T → unent T (E.set s (T + 1)) + 1 = unent T E
  | [], s, h, _ => by simp at h
  | x :: r, 0, _, h => by
    have hx : x ≤ T := by simpa using h
    unfold unent
    simp [hx]
  | x :: r, s + 1, h, hx => by
    have := unent_set (T := T) (E := r) (s := s) (by simpa using h) (by simpa using hx)
    unfold unent at this ⊢
    rw [List.set_cons_succ, List.filter_cons, List.filter_cons]
    split
    · simp only [List.length_cons]; omega
    · exact this
theorem unent_le (T : Nat) (E : List Nat) : unent T E ≤ E.length := List.length_filter_le _ _
def fuelOf (T : Nat) (E L : List Nat) (cur : Option Nat) : Nat := 4 * unent T E + 2 * L.length + (match cur with | some _ => 2 | none => 1)
theorem fuel_some (T : Nat) (E L : List Nat) (s : Nat) : fuelOf T E L (some s) = 4 * unent T E + 2 * L.length + 2 := rfl
theorem fuel_none (T : Nat) (E L : List Nat) : fuelOf T E L none = 4 * unent T E + 2 * L.length + 1 := rfl
/-- states whose ways lead to states -/
def StOk (S : List St) : Prop := ∀ s ∈ S, s.nx < S.length ∧ s.ot < S.length
theorem StOk.at {S : List St} (h : StOk S) {s : Nat} (hs : s < S.length) : (stAt S s).nx < S.length ∧ (stAt S s).ot < S.length := by
  unfold stAt
  rw [List.getD_eq_getElem?_getD, List.getElem?_eq_getElem hs]
  exact h _ (List.getElem_mem hs)
/-- a state's cells -/
theorem RowSt.cellsAt {W : World} {B : Nat} {v : Value} {S : List St} (h : RowSt W B v S) {s : Nat} (hs : s < S.length) : ∃ sb c, v = .slice (some ⟨sb, 0, none⟩) S.length c ∧ W.cell? ⟨sb, s * 7 + 4, none⟩ = some (.bool (stAt S s).fork) ∧ W.cell? ⟨sb, s * 7 + 5, none⟩ = some (.int .i64 (stAt S s).nx) ∧ W.cell? ⟨sb, s * 7 + 6, none⟩ = some (.int .i64 (stAt S s).ot) ∧ BsAt W sb (s * 7) (stAt S s).p := by
  obtain ⟨vs, h1, h2, h3⟩ := h
  rcases h2.2 with ⟨e, e2⟩ | ⟨sb, cap, cur, rfl, e2, e3, e4, e5, e6, e7⟩
  · omega
  have hx : vs[s]? = some (vs[s]'(by omega)) := List.getElem?_eq_getElem (by omega)
  have hS : S[s]? = some (stAt S s) := by
    unfold stAt
    rw [List.getD_eq_getElem?_getD, List.getElem?_eq_getElem hs]
    rfl
  have hst := h3 s _ _ hS hx
  have hc : ∀ j : Fin 7, W.cell? ⟨sb, s * 7 + j.val, none⟩ = some ((vs[s]'(by omega)) j) := fun j => by
    have h4 := cells7_get vs s _ j hx
    rw [← e7, List.getElem?_take_of_lt (by have := j.isLt; omega)] at h4
    refine (cell_of_row W sb _ cur _ (0, 0) e3).trans ?_
    simpa using h4
  have hf : ∀ j : Nat, W.frozen? ⟨sb, j, none⟩ = false := fun j => frozen_of_row W sb _ cur _ e3
  obtain ⟨u0, u1, u2, u3, ex, q0, q1, q2, q3⟩ := hst
  rw [ex] at hc
  refine ⟨sb, cap, rfl, hc 4, hc 5, hc 6, fun i hi => ?_⟩
  match i, hi with
  | 0, _ => exact ⟨u0, hc 0, hf _, q0⟩
  | 1, _ => exact ⟨u1, hc 1, hf _, q1⟩
  | 2, _ => exact ⟨u2, hc 2, hf _, q2⟩
  | 3, _ => exact ⟨u3, hc 3, hf _, q3⟩
/-- the run's block, its rows -/
structure EnSt (B R eb : Nat) (W : World) (S : List St) (T : Nat) (E L set : List Nat) (sv lv tv : Value) : Prop where
  r : W.heap[R]? = some (.cells #[sv, .slice (some ⟨eb, 0, none⟩) S.length S.length, lv, .int .i64 T] 203 (0, 0))
  s : RowSt W 0 sv S
  e : W.heap[eb]? = some (.cells (intC E).toArray 3 (0, 0))
  el : E.length = S.length
  l : RowI W B lv L
  t : RowI W B tv set
  ne : R ≠ eb
  sr : sv.ownBlock ≠ some R
  se : sv.ownBlock ≠ some eb
  sb : ∀ k, sv.ownBlock = some k → k < B
  lr : lv.ownBlock ≠ some R
  le : lv.ownBlock ≠ some eb
  tr : tv.ownBlock ≠ some R
  te : tv.ownBlock ≠ some eb
  lt : ∀ k, lv.ownBlock = some k → tv.ownBlock ≠ some k
  br : B ≤ R
  be : B ≤ eb
/-- what enter may turn -/
structure EnStep (R eb : Nat) (W : World) (lv tv : Value) (W' : World) (lv' tv' : Value) : Prop where
  os : W'.os = W.os
  tape : W'.tape = W.tape
  output : W'.output = W.output
  size : W.heap.size ≤ W'.heap.size
  block : ∀ c, c < W.heap.size → c ≠ R → c ≠ eb → lv.ownBlock ≠ some c → tv.ownBlock ≠ some c → W'.heap[c]? = W.heap[c]?
  lo : lv'.ownBlock = lv.ownBlock ∨ ∃ k, lv'.ownBlock = some k ∧ W.heap.size ≤ k
  to : tv'.ownBlock = tv.ownBlock ∨ ∃ k, tv'.ownBlock = some k ∧ W.heap.size ≤ k
theorem EnStep.refl (R eb : Nat) (W : World) (lv tv : Value) : EnStep R eb W lv tv W lv tv := ⟨rfl, rfl, rfl, Nat.le_refl _, fun _ _ _ _ _ _ => rfl, .inl rfl, .inl rfl⟩
theorem own_trans {v v' v'' : Value} {n m : Nat} (hnm : n ≤ m) (h : v'.ownBlock = v.ownBlock ∨ ∃ k, v'.ownBlock = some k ∧ n ≤ k) (g : v''.ownBlock = v'.ownBlock ∨ ∃ k, v''.ownBlock = some k ∧ m ≤ k) : v''.ownBlock = v.ownBlock ∨ ∃ k, v''.ownBlock = some k ∧ n ≤ k := by
  rcases g with e | ⟨k, e, hk⟩
  · rw [e]; exact h
  · exact .inr ⟨k, e, by omega⟩
theorem own_ne {v v' : Value} {n c : Nat} (h : v'.ownBlock = v.ownBlock ∨ ∃ k, v'.ownBlock = some k ∧ n ≤ k) (hc : c < n) (hv : v.ownBlock ≠ some c) : v'.ownBlock ≠ some c := by
  rcases h with e | ⟨k, e, hk⟩
  · rw [e]; exact hv
  · rw [e]; intro e2; have := Option.some.inj e2; omega
theorem EnStep.trans {R eb : Nat} {W W' W'' : World} {lv tv lv' tv' lv'' tv'' : Value} (h : EnStep R eb W lv tv W' lv' tv') (k : EnStep R eb W' lv' tv' W'' lv'' tv'') : EnStep R eb W lv tv W'' lv'' tv'' :=
  ⟨k.os.trans h.os, k.tape.trans h.tape, k.output.trans h.output, Nat.le_trans h.size k.size, fun c hc h1 h2 h3 h4 => (k.block c (Nat.lt_of_lt_of_le hc h.size) h1 h2 (own_ne h.lo hc h3) (own_ne h.to hc h4)).trans (h.block c hc h1 h2 h3 h4), own_trans h.size h.lo k.lo, own_trans h.size h.to k.to⟩
theorem EnStep.gr {R eb : Nat} {W W' W'' : World} {lv tv lv' tv' : Value} (h : EnStep R eb W lv tv W' lv' tv') (k : Gr W' W'') : EnStep R eb W lv tv W'' lv' tv' :=
  ⟨k.b.os.trans h.os, k.b.tape.trans h.tape, k.b.output.trans h.output, Nat.le_trans h.size k.size, fun c hc h1 h2 h3 h4 => (k.b.block c (Nat.lt_of_lt_of_le hc h.size)).trans (h.block c hc h1 h2 h3 h4), h.lo, h.to⟩
theorem EnSt.lts {B R eb : Nat} {W : World} {S : List St} {T : Nat} {E L set : List Nat} {sv lv tv : Value} (h : EnSt B R eb W S T E L set sv lv tv) : R < W.heap.size ∧ eb < W.heap.size :=
  ⟨(Array.getElem?_eq_some_iff.1 h.r).1, (Array.getElem?_eq_some_iff.1 h.e).1⟩
theorem EnSt.gr {B R eb : Nat} {W W' : World} {S : List St} {T : Nat} {E L set : List Nat} {sv lv tv : Value} (h : EnSt B R eb W S T E L set sv lv tv) (k : Gr W W') : EnSt B R eb W' S T E L set sv lv tv :=
  { h with
    r := (k.b.block _ h.lts.1).trans h.r
    s := h.s.keep fun c e => k.b.block c (h.s.lt c e).2
    e := (k.b.block _ h.lts.2).trans h.e
    l := h.l.keep fun c e => k.b.block c (h.l.lt c e).2
    t := h.t.keep fun c e => k.b.block c (h.t.lt c e).2 }
/-- a state is marked as entered -/
theorem EnSt.mark {B R eb : Nat} {W : World} {S : List St} {T : Nat} {E L set : List Nat} {sv lv tv : Value} (h : EnSt B R eb W S T E L set sv lv tv) (s m : Nat) : EnSt B R eb (W.setCell ⟨eb, s, none⟩ (.int .i64 m)) S T (E.set s m) L set sv lv tv :=
  { h with
    r := (Below.heap_setCell W _ _ R h.ne).trans h.r
    s := h.s.keep fun c e => Below.heap_setCell W _ _ c (by rintro rfl; exact h.se e)
    e := by
      have := heap_setCell_same W eb s _ _ (.int .i64 m) h.e
      rw [this]
      congr 2
      apply Array.toList_inj.1
      simp [intC]
    el := by simp [h.el]
    l := h.l.keep fun c e => Below.heap_setCell W _ _ c (by rintro rfl; exact h.le e)
    t := h.t.keep fun c e => Below.heap_setCell W _ _ c (by rintro rfl; exact h.te e) }
theorem EnStep.mark {R eb : Nat} {W : World} {lv tv : Value} (s : Nat) (u : Value) : EnStep R eb W lv tv (W.setCell ⟨eb, s, none⟩ u) lv tv :=
  ⟨rfl, rfl, rfl, by simp [World.setCell], fun c _ _ h2 _ _ => Below.heap_setCell W _ _ c h2, .inl rfl, .inl rfl⟩
/-- the row of later ones is laid anew -/
theorem EnSt.later {B R eb : Nat} {W : World} {S : List St} {T : Nat} {E L set : List Nat} {sv lv tv : Value} (h : EnSt B R eb W S T E L set sv lv tv) {L' : List Nat} {lv' : Value} (hl : RowI W B lv' L') (h1 : lv'.ownBlock ≠ some R) (h2 : lv'.ownBlock ≠ some eb) (h3 : ∀ k, lv'.ownBlock = some k → tv.ownBlock ≠ some k) :
    EnSt B R eb (W.setCell ⟨R, 2, none⟩ lv') S T E L' set sv lv' tv :=
  { h with
    r := by
      have := heap_setCell_same W R 2 _ _ lv' h.r
      simpa using this
    s := h.s.keep fun c e => Below.heap_setCell W _ _ c (by rintro rfl; exact h.sr e)
    e := (Below.heap_setCell W _ _ eb (fun e => h.ne e.symm)).trans h.e
    l := hl.keep fun c e => Below.heap_setCell W _ _ c (by rintro rfl; exact h1 e)
    t := h.t.keep fun c e => Below.heap_setCell W _ _ c (by rintro rfl; exact h.tr e)
    lr := h1
    le := h2
    lt := h3 }
theorem EnStep.later {R eb : Nat} {W : World} {lv tv : Value} (u lv' : Value) (ho : lv'.ownBlock = lv.ownBlock) : EnStep R eb W lv tv (W.setCell ⟨R, 2, none⟩ u) lv' tv :=
  ⟨rfl, rfl, rfl, by simp [World.setCell], fun c _ h1 _ _ _ => Below.heap_setCell W _ _ c h1, .inl ho, .inl rfl⟩
/-- an append to the later ones -/
theorem EnSt.push {B R eb : Nat} {W W' : World} {S : List St} {T : Nat} {E L set : List Nat} {sv lv lv' tv : Value} (h : EnSt B R eb W S T E L set sv lv tv) {L' : List Nat} (g : W.grownBy W' lv.ownBlock) (hl : RowI W' B lv' L') (ho : lv'.ownBlock = lv.ownBlock ∨ lv'.ownBlock = some W.heap.size) :
    EnSt B R eb (W'.setCell ⟨R, 2, none⟩ lv') S T E L' set sv lv' tv ∧ EnStep R eb W lv tv (W'.setCell ⟨R, 2, none⟩ lv') lv' tv ∧ W'.heap[R]? = some (.cells #[sv, .slice (some ⟨eb, 0, none⟩) S.length S.length, lv, .int .i64 T] 203 (0, 0)) := by
  have hlts := h.lts
  have ho2 : lv'.ownBlock = lv.ownBlock ∨ ∃ k, lv'.ownBlock = some k ∧ W.heap.size ≤ k := ho.imp id fun e => ⟨_, e, Nat.le_refl _⟩
  have hR := (g.block R hlts.1 (fun e => h.lr e.symm)).trans h.r
  have hlr := own_ne ho2 hlts.1 h.lr
  have key : ∀ c, c ≠ R → (W'.setCell ⟨R, 2, none⟩ lv').heap[c]? = W'.heap[c]? := fun c hc => Below.heap_setCell W' _ _ c hc
  refine ⟨{ h with
    r := by
      have := heap_setCell_same W' R 2 _ _ lv' hR
      simpa using this
    s := h.s.keep fun c e => (key c (by rintro rfl; exact h.sr e)).trans (g.block c (h.s.lt c e).2 (fun e2 => by have := h.sb c e; have := (h.l.lt c e2.symm).1; omega))
    e := ((key eb (fun e => h.ne e.symm)).trans (g.block _ hlts.2 (fun e => h.le e.symm))).trans h.e
    l := hl.keep fun c e => key c (by rintro rfl; exact hlr e)
    t := h.t.keep fun c e => (key c (by rintro rfl; exact h.tr e)).trans (g.block c (h.t.lt c e).2 (fun e2 => h.lt c e2.symm e))
    lr := hlr
    le := own_ne ho2 hlts.2 h.le
    lt := fun k e e2 => by
      rcases ho with e3 | e3
      · rw [e3] at e; exact h.lt k e e2
      · rw [e3] at e; have := Option.some.inj e; have := (h.t.lt k e2).2; omega }, ⟨g.os, g.tape, g.output, by simpa [World.setCell] using g.size, fun c hc h1 h2 h3 h4 => (key c h1).trans (g.block c hc (fun e => h3 e.symm)), ho2, .inl rfl⟩, hR⟩
/-- an append to the set -/
theorem EnSt.put {B R eb : Nat} {W W' : World} {S : List St} {T : Nat} {E L set : List Nat} {sv lv tv tv' : Value} (h : EnSt B R eb W S T E L set sv lv tv) {set' : List Nat} (g : W.grownBy W' tv.ownBlock) (hl : RowI W' B tv' set') (ho : tv'.ownBlock = tv.ownBlock ∨ tv'.ownBlock = some W.heap.size) :
    EnSt B R eb W' S T E L set' sv lv tv' ∧ EnStep R eb W lv tv W' lv tv' := by
  have hlts := h.lts
  have ho2 : tv'.ownBlock = tv.ownBlock ∨ ∃ k, tv'.ownBlock = some k ∧ W.heap.size ≤ k := ho.imp id fun e => ⟨_, e, Nat.le_refl _⟩
  refine ⟨{ h with
    r := (g.block R hlts.1 (fun e => h.tr e.symm)).trans h.r
    s := h.s.keep fun c e => g.block c (h.s.lt c e).2 (fun e2 => by have := h.sb c e; have := (h.t.lt c e2.symm).1; omega)
    e := (g.block _ hlts.2 (fun e => h.te e.symm)).trans h.e
    l := h.l.keep fun c e => g.block c (h.l.lt c e).2 (fun e2 => h.lt c e e2.symm)
    t := hl
    tr := own_ne ho2 hlts.1 h.tr
    te := own_ne ho2 hlts.2 h.te
    lt := fun k e e2 => by
      rcases ho with e3 | e3
      · rw [e3] at e2; exact h.lt k e e2
      · rw [e3] at e2; have := Option.some.inj e2; have := (h.l.lt k e).2; omega }, ⟨g.os, g.tape, g.output, g.size, fun c hc h1 h2 h3 h4 => g.block c hc (fun e => h4 e.symm), .inl rfl, ho2⟩⟩
/-- the last of the later ones is taken -/
theorem EnSt.pop {B R eb : Nat} {W : World} {S : List St} {T : Nat} {E L set : List Nat} {sv tv : Value} {A : Option Addr} {m c : Nat} (h : EnSt B R eb W S T E L set sv (.slice A m c) tv) (hL : L ≠ []) :
    EnSt B R eb (W.setCell ⟨R, 2, none⟩ (.slice A (L.length - 1) c)) S T E L.dropLast set sv (.slice A (L.length - 1) c) tv ∧ EnStep R eb W (.slice A m c) tv (W.setCell ⟨R, 2, none⟩ (.slice A (L.length - 1) c)) (.slice A (L.length - 1) c) tv := by
  have h0 : 0 < L.length := by cases L with | nil => exact absurd rfl hL | cons => simp
  have ho : (Value.slice A (L.length - 1) c).ownBlock = (Value.slice A m c).ownBlock := by cases A <;> rfl
  have ht := h.l.take (L.length - 1) (by omega) h0
  rw [← List.dropLast_eq_take] at ht
  exact ⟨h.later ht (by rw [ho]; exact h.lr) (by rw [ho]; exact h.le) (fun k e => h.lt k (by rw [← ho]; exact e)), EnStep.later _ _ ho⟩
theorem EnSt.cells {B R eb : Nat} {W : World} {S : List St} {T : Nat} {E L set : List Nat} {sv lv tv : Value} (h : EnSt B R eb W S T E L set sv lv tv) : W.cell? ⟨R, 0, none⟩ = some sv ∧ W.cell? ⟨R, 1, none⟩ = some (.slice (some ⟨eb, 0, none⟩) S.length S.length) ∧ W.cell? ⟨R, 2, none⟩ = some lv ∧ W.cell? ⟨R, 3, none⟩ = some (.int .i64 T) ∧ W.frozen? ⟨R, 2, none⟩ = false ∧ W.frozen? ⟨R, 3, none⟩ = false :=
  ⟨cell_of_row W R 0 _ _ (0, 0) h.r, cell_of_row W R 1 _ _ (0, 0) h.r, cell_of_row W R 2 _ _ (0, 0) h.r, cell_of_row W R 3 _ _ (0, 0) h.r, frozen_of_row W R 2 _ _ h.r, frozen_of_row W R 3 _ _ h.r⟩
theorem EnSt.ent {B R eb : Nat} {W : World} {S : List St} {T : Nat} {E L set : List Nat} {sv lv tv : Value} (h : EnSt B R eb W S T E L set sv lv tv) {s : Nat} (hs : s < S.length) : W.cell? ⟨eb, s, none⟩ = some (.int .i64 (E.getD s 0 : Nat)) ∧ W.frozen? ⟨eb, s, none⟩ = false := by
  refine ⟨(cell_of_row W eb s _ _ (0, 0) h.e).trans ?_, frozen_of_row W eb s _ _ h.e⟩
  have hl : s < E.length := by rw [h.el]; exact hs
  rw [List.getD_eq_getElem?_getD, List.getElem?_eq_getElem hl]
  simp [intC, hl]
end Go.Proofs.YtoooaipbkkiefaaGreatDoor
/- Match: a mirror of the program's own text. -/
namespace Go.Proofs.YtoooaipbkkiefaaGreatDoor
open Go.RowKit
set_option maxRecDepth 100000
set_option maxHeartbeats 1000000

/-- enter, with fuel enough -/
def enterS (S : List St) (T : Nat) (E set : List Nat) (s : Nat) : List Nat × List Nat := runF S T (4 * S.length + 3) E [] set (some s)
/-- one byte read in one state -/
def byteS (S : List St) (T : Nat) (c : Nat) (r : List Nat × List Nat) (s : Nat) : List Nat × List Nat := if (stAt S s).p c then enterS S T r.1 r.2 (stAt S s).nx else r
def turnS (S : List St) (T : Nat) (c : Nat) (E now : List Nat) : List Nat × List Nat := now.foldl (byteS S T c) (E, [])
def goS (S : List St) : List UInt8 → Nat → List Nat → List Nat → List Nat
  | [], _, _, now => now
  | c :: r, T, E, now => if now.isEmpty then now else goS S r (T + 1) (turnS S (T + 1) c.toNat E now).1 (turnS S (T + 1) c.toNat E now).2
def matchS (p : List St × Nat) (b : List UInt8) : Bool :=
  if p.1.isEmpty then false else (goS p.1 b 0 (enterS p.1 0 (List.replicate p.1.length 0) [] p.2).1 (enterS p.1 0 (List.replicate p.1.length 0) [] p.2).2).contains 0
theorem goS_end (S : List St) (r : List UInt8) (T : Nat) (E now : List Nat) (h : r = [] ∨ now = []) : goS S r T E now = now := by
  rcases h with rfl | rfl
  · rfl
  · cases r <;> simp [goS]
theorem goS_step (S : List St) (c : UInt8) (r : List UInt8) (T : Nat) (E now : List Nat) (h : now ≠ []) : goS S (c :: r) T E now = goS S r (T + 1) (turnS S (T + 1) c.toNat E now).1 (turnS S (T + 1) c.toNat E now).2 := by
  cases now with
  | nil => exact absurd rfl h
  | cons => simp [goS]
/-- what enter keeps -/
theorem runF_keeps (S : List St) (hok : StOk S) (T : Nat) : ∀ (f : Nat) (E L set : List Nat) (cur : Option Nat), E.length = S.length → (∀ s, cur = some s → s < S.length) → (∀ x ∈ L, x < S.length) → (∀ x ∈ set, x < S.length) → set.length + unent T E ≤ S.length →
    (runF S T f E L set cur).1.length = S.length ∧ (∀ x ∈ (runF S T f E L set cur).2, x < S.length) ∧ (runF S T f E L set cur).2.length + unent T (runF S T f E L set cur).1 ≤ S.length
  | 0, E, L, set, cur, hE, hc, hL, hs, hu => by unfold runF; exact ⟨hE, hs, hu⟩
  | f + 1, E, L, set, some s, hE, hc, hL, hs, hu => by
    unfold runF
    have hsl := hc s rfl
    split
    · exact runF_keeps S hok T f E L set none hE (fun s e => by cases e) hL hs hu
    · rename_i hT
      have hun := unent_set (T := T) (E := E) (s := s) (by omega) (by omega)
      split
      · exact runF_keeps S hok T f _ _ set _ (by simp [hE]) (fun x e => by cases e; exact (hok.at hsl).1) (fun x hx => (List.mem_append.1 hx).elim (hL x) (fun e => by simp at e; rw [e]; exact (hok.at hsl).2)) hs (by omega)
      · exact runF_keeps S hok T f _ L _ none (by simp [hE]) (fun s e => by cases e) hL (fun x hx => (List.mem_append.1 hx).elim (hs x) (fun e => by simp at e; rw [e]; exact hsl)) (by simp; omega)
  | f + 1, E, L, set, none, hE, hc, hL, hs, hu => by
    unfold runF
    split
    · exact ⟨hE, hs, hu⟩
    · rename_i n hn
      exact runF_keeps S hok T f E _ set _ hE (fun x e => by cases e; exact hL _ (List.mem_of_getLast? hn)) (fun x hx => hL x (List.dropLast_subset _ hx)) hs hu
/-- what a turn keeps -/
structure TurnOk (S : List St) (T : Nat) (r : List Nat × List Nat) : Prop where
  e : r.1.length = S.length
  s : ∀ x ∈ r.2, x < S.length
  u : r.2.length + unent T r.1 ≤ S.length
theorem enterS_ok {S : List St} (hok : StOk S) {T : Nat} {E set : List Nat} {s : Nat} (h : TurnOk S T (E, set)) (hs : s < S.length) : TurnOk S T (enterS S T E set s) := by
  obtain ⟨h1, h2, h3⟩ := runF_keeps S hok T (4 * S.length + 3) E [] set (some s) h.e (fun x e => by cases e; exact hs) (fun x hx => by cases hx) h.s h.u
  exact ⟨h1, h2, h3⟩
theorem byteS_ok {S : List St} (hok : StOk S) {T c : Nat} {r : List Nat × List Nat} {s : Nat} (h : TurnOk S T r) (hs : s < S.length) : TurnOk S T (byteS S T c r s) := by
  unfold byteS
  split
  · exact enterS_ok hok h (hok.at hs).1
  · exact h
theorem turn0_ok {S : List St} {T : Nat} {E : List Nat} (hE : E.length = S.length) : TurnOk S T (E, []) := ⟨hE, fun x hx => (by cases hx), by have := unent_le T E; simp only [List.length_nil]; omega⟩
theorem fold_ok {S : List St} (hok : StOk S) {T c : Nat} : ∀ {now : List Nat} {r : List Nat × List Nat}, TurnOk S T r → (∀ x ∈ now, x < S.length) → TurnOk S T (now.foldl (byteS S T c) r)
  | [], r, h, _ => h
  | s :: now, r, h, hn => by
    rw [List.foldl_cons]
    exact fold_ok (now := now) hok (byteS_ok hok h (hn s (by simp))) (fun x hx => hn x (by simp [hx]))
end Go.Proofs.YtoooaipbkkiefaaGreatDoor
/- Which texts a program's states accept: what a turn reaches, and what Match tells. No program in it. -/
namespace Go.Proofs.YtoooaipbkkiefaaGreatDoor
open Go.RowKit
set_option maxRecDepth 100000
set_option maxHeartbeats 1000000

/-- forks alone -/
inductive Rch (S : List St) : Nat → Nat → Prop
  | here (s : Nat) : Rch S s s
  | nx {s x : Nat} : (stAt S s).fork = true → Rch S (stAt S s).nx x → Rch S s x
  | ot {s x : Nat} : (stAt S s).fork = true → Rch S (stAt S s).ot x → Rch S s x
theorem Rch.trans {S : List St} {a b c : Nat} (h : Rch S a b) (g : Rch S b c) : Rch S a c := by
  induction h with
  | here s => exact g
  | nx hf _ ih => exact .nx hf (ih g)
  | ot hf _ ih => exact .ot hf (ih g)
/-- accepts, in so many steps -/
inductive Acc (S : List St) : Nat → List UInt8 → Nat → Prop
  | fin : Acc S 0 [] 0
  | byte {s : Nat} {c : UInt8} {r : List UInt8} {m : Nat} : (stAt S s).fork = false → (stAt S s).p c.toNat = true → Acc S (stAt S s).nx r m → Acc S s (c :: r) (m + 1)
  | nx {s : Nat} {b : List UInt8} {m : Nat} : (stAt S s).fork = true → Acc S (stAt S s).nx b m → Acc S s b (m + 1)
  | ot {s : Nat} {b : List UInt8} {m : Nat} : (stAt S s).fork = true → Acc S (stAt S s).ot b m → Acc S s b (m + 1)
theorem acc_rch {S : List St} {s x : Nat} (h : Rch S s x) {b : List UInt8} {m : Nat} (ha : Acc S x b m) : ∃ m', Acc S s b m' := by
  induction h with
  | here s => exact ⟨m, ha⟩
  | nx hf _ ih =>
    obtain ⟨m', h'⟩ := ih ha
    exact ⟨_, .nx hf h'⟩
  | ot hf _ ih =>
    obtain ⟨m', h'⟩ := ih ha
    exact ⟨_, .ot hf h'⟩
theorem acc_of {S : List St} {s : Nat} {b : List UInt8} {m : Nat} (h : Acc S s b m) (h0 : (stAt S 0).fork = false) : ∃ x, Rch S s x ∧ (stAt S x).fork = false ∧ ((b = [] ∧ x = 0) ∨ ∃ c r m', b = c :: r ∧ (stAt S x).p c.toNat = true ∧ Acc S (stAt S x).nx r m') := by
  induction h with
  | fin => exact ⟨0, .here 0, h0, .inl ⟨rfl, rfl⟩⟩
  | byte hf hp ha _ => exact ⟨_, .here _, hf, .inr ⟨_, _, _, rfl, hp, ha⟩⟩
  | nx hf _ ih =>
    obtain ⟨x, hr, h1, h2⟩ := ih
    exact ⟨x, .nx hf hr, h1, h2⟩
  | ot hf _ ih =>
    obtain ⟨x, hr, h1, h2⟩ := ih
    exact ⟨x, .ot hf hr, h1, h2⟩
/-- entered in this turn -/
def Mk (T : Nat) (E : List Nat) (x : Nat) : Prop := x < E.length ∧ T < E.getD x 0
theorem mk_set {T : Nat} {E : List Nat} {s x : Nat} (hs : s < E.length) : Mk T (E.set s (T + 1)) x ↔ Mk T E x ∨ x = s := by
  unfold Mk
  rw [List.length_set, List.getD_eq_getElem?_getD, List.getD_eq_getElem?_getD]
  by_cases e : s = x
  · subst e
    rw [List.getElem?_set_self hs]
    simp [hs]
  · rw [List.getElem?_set_ne e]
    constructor
    · exact .inl
    · rintro (h | h)
      · exact h
      · exact absurd h.symm e
/-- the set is of those that wait for a byte; forks lead to what was entered, or is to be -/
structure Turn (S : List St) (T : Nat) (E set : List Nat) (P : Nat → Prop) : Prop where
  a : ∀ x, x ∈ set ↔ Mk T E x ∧ (stAt S x).fork = false
  b : ∀ x, Mk T E x → (stAt S x).fork = true → (Mk T E (stAt S x).nx ∨ P (stAt S x).nx) ∧ (Mk T E (stAt S x).ot ∨ P (stAt S x).ot)
theorem mem_dropLast_of {L : List Nat} {n x : Nat} (h : L.getLast? = some n) (hx : x ∈ L) : x ∈ L.dropLast ∨ x = n := by
  have hne : L ≠ [] := by rintro rfl; cases h
  have e := List.dropLast_concat_getLast hne
  rw [List.getLast?_eq_some_getLast hne] at h
  obtain rfl := Option.some.inj h
  rw [← e] at hx
  simpa using hx
theorem runF_spec (S : List St) (hok : StOk S) (T : Nat) (O : Nat → Prop) (hO : ∀ x, O x → (stAt S x).fork = true → O (stAt S x).nx ∧ O (stAt S x).ot) : ∀ (f : Nat) (E L set : List Nat) (cur : Option Nat), E.length = S.length → (∀ s, cur = some s → s < S.length) → (∀ x ∈ L, x < S.length) → fuelOf T E L cur < f →
    Turn S T E set (fun x => x ∈ L ∨ cur = some x) → (∀ x, Mk T E x → O x) → (∀ x ∈ L, O x) → (∀ x, cur = some x → O x) →
    Turn S T (runF S T f E L set cur).1 (runF S T f E L set cur).2 (fun _ => False) ∧ (∀ x, Mk T E x ∨ x ∈ L ∨ cur = some x → Mk T (runF S T f E L set cur).1 x) ∧ (∀ x, Mk T (runF S T f E L set cur).1 x → O x)
  | 0, E, L, set, cur, hE, hc, hL, hf, ht, h1, h2, h3 => by omega
  | f + 1, E, L, set, some s, hE, hc, hL, hf, ht, h1, h2, h3 => by
    unfold runF
    have hsl := hc s rfl
    have hsE : s < E.length := by omega
    rw [fuel_some] at hf
    split
    · rename_i hT
      have hms : Mk T E s := ⟨hsE, hT⟩
      have key : ∀ y, (Mk T E y ∨ y ∈ L ∨ some s = some y) → (Mk T E y ∨ y ∈ L ∨ (none : Option Nat) = some y) := fun y hy => by
        rcases hy with h | h | h
        · exact .inl h
        · exact .inr (.inl h)
        · obtain rfl := Option.some.inj h; exact .inl hms
      obtain ⟨q1, q2, q3⟩ := runF_spec S hok T O hO f E L set none hE (fun s e => by cases e) hL (by rw [fuel_none]; omega)
        ⟨ht.a, fun x hx hfx => ⟨key _ ((ht.b x hx hfx).1), key _ ((ht.b x hx hfx).2)⟩⟩ h1 h2 (fun x e => by cases e)
      exact ⟨q1, fun x hx => q2 x (key x hx), q3⟩
    · rename_i hT
      have hun := unent_set (T := T) (E := E) (s := s) hsE (by omega)
      have hOs := h3 s rfl
      have hnm : ¬ Mk T E s := fun h => hT h.2
      split
      · rename_i hfk
        have hOs2 := hO s hOs hfk
        obtain ⟨q1, q2, q3⟩ := runF_spec S hok T O hO f (E.set s (T + 1)) (L ++ [(stAt S s).ot]) set (some (stAt S s).nx) (by simp [hE]) (fun x e => by cases e; exact (hok.at hsl).1) (fun x hx => (List.mem_append.1 hx).elim (hL x) (fun e => by simp at e; rw [e]; exact (hok.at hsl).2))
          (by rw [fuel_some, List.length_append]; simp; omega)
          ⟨fun x => by
            rw [ht.a x, mk_set hsE]
            constructor
            · exact fun h => ⟨.inl h.1, h.2⟩
            · rintro ⟨h | rfl, h'⟩
              · exact ⟨h, h'⟩
              · rw [hfk] at h'; exact absurd h' (by simp), fun x hx hfx => by
            rw [mk_set hsE] at hx
            have go : ∀ y, (Mk T E y ∨ y ∈ L ∨ some s = some y) → Mk T (E.set s (T + 1)) y ∨ (y ∈ L ++ [(stAt S s).ot] ∨ some (stAt S s).nx = some y) := fun y hy => by
              rw [mk_set hsE]
              rcases hy with h | h | h
              · exact .inl (.inl h)
              · exact .inr (.inl (List.mem_append.2 (.inl h)))
              · exact .inl (.inr (Option.some.inj h).symm)
            rcases hx with hx | rfl
            · exact ⟨go _ (ht.b x hx hfx).1, go _ (ht.b x hx hfx).2⟩
            · exact ⟨.inr (.inr rfl), .inr (.inl (by simp))⟩⟩
          (fun x hx => by rw [mk_set hsE] at hx; rcases hx with h | rfl; exact h1 x h; exact hOs)
          (fun x hx => (List.mem_append.1 hx).elim (h2 x) (fun e => by simp at e; rw [e]; exact hOs2.2)) (fun x e => by cases e; exact hOs2.1)
        refine ⟨q1, fun x hx => ?_, q3⟩
        rcases hx with h | h | h
        · exact q2 x (.inl ((mk_set hsE).2 (.inl h)))
        · exact q2 x (.inr (.inl (List.mem_append.2 (.inl h))))
        · exact q2 x (.inl ((mk_set hsE).2 (.inr (Option.some.inj h).symm)))
      · rename_i hfk
        have hfk : (stAt S s).fork = false := by simpa using hfk
        obtain ⟨q1, q2, q3⟩ := runF_spec S hok T O hO f (E.set s (T + 1)) L (set ++ [s]) none (by simp [hE]) (fun x e => by cases e) hL (by rw [fuel_none]; omega)
          ⟨fun x => by
            rw [List.mem_append, ht.a x, mk_set hsE]
            constructor
            · rintro (h | h)
              · exact ⟨.inl h.1, h.2⟩
              · simp at h; subst h; exact ⟨.inr rfl, hfk⟩
            · rintro ⟨h | rfl, h'⟩
              · exact .inl ⟨h, h'⟩
              · exact .inr (by simp), fun x hx hfx => by
            rw [mk_set hsE] at hx
            have go : ∀ y, (Mk T E y ∨ y ∈ L ∨ some s = some y) → Mk T (E.set s (T + 1)) y ∨ (y ∈ L ∨ (none : Option Nat) = some y) := fun y hy => by
              rw [mk_set hsE]
              rcases hy with h | h | h
              · exact .inl (.inl h)
              · exact .inr (.inl h)
              · exact .inl (.inr (Option.some.inj h).symm)
            rcases hx with hx | rfl
            · exact ⟨go _ (ht.b x hx hfx).1, go _ (ht.b x hx hfx).2⟩
            · rw [hfk] at hfx; cases hfx⟩
          (fun x hx => by rw [mk_set hsE] at hx; rcases hx with h | rfl; exact h1 x h; exact hOs) h2 (fun x e => by cases e)
        refine ⟨q1, fun x hx => ?_, q3⟩
        rcases hx with h | h | h
        · exact q2 x (.inl ((mk_set hsE).2 (.inl h)))
        · exact q2 x (.inr (.inl h))
        · exact q2 x (.inl ((mk_set hsE).2 (.inr (Option.some.inj h).symm)))
  | f + 1, E, L, set, none, hE, hc, hL, hf, ht, h1, h2, h3 => by
    unfold runF
    rw [fuel_none] at hf
    split
    · rename_i hl
      obtain rfl : L = [] := by simpa using hl
      refine ⟨⟨ht.a, fun x hx hfx => ?_⟩, fun x hx => ?_, h1⟩
      · have := ht.b x hx hfx
        simpa using this
      · simpa using hx
    · rename_i n hn
      have hnL := List.mem_of_getLast? hn
      have hne : L ≠ [] := by rintro rfl; cases hn
      have h0 : 0 < L.length := by cases L with | nil => exact absurd rfl hne | cons => simp
      have go : ∀ y, (Mk T E y ∨ y ∈ L ∨ (none : Option Nat) = some y) → Mk T E y ∨ (y ∈ L.dropLast ∨ some n = some y) := fun y hy => by
        rcases hy with h | h | h
        · exact .inl h
        · exact .inr ((mem_dropLast_of hn h).imp id (fun e => by rw [e]))
        · cases h
      obtain ⟨q1, q2, q3⟩ := runF_spec S hok T O hO f E L.dropLast set (some n) hE (fun x e => by cases e; exact hL _ hnL) (fun x hx => hL x (List.dropLast_subset _ hx)) (by rw [fuel_some, List.length_dropLast]; omega)
        ⟨ht.a, fun x hx hfx => ⟨go _ (ht.b x hx hfx).1, go _ (ht.b x hx hfx).2⟩⟩ h1 (fun x hx => h2 x (List.dropLast_subset _ hx)) (fun x e => by cases e; exact h2 _ hnL)
      exact ⟨q1, fun x hx => q2 x (go x hx), q3⟩
theorem enterS_spec {S : List St} (hok : StOk S) {T : Nat} {E set : List Nat} {s : Nat} (hE : E.length = S.length) (hs : s < S.length) (ht : Turn S T E set (fun _ => False)) :
    Turn S T (enterS S T E set s).1 (enterS S T E set s).2 (fun _ => False) ∧ ∀ x, Mk T (enterS S T E set s).1 x ↔ Mk T E x ∨ Rch S s x := by
  have hun : unent T E ≤ S.length := by have := unent_le T E; omega
  obtain ⟨q1, q2, q3⟩ := runF_spec S hok T (fun x => Mk T E x ∨ Rch S s x) (fun x hx hfx => by
      rcases hx with h | h
      · have := ht.b x h hfx
        exact ⟨.inl (this.1.elim id (fun e => e.elim)), .inl (this.2.elim id (fun e => e.elim))⟩
      · exact ⟨.inr (h.trans (.nx hfx (.here _))), .inr (h.trans (.ot hfx (.here _)))⟩)
    (4 * S.length + 3) E [] set (some s) hE (fun x e => by cases e; exact hs) (fun x hx => by cases hx) (by rw [fuel_some]; simp; omega)
    ⟨ht.a, fun x hx hfx => ⟨.inl ((ht.b x hx hfx).1.elim id (fun e => e.elim)), .inl ((ht.b x hx hfx).2.elim id (fun e => e.elim))⟩⟩
    (fun x hx => .inl hx) (fun x hx => by cases hx) (fun x e => by cases e; exact .inr (.here _))
  refine ⟨q1, fun x => ⟨q3 x, fun hx => ?_⟩⟩
  rcases hx with h | h
  · exact q2 x (.inl h)
  · have h0 : Mk T (runF S T (4 * S.length + 3) E [] set (some s)).1 s := q2 s (.inr (.inr rfl))
    have key : ∀ a b, Rch S a b → Mk T (runF S T (4 * S.length + 3) E [] set (some s)).1 a → Mk T (runF S T (4 * S.length + 3) E [] set (some s)).1 b := fun a b h => by
      induction h with
      | here s => exact id
      | nx hf _ ih => exact fun h => ih ((q1.b _ h hf).1.elim id (fun e => e.elim))
      | ot hf _ ih => exact fun h => ih ((q1.b _ h hf).2.elim id (fun e => e.elim))
    exact key _ _ h h0
theorem enterS_len {S : List St} {T : Nat} : ∀ (f : Nat) (E L set : List Nat) (cur : Option Nat), (runF S T f E L set cur).1.length = E.length
  | 0, E, L, set, cur => rfl
  | f + 1, E, L, set, some s => by
    unfold runF
    split
    · exact enterS_len f _ _ _ _
    · split
      · rw [enterS_len f]; simp
      · rw [enterS_len f]; simp
  | f + 1, E, L, set, none => by
    unfold runF
    split
    · rfl
    · exact enterS_len f _ _ _ _
/-- what is marked is no later than this turn -/
theorem runF_max {S : List St} {T : Nat} : ∀ (f : Nat) (E L set : List Nat) (cur : Option Nat), (∀ x ∈ E, x ≤ T + 1) → ∀ x ∈ (runF S T f E L set cur).1, x ≤ T + 1
  | 0, E, L, set, cur, h => h
  | f + 1, E, L, set, some s, h => by
    have h2 : ∀ x ∈ E.set s (T + 1), x ≤ T + 1 := fun x hx => (List.mem_or_eq_of_mem_set hx).elim (h x) (fun e => by omega)
    unfold runF
    split
    · exact runF_max f _ _ _ _ h
    · split
      · exact runF_max f _ _ _ _ h2
      · exact runF_max f _ _ _ _ h2
  | f + 1, E, L, set, none, h => by
    unfold runF
    split
    · exact h
    · exact runF_max f _ _ _ _ h
theorem fold_spec {S : List St} (hok : StOk S) {T c : Nat} : ∀ (now : List Nat) (E set : List Nat), E.length = S.length → (∀ x ∈ now, x < S.length) → Turn S T E set (fun _ => False) →
    Turn S T (now.foldl (byteS S T c) (E, set)).1 (now.foldl (byteS S T c) (E, set)).2 (fun _ => False) ∧ (∀ x, Mk T (now.foldl (byteS S T c) (E, set)).1 x ↔ Mk T E x ∨ ∃ s ∈ now, (stAt S s).p c = true ∧ Rch S (stAt S s).nx x) ∧ (now.foldl (byteS S T c) (E, set)).1.length = S.length ∧ ((∀ x ∈ E, x ≤ T + 1) → ∀ x ∈ (now.foldl (byteS S T c) (E, set)).1, x ≤ T + 1)
  | [], E, set, hE, hn, ht => ⟨ht, fun x => by simp, hE, id⟩
  | s :: now, E, set, hE, hn, ht => by
    rw [List.foldl_cons]
    have hs := hn s (by simp)
    unfold byteS
    cases hp : (stAt S s).p c with
    | false =>
      simp only [Bool.false_eq_true, if_false]
      obtain ⟨q1, q2, q3, q4⟩ := fold_spec hok now E set hE (fun x hx => hn x (by simp [hx])) ht
      refine ⟨q1, fun x => (q2 x).trans ?_, q3, q4⟩
      simp [hp]
    | true =>
      simp only [if_true]
      obtain ⟨p1, p2⟩ := enterS_spec hok (s := (stAt S s).nx) hE (hok.at hs).1 ht
      have hl : (enterS S T E set (stAt S s).nx).1.length = S.length := by unfold enterS; rw [enterS_len]; exact hE
      obtain ⟨q1, q2, q3, q4⟩ := fold_spec hok now _ _ hl (fun x hx => hn x (by simp [hx])) p1
      refine ⟨q1, fun x => (q2 x).trans ?_, q3, fun h => q4 (by unfold enterS; exact runF_max _ _ _ _ _ h)⟩
      rw [p2]
      simp only [List.mem_cons, exists_eq_or_imp, hp, true_and]
      constructor
      · rintro ((h | h) | h)
        · exact .inl h
        · exact .inr (.inl h)
        · exact .inr (.inr h)
      · rintro (h | h | h)
        · exact .inl (.inl h)
        · exact .inl (.inr h)
        · exact .inr h
theorem no_mk {T : Nat} {E : List Nat} (h : ∀ x ∈ E, x ≤ T) (x : Nat) : ¬ Mk T E x := fun ⟨h1, h2⟩ => by
  rw [List.getD_eq_getElem?_getD, List.getElem?_eq_getElem h1] at h2
  have := h _ (List.getElem_mem h1)
  simp at h2
  omega
theorem turn_start {S : List St} {T : Nat} {E : List Nat} (h : ∀ x ∈ E, x ≤ T) : Turn S T E [] (fun _ => False) := ⟨fun x => by simp [no_mk h x], fun x hx => absurd hx (no_mk h x)⟩
theorem acc_end {S : List St} {x : Nat} (hx : (stAt S x).fork = false) : (∃ m, Acc S x [] m) ↔ x = 0 := by
  constructor
  · rintro ⟨m, h⟩
    cases h with
    | fin => rfl
    | nx hf _ => rw [hx] at hf; cases hf
    | ot hf _ => rw [hx] at hf; cases hf
  · rintro rfl
    exact ⟨0, .fin⟩
theorem goS_spec {S : List St} (hok : StOk S) (h0 : (stAt S 0).fork = false) : ∀ (b : List UInt8) (T : Nat) (E now : List Nat), E.length = S.length → (∀ x ∈ E, x ≤ T + 1) → (∀ x ∈ now, x < S.length ∧ (stAt S x).fork = false) → (0 ∈ goS S b T E now ↔ ∃ x ∈ now, ∃ m, Acc S x b m)
  | [], T, E, now, hE, hm, hn => by
    rw [goS_end S _ _ _ _ (.inl rfl)]
    constructor
    · exact fun h => ⟨0, h, 0, .fin⟩
    · rintro ⟨x, hx, h⟩
      obtain rfl := (acc_end (hn x hx).2).1 h
      exact hx
  | c :: r, T, E, now, hE, hm, hn => by
    by_cases hne : now = []
    · subst hne
      rw [goS_end S _ _ _ _ (.inr rfl)]
      simp
    rw [goS_step S c r T E now hne]
    unfold turnS
    obtain ⟨q1, q2, q3, q4⟩ := fold_spec hok (T := T + 1) (c := c.toNat) now E [] hE (fun x hx => (hn x hx).1) (turn_start hm)
    rw [goS_spec hok h0 r (T + 1) _ _ q3 (q4 (fun x hx => by have := hm x hx; omega)) (fun x hx => ⟨by rw [← q3]; exact ((q1.a x).1 hx).1.1, ((q1.a x).1 hx).2⟩)]
    constructor
    · rintro ⟨x, hx, m, ha⟩
      obtain ⟨hmk, -⟩ := (q1.a x).1 hx
      rcases (q2 x).1 hmk with h | ⟨s, hs, hp, hr⟩
      · exact absurd h (no_mk hm x)
      · obtain ⟨m', ha'⟩ := acc_rch hr ha
        exact ⟨s, hs, m' + 1, .byte (hn s hs).2 hp ha'⟩
    · rintro ⟨s, hs, m, ha⟩
      have hfs := (hn s hs).2
      cases ha with
      | byte hf hp ha =>
        obtain ⟨x, hr, hfx, hor⟩ := acc_of ha h0
        refine ⟨x, (q1.a x).2 ⟨(q2 x).2 (.inr ⟨s, hs, hp, hr⟩), hfx⟩, ?_⟩
        rcases hor with ⟨rfl, rfl⟩ | ⟨c', r', m', rfl, hp', ha'⟩
        · exact ⟨0, .fin⟩
        · exact ⟨_, .byte hfx hp' ha'⟩
      | nx hf _ => rw [hfs] at hf; cases hf
      | ot hf _ => rw [hfs] at hf; cases hf
theorem match_acc {p : List St × Nat} (hok : StOk p.1) (h0 : (stAt p.1 0).fork = false) (hf : p.2 < p.1.length) (b : List UInt8) : matchS p b = true ↔ ∃ m, Acc p.1 p.2 b m := by
  obtain ⟨S, f⟩ := p
  simp only at hok h0 hf ⊢
  unfold matchS
  have hne : S.isEmpty = false := by cases S with | nil => simp at hf | cons => rfl
  simp only [hne, Bool.false_eq_true, if_false, List.contains_iff_mem]
  have hE : (List.replicate S.length 0).length = S.length := by simp
  have hm : ∀ x ∈ List.replicate S.length 0, x ≤ 0 := fun x hx => by simp at hx; omega
  obtain ⟨q1, q2⟩ := enterS_spec hok (T := 0) (s := f) hE hf (turn_start hm)
  have hl : (enterS S 0 (List.replicate S.length 0) [] f).1.length = S.length := by unfold enterS; rw [enterS_len]; exact hE
  rw [goS_spec hok h0 b 0 _ _ hl (by unfold enterS; exact runF_max _ _ _ _ _ (fun x hx => by have := hm x hx; omega)) (fun x hx => ⟨by rw [← hl]; exact ((q1.a x).1 hx).1.1, ((q1.a x).1 hx).2⟩)]
  constructor
  · rintro ⟨x, hx, m, ha⟩
    rcases (q2 x).1 ((q1.a x).1 hx).1 with h | h
    · exact absurd h (no_mk hm x)
    · exact acc_rch h ha
  · rintro ⟨m, ha⟩
    obtain ⟨x, hr, hfx, hor⟩ := acc_of ha h0
    refine ⟨x, (q1.a x).2 ⟨(q2 x).2 (.inr hr), hfx⟩, ?_⟩
    rcases hor with ⟨rfl, rfl⟩ | ⟨c', r', m', rfl, hp', ha'⟩
    · exact ⟨0, .fin⟩
    · exact ⟨_, .byte hfx hp' ha'⟩
end Go.Proofs.YtoooaipbkkiefaaGreatDoor
/- The texts that a pattern says; a pattern's states accept just these. No program in it. -/
namespace Go.Proofs.YtoooaipbkkiefaaGreatDoor
open Go.RowKit
set_option maxRecDepth 100000
set_option maxHeartbeats 1000000

inductive Star (P : List UInt8 → Prop) : List UInt8 → Prop
  | nil : Star P []
  | cons {x y : List UInt8} : P x → Star P y → Star P (x ++ y)
mutual
def Lg : Nd → List UInt8 → Prop
  | .one p, b => ∃ c : UInt8, b = [c] ∧ p c.toNat = true
  | .op k l, b => if k = 1 then LgTurn l b else if k = 2 then LgAlt l b else if k = 5 then b = [] ∨ LgAlt l b else if k = 4 then (∃ x y, b = x ++ y ∧ LgAlt l x ∧ Star (LgAlt l) y) else Star (LgAlt l) b
def LgTurn : List Nd → List UInt8 → Prop
  | [], b => b = []
  | n :: r, b => ∃ x y, b = x ++ y ∧ Lg n x ∧ LgTurn r y
def LgAlt : List Nd → List UInt8 → Prop
  | [], _ => False
  | n :: r, b => Lg n b ∨ LgAlt r b
end
/-- the states that have been made since are as they were made -/
def Agree (S S' T : List St) : Prop := ∀ i, S.length ≤ i → i < S'.length → stAt T i = stAt S' i
/-- a part's states, followed by what b accepts, accept the part's texts followed by those -/
def Does (n : Nd) : Prop := ∀ (b : Nat) (S T : List St), 0 < S.length → (stAt T 0).fork = false → Agree S (addS n b S).1 T →
  (∀ w m, Acc T (addS n b S).2 w m → ∃ x y m', w = x ++ y ∧ Lg n x ∧ Acc T b y m' ∧ m' ≤ m) ∧
  (∀ x y m, Lg n x → Acc T b y m → ∃ m', Acc T (addS n b S).2 (x ++ y) m')
theorem stAt_app (S : List St) (s : St) : stAt (S ++ [s]) S.length = s := by unfold stAt; simp
theorem stAt_of {S : List St} {i : Nat} {s : St} (h : S[i]? = some s) : stAt S i = s := by unfold stAt; rw [List.getD_eq_getElem?_getD, h]; rfl
theorem stAt_eq {S S' : List St} {i : Nat} (h : S[i]? = S'[i]?) : stAt S i = stAt S' i := by unfold stAt; rw [List.getD_eq_getElem?_getD, List.getD_eq_getElem?_getD, h]
theorem Agree.of {S S1 S2 T : List St} (h : Agree S S2 T) (hl : S1.length ≤ S2.length) (hk : ∀ i, S.length ≤ i → i < S1.length → S2[i]? = S1[i]?) : Agree S S1 T := fun i h1 h2 => (h i h1 (by omega)).trans (stAt_eq (hk i h1 h2))
theorem Agree.late {S S1 S2 T : List St} (h : Agree S S2 T) (hl : S.length ≤ S1.length) : Agree S1 S2 T := fun i h1 h2 => h i (by omega) h2
theorem acc_fork {T : List St} {s : Nat} (hf : (stAt T s).fork = true) (h0 : (stAt T 0).fork = false) {w : List UInt8} {m : Nat} (h : Acc T s w m) : ∃ m', m = m' + 1 ∧ (Acc T (stAt T s).nx w m' ∨ Acc T (stAt T s).ot w m') := by
  cases h with
  | fin => rw [hf] at h0; cases h0
  | byte hb _ _ => rw [hf] at hb; cases hb
  | nx _ h => exact ⟨_, rfl, .inl h⟩
  | ot _ h => exact ⟨_, rfl, .inr h⟩
theorem acc_byte {T : List St} {s b : Nat} {p : Nat → Bool} (hs : stAt T s = ⟨p, false, b, 0⟩) (h0 : 0 < s) {w : List UInt8} {m : Nat} (h : Acc T s w m) : ∃ c r m', w = c :: r ∧ p c.toNat = true ∧ Acc T b r m' ∧ m' ≤ m := by
  cases h with
  | fin => omega
  | byte hf hp h =>
    rw [hs] at hp h
    exact ⟨_, _, _, rfl, hp, h, by omega⟩
  | nx hf _ => rw [hs] at hf; cases hf
  | ot hf _ => rw [hs] at hf; cases hf
theorem does_one (p : Nat → Bool) : Does (.one p) := by
  intro b S T hS h0 hA
  unfold addS at hA ⊢
  have hs : stAt T S.length = ⟨p, false, b, 0⟩ := (hA S.length (Nat.le_refl _) (by simp)).trans (stAt_app S _)
  simp only
  refine ⟨fun w m h => ?_, fun x y m hx hy => ?_⟩
  · obtain ⟨c, r, m', rfl, hp, h, hm⟩ := acc_byte hs hS h
    refine ⟨[c], r, m', rfl, ?_, h, hm⟩
    unfold Lg
    exact ⟨c, rfl, hp⟩
  · unfold Lg at hx
    obtain ⟨c, rfl, hp⟩ := hx
    exact ⟨m + 1, .byte (by rw [hs]) (by rw [hs]; exact hp) (by rw [hs]; exact hy)⟩
theorem does_turn : ∀ (l : List Nd), (∀ n ∈ l, Does n) → ∀ (b : Nat) (S T : List St), 0 < S.length → (stAt T 0).fork = false → Agree S (addTurn l b S).1 T →
    (∀ w m, Acc T (addTurn l b S).2 w m → ∃ x y m', w = x ++ y ∧ LgTurn l x ∧ Acc T b y m' ∧ m' ≤ m) ∧
    (∀ x y m, LgTurn l x → Acc T b y m → ∃ m', Acc T (addTurn l b S).2 (x ++ y) m')
  | [], _, b, S, T, hS, h0, hA => by
    unfold addTurn LgTurn
    exact ⟨fun w m h => ⟨[], w, m, rfl, rfl, h, Nat.le_refl _⟩, fun x y m hx hy => ⟨m, by rw [hx]; exact hy⟩⟩
  | n :: r, hl, b, S, T, hS, h0, hA => by
    unfold addTurn at hA ⊢
    have h1 := (addTurn_len r b S).1
    have h2 := (addS_len n (addTurn r b S).2 (addTurn r b S).1).1
    have hA1 : Agree S (addTurn r b S).1 T := hA.of h2 (fun i _ hi => addS_keeps n _ _ i hi)
    obtain ⟨f1, b1⟩ := does_turn r (fun m hm => hl m (by simp [hm])) b S T hS h0 hA1
    obtain ⟨f2, b2⟩ := hl n (by simp) (addTurn r b S).2 (addTurn r b S).1 T (by omega) h0 (hA.late h1)
    refine ⟨fun w m h => ?_, fun x y m hx hy => ?_⟩
    · obtain ⟨x, y, m1, rfl, hx, hy, hm1⟩ := f2 w m h
      obtain ⟨x', y', m2, rfl, hx', hy', hm2⟩ := f1 y m1 hy
      refine ⟨x ++ x', y', m2, by simp, ?_, hy', by omega⟩
      unfold LgTurn
      exact ⟨x, x', rfl, hx, hx'⟩
    · unfold LgTurn at hx
      obtain ⟨x1, x2, rfl, h3, h4⟩ := hx
      obtain ⟨m1, hy1⟩ := b1 x2 y m h4 hy
      rw [List.append_assoc]
      exact b2 x1 (x2 ++ y) m1 h3 hy1
theorem fork_last {S S2 T : List St} {a o : Nat} (hA : Agree S (S2 ++ [⟨noB, true, a, o⟩]) T) (hl : S.length ≤ S2.length) : stAt T S2.length = ⟨noB, true, a, o⟩ :=
  (hA S2.length hl (by simp)).trans (stAt_app S2 _)
theorem does_alt : ∀ (l : List Nd), l ≠ [] → (∀ n ∈ l, Does n) → ∀ (b : Nat) (S T : List St), 0 < S.length → (stAt T 0).fork = false → Agree S (addAlt l b S).1 T →
    (∀ w m, Acc T (addAlt l b S).2 w m → ∃ x y m', w = x ++ y ∧ LgAlt l x ∧ Acc T b y m' ∧ m' ≤ m) ∧
    (∀ x y m, LgAlt l x → Acc T b y m → ∃ m', Acc T (addAlt l b S).2 (x ++ y) m')
  | [], h, _, b, S, T, hS, h0, hA => absurd rfl h
  | n :: r, _, hl, b, S, T, hS, h0, hA => by
    unfold addAlt at hA ⊢
    by_cases hr : r.isEmpty = true
    · obtain rfl : r = [] := by simpa using hr
      simp only [List.isEmpty_nil, if_true] at hA ⊢
      obtain ⟨f2, b2⟩ := hl n (by simp) b S T hS h0 hA
      refine ⟨fun w m h => ?_, fun x y m hx hy => ?_⟩
      · obtain ⟨x, y, m1, e, hx, hy, hm1⟩ := f2 w m h
        refine ⟨x, y, m1, e, ?_, hy, hm1⟩
        unfold LgAlt
        exact .inl hx
      · unfold LgAlt LgAlt at hx
        exact b2 x y m (hx.elim id (fun h => h.elim)) hy
    · rw [if_neg hr] at hA ⊢
      have h1 := (addAlt_len r b S).1
      have h2 := (addS_len n b (addAlt r b S).1).1
      unfold forkOn at hA ⊢
      have hs := fork_last hA (by omega)
      have hA2 : Agree S (addS n b (addAlt r b S).1).1 T := hA.of (by simp) (fun i _ hi => by rw [List.getElem?_append_left hi])
      have hA1 : Agree S (addAlt r b S).1 T := hA2.of h2 (fun i _ hi => addS_keeps n _ _ i hi)
      obtain ⟨f1, b1⟩ := does_alt r (by rintro rfl; simp at hr) (fun m hm => hl m (by simp [hm])) b S T hS h0 hA1
      obtain ⟨f2, b2⟩ := hl n (by simp) b (addAlt r b S).1 T (by omega) h0 (hA2.late h1)
      simp only
      refine ⟨fun w m h => ?_, fun x y m hx hy => ?_⟩
      · obtain ⟨m1, rfl, h | h⟩ := acc_fork (by rw [hs]) h0 h
        · rw [hs] at h
          obtain ⟨x, y, m2, e, hx, hy, hm⟩ := f2 w m1 h
          refine ⟨x, y, m2, e, ?_, hy, by omega⟩
          unfold LgAlt
          exact .inl hx
        · rw [hs] at h
          obtain ⟨x, y, m2, e, hx, hy, hm⟩ := f1 w m1 h
          refine ⟨x, y, m2, e, ?_, hy, by omega⟩
          unfold LgAlt
          exact .inr hx
      · unfold LgAlt at hx
        rcases hx with hx | hx
        · obtain ⟨m1, h⟩ := b2 x y m hx hy
          exact ⟨m1 + 1, .nx (by rw [hs]) (by rw [hs]; exact h)⟩
        · obtain ⟨m1, h⟩ := b1 x y m hx hy
          exact ⟨m1 + 1, .ot (by rw [hs]) (by rw [hs]; exact h)⟩
theorem lgAlt_one (n : Nd) : LgAlt [n] = Lg n := by
  funext b
  unfold LgAlt LgAlt
  simp
theorem does_loop (k : Nat) (n : Nd) (hn : Does n) (b : Nat) (S T : List St) (_hS : 0 < S.length) (h0 : (stAt T 0).fork = false) (hA : Agree S (loopEnd k S.length b (addS n S.length (S ++ [⟨noB, true, 0, b⟩]))).1 T) :
    (∀ w m, Acc T S.length w m → ∃ x y m', w = x ++ y ∧ Star (Lg n) x ∧ Acc T b y m' ∧ m' ≤ m) ∧
    (∀ x y m, Star (Lg n) x → Acc T b y m → ∃ m', Acc T S.length (x ++ y) m') ∧
    (∀ w m, Acc T (addS n S.length (S ++ [⟨noB, true, 0, b⟩])).2 w m → ∃ x y m', w = x ++ y ∧ Lg n x ∧ Acc T S.length y m' ∧ m' ≤ m) ∧
    (∀ x y m, Lg n x → Acc T S.length y m → ∃ m', Acc T (addS n S.length (S ++ [⟨noB, true, 0, b⟩])).2 (x ++ y) m') := by
  have h1 := (addS_len n S.length (S ++ [⟨noB, true, 0, b⟩])).1
  simp only [List.length_append, List.length_cons, List.length_nil] at h1
  obtain ⟨r, hr⟩ : ∃ r, addS n S.length (S ++ [⟨noB, true, 0, b⟩]) = r := ⟨_, rfl⟩
  have hd := hn S.length (S ++ [⟨noB, true, 0, b⟩]) T (by simp) h0
  rw [hr] at hA h1 hd ⊢
  unfold loopEnd at hA
  have hs : stAt T S.length = ⟨noB, true, r.2, b⟩ := (hA S.length (Nat.le_refl _) (by rw [List.length_set]; omega)).trans (stAt_of (by rw [List.getElem?_set_self (by omega)]))
  obtain ⟨f2, b2⟩ := hd (fun i hi hi2 => by
    simp only [List.length_append, List.length_cons, List.length_nil] at hi
    exact (hA i (by omega) (by simpa using hi2)).trans (stAt_eq (by rw [List.getElem?_set_ne (by omega)])))
  refine ⟨fun w m => ?_, fun x y m hx => ?_, f2, b2⟩
  · induction m using Nat.strongRecOn generalizing w with
    | _ m ih =>
      intro h
      obtain ⟨m1, rfl, h | h⟩ := acc_fork (by rw [hs]) h0 h
      · rw [hs] at h
        obtain ⟨x, y, m2, rfl, hx, hy, hm⟩ := f2 w m1 h
        obtain ⟨x', y', m3, rfl, hx', hy', hm'⟩ := ih m2 (by omega) y hy
        exact ⟨x ++ x', y', m3, by simp, .cons hx hx', hy', by omega⟩
      · rw [hs] at h
        exact ⟨[], w, m1, rfl, .nil, h, by omega⟩
  · induction hx with
    | nil => exact fun hy => ⟨m + 1, .ot (by rw [hs]) (by rw [hs]; exact hy)⟩
    | cons hx _ ih =>
      intro hy
      obtain ⟨m1, h⟩ := ih hy
      obtain ⟨m2, h2⟩ := b2 _ _ m1 hx h
      rw [List.append_assoc]
      exact ⟨m2 + 1, .nx (by rw [hs]) (by rw [hs]; exact h2)⟩
theorem does_any : ∀ n, Wf n → Does n := Nd.all (C := fun n => Wf n → Does n) (fun p _ => does_one p) fun k l ih hw => by
  unfold Wf at hw
  have hl : ∀ n ∈ l, Does n := fun n hn => ih n hn (hw.1.mem n hn)
  intro b S T hS h0 hA
  unfold addS at hA ⊢
  by_cases h1 : k = 1
  · rw [if_pos h1] at hA ⊢
    obtain ⟨f, g⟩ := does_turn l hl b S T hS h0 hA
    unfold Lg
    simp only [if_pos h1]
    exact ⟨f, g⟩
  rw [if_neg h1] at hA ⊢
  by_cases h2 : k = 2
  · rw [if_pos h2] at hA ⊢
    obtain ⟨f, g⟩ := does_alt l (by rcases hw.2 with e | ⟨-, e⟩ | ⟨e, -⟩; omega; exact e; omega) hl b S T hS h0 hA
    unfold Lg
    simp only [if_neg h1, if_pos h2]
    exact ⟨f, g⟩
  rw [if_neg h2] at hA ⊢
  obtain ⟨n, rfl⟩ : ∃ n, l = [n] := List.length_eq_one_iff.1 (by rcases hw.2 with e | ⟨e, -⟩ | ⟨-, e⟩; omega; omega; exact e)
  have hn := hl n (by simp)
  unfold addHead at hA ⊢
  unfold Lg
  simp only [if_neg h1, if_neg h2, lgAlt_one]
  by_cases h5 : k = 5
  · simp only [if_pos h5] at hA ⊢
    unfold forkOn at hA ⊢
    have hl1 := (addS_len n b S).1
    have hs := fork_last hA hl1
    have hA1 : Agree S (addS n b S).1 T := hA.of (by simp) (fun i _ hi => by rw [List.getElem?_append_left hi])
    obtain ⟨f2, b2⟩ := hn b S T hS h0 hA1
    simp only
    refine ⟨fun w m h => ?_, fun x y m hx hy => ?_⟩
    · obtain ⟨m1, rfl, h | h⟩ := acc_fork (by rw [hs]) h0 h
      · rw [hs] at h
        obtain ⟨x, y, m2, e, hx, hy, hm⟩ := f2 w m1 h
        exact ⟨x, y, m2, e, .inr hx, hy, by omega⟩
      · rw [hs] at h
        exact ⟨[], w, m1, rfl, .inl rfl, h, by omega⟩
    · rcases hx with rfl | hx
      · exact ⟨m + 1, .ot (by rw [hs]) (by rw [hs]; exact hy)⟩
      · obtain ⟨m1, h⟩ := b2 x y m hx hy
        exact ⟨m1 + 1, .nx (by rw [hs]) (by rw [hs]; exact h)⟩
  · simp only [if_neg h5] at hA ⊢
    obtain ⟨f1, b1, f2, b2⟩ := does_loop k n hn b S T hS h0 hA
    unfold loopEnd
    by_cases h4 : k = 4
    · simp only [if_pos h4]
      refine ⟨fun w m h => ?_, fun x y m hx hy => ?_⟩
      · obtain ⟨x, y, m1, rfl, hx, hy, hm⟩ := f2 w m h
        obtain ⟨x', y', m2, rfl, hx', hy', hm'⟩ := f1 y m1 hy
        exact ⟨x ++ x', y', m2, by simp, ⟨x, x', rfl, hx, hx'⟩, hy', by omega⟩
      · obtain ⟨x1, x2, rfl, h3, h6⟩ := hx
        obtain ⟨m1, h⟩ := b1 x2 y m h6 hy
        rw [List.append_assoc]
        exact b2 x1 (x2 ++ y) m1 h3 h
    · simp only [if_neg h4]
      exact ⟨f1, b1⟩
theorem stOk_mono {S S' : List St} (h : ∀ s ∈ S, s.nx < S.length ∧ s.ot < S.length) (hl : S.length ≤ S'.length) : ∀ s ∈ S, s.nx < S'.length ∧ s.ot < S'.length := fun s hs => by have := h s hs; omega
end Go.Proofs.YtoooaipbkkiefaaGreatDoor
/- What is built may be run, and matches just what the pattern says. No program in it. -/
namespace Go.Proofs.YtoooaipbkkiefaaGreatDoor
open Go.RowKit
set_option maxRecDepth 100000
set_option maxHeartbeats 1000000

/-- states that lead to states; the first is one -/
def Fit (r : List St × Nat) : Prop := StOk r.1 ∧ r.2 < r.1.length
theorem StOk.snoc {S : List St} (h : StOk S) {s : St} (h1 : s.nx < S.length + 1) (h2 : s.ot < S.length + 1) : StOk (S ++ [s]) := fun t ht => by
  simp only [List.length_append, List.length_cons, List.length_nil]
  rcases List.mem_append.1 ht with e | e
  · have := h t e; omega
  · obtain rfl : t = s := by simpa using e
    omega
theorem StOk.set {S : List St} (h : StOk S) {s : St} (i : Nat) (h1 : s.nx < S.length) (h2 : s.ot < S.length) : StOk (S.set i s) := fun t ht => by
  rw [List.length_set]
  rcases List.mem_or_eq_of_mem_set ht with e | rfl
  · exact h t e
  · exact ⟨h1, h2⟩
theorem Fit.forkOn {r : List St × Nat} (h : Fit r) {o : Nat} (ho : o < r.1.length) : Fit (forkOn r o) := by
  unfold Go.Proofs.YtoooaipbkkiefaaGreatDoor.forkOn
  exact ⟨h.1.snoc (by have := h.2; show r.2 < _; omega) (by show o < _; omega), by simp⟩
theorem Fit.loopEnd {r : List St × Nat} (h : Fit r) {k s b : Nat} (hb : b < r.1.length) (hs : s < r.1.length) : Fit (loopEnd k s b r) := by
  unfold Go.Proofs.YtoooaipbkkiefaaGreatDoor.loopEnd
  refine ⟨h.1.set s h.2 hb, ?_⟩
  show (if k = 4 then r.2 else s) < (r.1.set s _).length
  rw [List.length_set]
  split
  · exact h.2
  · exact hs
theorem addS_fit : ∀ n, ∀ (b : Nat) (S : List St), StOk S → b < S.length → Fit (addS n b S) := by
  have hd : ∀ (l : List Nd), (∀ n ∈ l, ∀ (b : Nat) (S : List St), StOk S → b < S.length → Fit (addS n b S)) → ∀ (b : Nat) (S : List St), StOk S → b < S.length → Fit (addHead l b S) := fun l hl b S hS hb => by
    cases l with
    | nil => unfold addHead; exact ⟨hS, hb⟩
    | cons n r => unfold addHead; exact hl n (by simp) b S hS hb
  refine Nd.all (fun p b S hS hb => ?_) (fun k l hl b S hS hb => ?_)
  · unfold addS
    exact ⟨hS.snoc (by show b < _; omega) (by show 0 < _; omega), by simp⟩
  · unfold addS
    split
    · clear hd
      induction l generalizing b S with
      | nil => unfold addTurn; exact ⟨hS, hb⟩
      | cons n r ih =>
        unfold addTurn
        have h1 := ih (fun m hm => hl m (by simp [hm])) b S hS hb
        exact hl n (by simp) _ _ h1.1 h1.2
    split
    · clear hd
      induction l generalizing b S with
      | nil => unfold addAlt; exact ⟨hS, hb⟩
      | cons n r ih =>
        unfold addAlt
        split
        · exact hl n (by simp) b S hS hb
        · have h1 := ih (fun m hm => hl m (by simp [hm])) b S hS hb
          have hl1 := (addAlt_len r b S).1
          have h2 := hl n (by simp) b (addAlt r b S).1 h1.1 (by omega)
          have hl2 := (addS_len n b (addAlt r b S).1).1
          exact h2.forkOn (by have := h1.2; omega)
    split
    · have hl1 := (addHead_len l b S).1
      exact (hd l hl b S hS hb).forkOn (by omega)
    · have hl1 := (addHead_len l S.length (S ++ [⟨noB, true, 0, b⟩])).1
      simp only [List.length_append, List.length_cons, List.length_nil] at hl1
      exact (hd l hl S.length _ (hS.snoc (by show 0 < _; omega) (by show b < _; omega)) (by simp)).loopEnd (by omega) (by omega)
theorem build_fit (n : Nd) : Fit (buildS n) := addS_fit n 0 [endSt] (fun s hs => by
  obtain rfl : s = endSt := by simpa using hs
  exact ⟨by decide, by decide⟩) (by simp)
theorem build_end (n : Nd) : stAt (buildS n).1 0 = endSt := stAt_of (by
  unfold buildS
  rw [addS_keeps n 0 [endSt] 0 (by simp)]
  rfl)
theorem acc_finS {T : List St} (h : stAt T 0 = endSt) {y : List UInt8} {m : Nat} (ha : Acc T 0 y m) : y = [] := by
  cases ha with
  | fin => rfl
  | byte _ hp _ => rw [h] at hp; cases hp
  | nx hf _ => rw [h] at hf; cases hf
  | ot hf _ => rw [h] at hf; cases hf
theorem match_lang {n : Nd} (hw : Wf n) (b : List UInt8) : matchS (buildS n) b = true ↔ Lg n b := by
  have he := build_end n
  rw [match_acc (build_fit n).1 (by rw [he]; rfl) (build_fit n).2]
  obtain ⟨f, g⟩ := does_any n hw 0 [endSt] (buildS n).1 (by simp) (by rw [he]; rfl) (fun i _ _ => rfl)
  constructor
  · rintro ⟨m, h⟩
    obtain ⟨x, y, m', rfl, hx, hy, -⟩ := f b m h
    rw [acc_finS he hy, List.append_nil]
    exact hx
  · intro h
    obtain ⟨m, hm⟩ := g b [] 0 h .fin
    rw [List.append_nil] at hm
    exact ⟨m, hm⟩
theorem build_len {n : Nd} (hw : Wf n) : (buildS n).1.length ≤ 1 + wt n := by
  have := (addS_len n 0 [endSt]).2 hw
  unfold buildS
  simpa using this
end Go.Proofs.YtoooaipbkkiefaaGreatDoor
