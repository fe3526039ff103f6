/- addEither: what is read, what is kept. -/
import Derived.Test.YtikaamonmaohjaaGreatDoorMid
import Derived.Test.YtikaamonmaohjaaGreatDoorSetP
import Derived.OrdersIn
import Derived.OrdersHeld
import Derived.RangeFuncCalls
import Derived.OwnWalkIn
namespace Go.Proofs.YtikaamonmaohjaaGreatDoor
open Go.RowKit
set_option maxRecDepth 100000
set_option maxHeartbeats 2000000

def cells6 (x : Fin 6 → Value) : List Value := [x 0, x 1, x 2, x 3, x 4, x 5]
theorem cells6_len (vs : List (Fin 6 → Value)) : (vs.flatMap cells6).length = vs.length * 6 := by
  induction vs with
  | nil => rfl
  | cons x r ih => rw [List.flatMap_cons, List.length_append, ih, List.length_cons]; simp [cells6] <;> omega
theorem cells6_get : ∀ (vs : List (Fin 6 → Value)) (i : Nat) (x : Fin 6 → Value) (j : Fin 6), vs[i]? = some x → (vs.flatMap cells6)[i * 6 + j.val]? = some (x j)
  | [], i, x, j, h => by simp at h
  | y :: r, 0, x, j, h => by
    obtain rfl : y = x := by simpa using h
    rw [List.flatMap_cons, List.getElem?_append_left (by simp [cells6] <;> omega)]
    match j with
    | 0 => rfl
    | 1 => rfl
    | 2 => rfl
    | 3 => rfl
    | 4 => rfl
    | 5 => rfl
  | y :: r, i + 1, x, j, h => by
    rw [List.flatMap_cons, List.getElem?_append_right (by simp [cells6]; omega)]
    have := cells6_get r i x j (by simpa using h)
    rwa [show (i + 1) * 6 + j.val - (cells6 y).length = i * 6 + j.val by simp [cells6] <;> omega]
theorem leaf_one {x : Fin 6 → Value} {p : Nat → Bool} (h : LeafV (aggOf x) p) : ∀ u ∈ cells6 x, u.oneCell' = true := by
  obtain ⟨u0, u1, u2, u3, e, -⟩ := h
  unfold aggOf at e
  simp only [Value.agg.injEq, Array.mk.injEq, List.cons.injEq, and_true] at e
  obtain ⟨e0, e1, e2, e3, e4, e5⟩ := e
  intro u hu
  simp only [cells6, e0, e1, e2, e3, e4, e5, List.mem_cons, List.not_mem_nil, or_false] at hu
  rcases hu with rfl | rfl | rfl | rfl | rfl | rfl <;> rfl
theorem node_one {W : World} {X : Nat → Prop} {n : Nd} {x : Fin 6 → Value} (h : NodeV W X n (aggOf x)) : ∀ u ∈ cells6 x, u.oneCell' = true := by
  cases n with
  | one p => unfold NodeV at h; exact leaf_one h
  | op k l =>
    unfold NodeV at h
    obtain ⟨A, c, e, -⟩ := h
    unfold aggOf kindV at e
    simp only [Value.agg.injEq, Array.mk.injEq, List.cons.injEq, and_true] at e
    obtain ⟨e0, e1, e2, e3, e4, e5⟩ := e
    intro u hu
    simp only [cells6, e0, e1, e2, e3, e4, e5, List.mem_cons, List.not_mem_nil, or_false] at hu
    rcases hu with rfl | rfl | rfl | rfl | rfl | rfl
    · rfl
    · rfl
    · rfl
    · rfl
    · rfl
    · cases A <;> rfl
/-- a row of patterns of the call's own -/
def OwnN (W : World) (B : Nat) (v : Value) (l : List Nd) : Prop :=
  ∃ (X : Nat → Prop) (vs : List (Fin 6 → Value)), vs.length = l.length ∧ W.ownsRow B 150 6 v l.length (vs.flatMap cells6) ∧ (∀ (i : Nat) (n : Nd) (x : Fin 6 → Value), l[i]? = some n → vs[i]? = some x → NodeV W X n (aggOf x)) ∧ ∀ b, X b → B ≤ b ∧ b < W.heap.size ∧ v.ownBlock ≠ some b
theorem OwnN.nil (W : World) (B : Nat) : OwnN W B (.slice none 0 0) [] := ⟨fun _ => False, [], rfl, World.ownsRow_nil _ _ _ _, fun i n x h => by simp at h, fun b h => h.elim⟩
theorem node_info : (Tryz.prog.info? 150).map (fun i => (i.zero, i.size, i.bytes)) = some (some (.agg #[.int .i64 0, .int .u64 0, .int .u64 0, .int .u64 0, .int .u64 0, .slice none 0 0]), 6, 64) := by kernel_rfl
theorem run_appN {W : World} {B : Nat} {v : Value} {l : List Nd} {n : Nd} {X : Nat → Prop} {g c : Nat} {x : Fin 6 → Value} (h : OwnN W B v l) (hx : sixAt W g 0 x) (hn : NodeV W X n (aggOf x)) (hX : ∀ b, X b → B ≤ b ∧ b < W.heap.size ∧ v.ownBlock ≠ some b) (hl : l.length ≤ 1000000) (hB : B ≤ W.heap.size) :
    ∃ v' W', (Builtin.append_ #[148, 148] 148 #[v, .slice (some ⟨g, 0, none⟩) 1 c]).run Tryz.prog W = .ok v' W' ∧ OwnN W' B v' (l ++ [n]) ∧ W.grownBy W' v.ownBlock := by
  obtain ⟨i0, hi, hz0, hz1, hz2⟩ := info_parts node_info
  obtain ⟨Y, vs, hvl, hown, hel, hY⟩ := h
  have hadd : ∀ j, (⟨g, 0, none⟩ : Addr).add j = ⟨g, j, none⟩ := fun j => by unfold Addr.add; split <;> simp_all
  obtain ⟨v', w', hr, h2, h3, _, h5⟩ := run_append_own_at (P := Tryz.prog) W B 148 148 150 i0 (.agg #[.int .i64 0, .int .u64 0, .int .u64 0, .int .u64 0, .int .u64 0, .slice none 0 0]) 6 64 Tryz.underlying148 hi hz0 hz1 hz2 rfl (by omega) v l.length _ hown ⟨g, 0, none⟩ 1 c (cells6 x) (by simp [cells6]) (fun j u hu => by
    rw [hadd]
    have hj : j < 6 := by have := (List.getElem?_eq_some_iff.1 hu).1; simpa [cells6] using this
    have := hx ⟨j, hj⟩
    simp only [Nat.zero_mul, Nat.zero_add] at this
    rw [this, ← hu]
    have := cells6_get [x] 0 x ⟨j, hj⟩ rfl
    simpa using this.symm) (node_one hn) (by unfold maxLen; omega) (by omega) hB
  have hs := h3.size
  have same : ∀ Z : Nat → Prop, (∀ b, Z b → B ≤ b ∧ b < W.heap.size ∧ v.ownBlock ≠ some b) → SameOn W w' Z := fun Z hZ b hb hlt => h3.block b hlt (fun e => (hZ b hb).2.2 e.symm)
  refine ⟨v', w', hr, ⟨fun b => Y b ∨ X b, vs ++ [x], by simp [hvl], ?_, fun i m y hm hy => ?_, fun b hb => ?_⟩, h3⟩
  · rw [List.flatMap_append, List.length_append]
    simpa using h2
  · by_cases hi : i < l.length
    · rw [List.getElem?_append_left hi] at hm
      rw [List.getElem?_append_left (by omega)] at hy
      exact (NodeV.same (same Y hY) m _ (hel i m y hm hy)).mono (fun b hb => .inl hb) m _
    · rw [List.getElem?_append_right (by omega)] at hm
      rw [List.getElem?_append_right (by omega)] at hy
      have e0 : i - l.length = 0 := by
        have := (List.getElem?_eq_some_iff.1 hm).1
        simpa using this
      rw [e0] at hm
      rw [hvl, e0] at hy
      obtain rfl : n = m := by simpa using hm
      obtain rfl : x = y := by simpa using hy
      exact (NodeV.same (same X hX) n _ hn).mono (fun b hb => .inr hb) n _
  · have : B ≤ b ∧ b < W.heap.size ∧ v.ownBlock ≠ some b := hb.elim (hY b) (hX b)
    refine ⟨this.1, by omega, ?_⟩
    rcases h5 with e | e
    · rw [e]; exact this.2.2
    · rw [e]; intro e2; have := Option.some.inj e2; omega
end Go.Proofs.YtikaamonmaohjaaGreatDoor
namespace Go.Proofs.YtikaamonmaohjaaGreatDoor
open Go.RowKit
set_option maxRecDepth 100000

def noN : Nd := .op 0 []
/-- 'br': what a pattern behind an opening bracket reads -/
def atomS (s : List UInt8) (br : Nat → Bool × Nd × Nat) (k : Nat) : Bool × Nd × Nat :=
  if isAt s k 46 then (true, .one (fun x => !(fun _ => false : Nat → Bool) x), k + 1)
  else if isAt s k 40 then
    (if (br (k + 1)).1 then (if isAt s (br (k + 1)).2.2 41 then (true, (br (k + 1)).2.1, (br (k + 1)).2.2 + 1) else (false, noN, (br (k + 1)).2.2)) else (false, noN, (br (k + 1)).2.2))
  else if isAt s k 91 then ((setS s (k + 1)).1, .one (setS s (k + 1)).2.1, (setS s (k + 1)).2.2)
  else if (letterS s spL bsL k).1 then (true, .one (fun x => false || inR (letterS s spL bsL k).2.1.toNat (letterS s spL bsL k).2.1.toNat x), (letterS s spL bsL k).2.2)
  else (false, noN, (letterS s spL bsL k).2.2)
def pieceS (s : List UInt8) (br : Nat → Bool × Nd × Nat) (k : Nat) : Bool × Nd × Nat :=
  let r := atomS s br k
  if r.1 then
    if isAt s r.2.2 42 then (true, .op 3 [r.2.1], r.2.2 + 1)
    else if isAt s r.2.2 43 then (true, .op 4 [r.2.1], r.2.2 + 1)
    else if isAt s r.2.2 63 then (true, .op 5 [r.2.1], r.2.2 + 1)
    else r
  else (false, noN, r.2.2)
def goesOn (s : List UInt8) (k : Nat) : Bool := decide (k < s.length) && !isAt s k 124 && !isAt s k 41
def piecesF (s : List UInt8) (br : Nat → Bool × Nd × Nat) : Nat → Nat → List Nd → Bool × List Nd × Nat
  | 0, k, _ => (false, [], k)
  | f + 1, k, acc =>
    if goesOn s k then (if (pieceS s br k).1 then piecesF s br f (pieceS s br k).2.2 (acc ++ [(pieceS s br k).2.1]) else (false, [], (pieceS s br k).2.2))
    else (true, acc, k)
def altF (s : List UInt8) (br : Nat → Bool × Nd × Nat) : Nat → Nat → List Nd → Bool × List Nd × Nat
  | 0, k, _ => (false, [], k)
  | f + 1, k, acc =>
    let r := piecesF s br (s.length + 1) k []
    if r.1 then (if isAt s r.2.2 124 then altF s br f (r.2.2 + 1) (acc ++ [.op 1 r.2.1]) else (true, acc ++ [.op 1 r.2.1], r.2.2))
    else (false, [], r.2.2)
/-- d: more than bytes are left -/
def patS (s : List UInt8) : Nat → Nat → Bool × Nd × Nat
  | 0, k => (false, noN, k)
  | d + 1, k => ((altF s (patS s d) (s.length + 1) k []).1, .op 2 (altF s (patS s d) (s.length + 1) k []).2.1, (altF s (patS s d) (s.length + 1) k []).2.2)

/-- a tree that was made since w -/
def NewN (w w' : World) (n : Nd) (v : Value) : Prop := ∃ X : Nat → Prop, (∀ c, X c → w.heap.size ≤ c ∧ c < w'.heap.size) ∧ NodeV w' X n v
def ReadPost (b : Nat) (s : ByteArray) (r : Bool × Nd × Nat) (w : World) (e : Ending) (w' : World) : Prop :=
  Rd w' b s r.2.2 ∧ Only w w' b ∧ ∃ v, e = .returned (.tuple #[v, .bool r.1]) ∧ (r.1 = true → NewN w w' r.2.1 v) ∧ (r.1 = false → v = zeroN)
theorem NewN.leaf {w w' : World} {p : Nat → Bool} {v : Value} (h : LeafV v p) : NewN w w' (.one p) v := ⟨fun _ => False, fun _ h => h.elim, by unfold NodeV; exact h⟩
theorem node_form {W : World} {X : Nat → Prop} {n : Nd} {v : Value} (h : NodeV W X n v) : ∃ (k u0 u1 u2 u3 m c : Nat) (A : Option Addr), v = .agg #[.int .i64 k, .int .u64 u0, .int .u64 u1, .int .u64 u2, .int .u64 u3, .slice A m c] := by
  cases n with
  | one p =>
    unfold NodeV at h
    obtain ⟨u0, u1, u2, u3, e, -⟩ := h
    exact ⟨0, u0, u1, u2, u3, 0, 0, none, e⟩
  | op k l =>
    unfold NodeV at h
    obtain ⟨A, c, e, -⟩ := h
    exact ⟨k, 0, 0, 0, 0, l.length, c, A, e⟩
theorem NewN.form {w w' : World} {n : Nd} {v : Value} (h : NewN w w' n v) : ∃ (k u0 u1 u2 u3 m c : Nat) (A : Option Addr), v = .agg #[.int .i64 k, .int .u64 u0, .int .u64 u1, .int .u64 u2, .int .u64 u3, .slice A m c] := by
  obtain ⟨X, -, h⟩ := h
  exact node_form h
/-- of w1's making; nothing of that has changed since -/
theorem NewN.keep {w W1 W2 W3 : World} {n : Nd} {v : Value} (h : NewN W1 W2 n v) (h1 : w.heap.size ≤ W1.heap.size) (h2 : W2.heap.size ≤ W3.heap.size) (g : ∀ c, W1.heap.size ≤ c → c < W2.heap.size → W3.heap[c]? = W2.heap[c]?) : NewN w W3 n v := by
  obtain ⟨X, hX, hn⟩ := h
  exact ⟨X, fun c hc => ⟨by have := (hX c hc).1; omega, by have := (hX c hc).2; omega⟩, NodeV.same (fun c hc _ => g c (hX c hc).1 (hX c hc).2) n v hn⟩
/-- the six cells of a tree's value -/
theorem node_six {W : World} {X : Nat → Prop} {n : Nd} {v : Value} (h : NodeV W X n v) : ∃ x : Fin 6 → Value, v = aggOf x := by
  cases n with
  | one p =>
    unfold NodeV at h
    obtain ⟨u0, u1, u2, u3, e, -⟩ := h
    exact ⟨fun j => match j with | 0 => .int .i64 0 | 1 => .int .u64 u0 | 2 => .int .u64 u1 | 3 => .int .u64 u2 | 4 => .int .u64 u3 | 5 => .slice none 0 0, e⟩
  | op k l =>
    unfold NodeV at h
    obtain ⟨A, c, e, -⟩ := h
    exact ⟨fun j => match j with | 0 => .int .i64 k | 1 => .int .u64 0 | 2 => .int .u64 0 | 3 => .int .u64 0 | 4 => .int .u64 0 | 5 => .slice A l.length c, e⟩
end Go.Proofs.YtikaamonmaohjaaGreatDoor
namespace Go.Proofs.YtikaamonmaohjaaGreatDoor
open Go.RowKit
set_option maxRecDepth 100000
set_option maxHeartbeats 4000000
attribute [local go_sem] Oper.semAt_some

/-- the states when some parts have been added -/
def turnF (l : List Nd) (b : Nat) (S : List St) (pre : List (Fin l.length)) : List St × Nat := pre.foldl (fun s i => addS l[i.val] s.2 s.1) (S, b)
theorem turnF_snoc (l : List Nd) (b : Nat) (S : List St) (pre : List (Fin l.length)) (x : Fin l.length) : turnF l b S (pre ++ [x]) = addS l[x.val] (turnF l b S pre).2 (turnF l b S pre).1 := by
  unfold turnF
  rw [List.foldl_append]
  rfl
theorem turnF_all (l : List Nd) (b : Nat) (S : List St) : turnF l b S (revs l.length) = addTurn l b S := by
  rw [addTurn_foldr]
  exact revs_fold l (fun s n => addS n s.2 s.1) (S, b)
theorem turnF_len (l : List Nd) (hw : WfL l) (b : Nat) (S : List St) : ∀ pre, (turnF l b S pre).1.length ≤ S.length + pre.length * (wts l) := by
  intro pre
  have key : ∀ (r : List (Fin l.length)), (turnF l b S r.reverse).1.length ≤ S.length + r.length * (wts l) := fun r => by
    induction r with
    | nil => simp [turnF]
    | cons x r ih =>
      rw [List.reverse_cons, turnF_snoc]
      have h1 := (addS_len l[x.val] (turnF l b S r.reverse).2 (turnF l b S r.reverse).1).2 (hw.mem _ (List.getElem_mem _))
      have h2 := wts_mem (List.getElem_mem x.isLt : l[x.val] ∈ l)
      rw [List.length_cons, Nat.succ_mul]
      omega
  have := key pre.reverse
  simpa using this
/-- a pattern's parts in memory -/
theorem NodeV.parts {W : World} {X : Nat → Prop} {k : Nat} {l : List Nd} {nv : Value} (h : NodeV W X (.op k l) nv) : ∃ (A : Option Addr) (pb c : Nat) (val : Nat → Fin 6 → Value), nv = .agg #[.int .i64 k, .int .u64 0, .int .u64 0, .int .u64 0, .int .u64 0, .slice A l.length c] ∧ l.length ≤ c ∧ c ≤ maxLen ∧ PartsAt W A pb l.length val ∧ (0 < l.length → X pb) ∧ ∀ (i : Nat) (hi : i < l.length), NodeV W X l[i] (aggOf (val i)) := by
  unfold NodeV at h
  obtain ⟨A, c, e, h1, h2, h3⟩ := h
  by_cases h0 : 0 < l.length
  · obtain ⟨pb, rfl, hX, hn⟩ := h3 h0
    have key : ∀ i : Nat, ∃ v : Fin 6 → Value, ∀ hi : i < l.length, sixAt W pb i v ∧ NodeV W X l[i] (aggOf v) := fun i => by
      by_cases hi : i < l.length
      · obtain ⟨v, a, b⟩ := NodesFrom.get l 0 i l[i] hn (List.getElem?_eq_getElem hi)
        exact ⟨v, fun _ => ⟨by rwa [Nat.zero_add] at a, b⟩⟩
      · exact ⟨fun _ => undef, fun h => absurd h hi⟩
    obtain ⟨val, hval⟩ := Classical.axiomOfChoice key
    exact ⟨_, pb, c, val, e, h1, h2, fun _ => ⟨rfl, fun j hj => (hval j hj).1⟩, fun _ => hX, fun i hi => (hval i hi).2⟩
  · exact ⟨A, 0, c, fun _ _ => undef, e, h1, h2, fun h => absurd h h0, fun h => absurd h h0, fun i hi => by omega⟩
/-- between two rounds: what the builder, the variable N hold -/
def TurnI (B g N : Nat) (w0 : World) (v : Value) (r : List St × Nat) (W : World) : Prop := ∃ v', Bld B g W r.1 v' ∧ BMid g N w0 v W v' ∧ W.heap[N]? = some (.cells #[.int .i64 r.2] 3 (0, 0))
theorem turnI_own {β : Type} (B g N : Nat) (w0 : World) (v : Value) (f : β → List St × Nat) : OwnFrom w0.heap.size (fun s W => TurnI B g N w0 v (f s) W) := fun s X Y row hs hg hr => by
  obtain ⟨v', h1, h2, h3⟩ := hs
  exact ⟨v', h1.turn hg (fun r e => (hr r e).2), h2.turn hg (fun r e => (hr r e).1), cells_turn hg (fun r e => (hr r e).2) h3⟩
end Go.Proofs.YtikaamonmaohjaaGreatDoor
/- add at parts one behind the other: the walk. -/
namespace Go.Proofs.YtikaamonmaohjaaGreatDoor
open Go.RowKit
set_option maxRecDepth 100000
set_option maxHeartbeats 4000000
attribute [local go_sem] Oper.semAt_some

theorem room_turn {l : List Nd} {S p : Nat} (h : S + ((l.length + 1) * (wts l + 1) + 1 + bdm l) ≤ 1000000000000) (hp : p < l.length) : S + p * wts l + bdm l ≤ 1000000000000 := by
  have : p * wts l ≤ (l.length + 1) * (wts l + 1) := Nat.mul_le_mul (by omega) (by omega)
  omega
theorem four_new (w : World) (c1 c2 c3 c4 : Array Value) (t1 t2 t3 t4 : TypeId) : ((((w.alloc (.cells c1 t1)).alloc (.cells c2 t2)).alloc (.cells c3 t3)).alloc (.cells c4 t4)).heap[w.heap.size]? = some (.cells c1 t1 (0, 0)) ∧ ((((w.alloc (.cells c1 t1)).alloc (.cells c2 t2)).alloc (.cells c3 t3)).alloc (.cells c4 t4)).heap[w.heap.size + 1]? = some (.cells c2 t2 (0, 0)) ∧ ((((w.alloc (.cells c1 t1)).alloc (.cells c2 t2)).alloc (.cells c3 t3)).alloc (.cells c4 t4)).heap[w.heap.size + 2]? = some (.cells c3 t3 (0, 0)) ∧ ((((w.alloc (.cells c1 t1)).alloc (.cells c2 t2)).alloc (.cells c3 t3)).alloc (.cells c4 t4)).heap[w.heap.size + 3]? = some (.cells c4 t4 (0, 0)) := by
  obtain ⟨h1, h2, h3⟩ := three_new w c1 c2 c3 t1 t2 t3
  have h4 := heap_alloc_new (((w.alloc (.cells c1 t1)).alloc (.cells c2 t2)).alloc (.cells c3 t3)) (.cells c4 t4)
  have hs : (((w.alloc (.cells c1 t1)).alloc (.cells c2 t2)).alloc (.cells c3 t3)).heap.size = w.heap.size + 3 := by simp
  rw [hs] at h4
  have g := ((Gr.refl (((w.alloc (.cells c1 t1)).alloc (.cells c2 t2)).alloc (.cells c3 t3))).alloc c4 t4).b.block
  rw [hs] at g
  exact ⟨(g _ (by omega)).trans h1, (g _ (by omega)).trans h2, (g _ (by omega)).trans h3, h4⟩
theorem six_form {W : World} {X : Nat → Prop} {n : Nd} {y : Fin 6 → Value} (h : NodeV W X n (aggOf y)) : ∃ (k u0 u1 u2 u3 m c : Nat) (A : Option Addr), y 0 = .int .i64 k ∧ y 1 = .int .u64 u0 ∧ y 2 = .int .u64 u1 ∧ y 3 = .int .u64 u2 ∧ y 4 = .int .u64 u3 ∧ y 5 = .slice A m c := by
  obtain ⟨k, u0, u1, u2, u3, m, c, A, e⟩ := node_form h
  unfold aggOf at e
  simp only [Value.agg.injEq, Array.mk.injEq, List.cons.injEq, and_true] at e
  exact ⟨k, u0, u1, u2, u3, m, c, A, e⟩
theorem add_turn (l : List Nd) (ih : ∀ n ∈ l, AddC n) : AddC (.op 1 l) := by
  intro B g b X S nv v w h hB hX hn hw hbd
  obtain ⟨A, pb, c, val, rfl, hc1, hc2, hP, hXp, hns⟩ := hn.parts
  unfold Wf at hw
  unfold bd at hbd
  have hw := hw.1
  have hgl := h.lt
  have hbg := h.b
  have hrl := h.r.lt
  have CA := Lib.hid (fun (x : Fin l.length) W (hb : Below B w W) (b' : Nat) (S' : List St) u (h : Bld B g W S' u) (hl : S'.length + bd l[x.val] ≤ 1000000000000) => ih l[x.val] (List.getElem_mem _) B g b' X S' (aggOf (val x.val)) u W h (Nat.le_trans hB hb.size) hX (NodeV.same (fun c hc _ => hb.block c (hX c hc)) _ _ (hns x.val x.isLt)) (hw.mem _ (List.getElem_mem _)) hl)
  have HB := Lib.hid h
  have HNS := Lib.hid hns
  have HP := Lib.hid hP
  have HL := Lib.hid (fun (pre : List (Fin l.length)) (x : Fin l.length) (hp : pre.length < l.length) => show (turnF l b S pre).1.length + bd l[x.val] ≤ 1000000000000 by
    have h1 := turnF_len l hw b S pre
    have h2 := room_turn hbd hp
    have h3 := bdm_mem (List.getElem_mem x.isLt : l[x.val] ∈ l)
    omega)
  have e1 : addS (.op 1 l) b S = addTurn l b S := by
    conv => lhs; unfold addS
    rfl
  have hml : l.length ≤ 1000000000000 := by
    have : (l.length + 1) * 1 ≤ (l.length + 1) * (wts l + 1) := Nat.mul_le_mul (Nat.le_refl _) (by omega)
    omega
  rw [e1, ← turnF_all]
  have h0 : turnF l b S [] = (S, b) := rfl
  have H0 := Lib.hid h0
  clear h0 e1 hn hns hw hbd hP ih h
  refine (callsIn_wide (n := 9)).1 ?_
  refine callsIn_of_wp_marks Tryz.func133 rfl trivial ?_ rfl
  simp only [Tryz.ntmps133, List.size_toArray, List.length_cons, List.length_nil, Nat.reduceAdd, Nat.reduceSub, Array.replicate_succ, Array.replicate_zero, List.push_toArray, List.append_toArray, List.nil_append, List.cons_append]
  gi_wp2_with (refine ⟨trivial, ?_⟩; gi_at_call 154; refine (backward_in Fence.wide _ trivial rfl _ _ _ _).mono ?_; rintro e w' ⟨rfl, rfl⟩)
  have hn4 := four_new w #[.pointer (some ⟨g, 0, none⟩)] #[.int .i64 1, .int .u64 0, .int .u64 0, .int .u64 0, .int .u64 0, .slice A l.length c] #[.int .i64 b] #[.slice A l.length c] 192 150 3 148
  have k0 : Gr w ((((w.alloc (.cells #[.pointer (some ⟨g, 0, none⟩)] 192)).alloc (.cells #[.int .i64 1, .int .u64 0, .int .u64 0, .int .u64 0, .int .u64 0, .slice A l.length c] 150)).alloc (.cells #[.int .i64 b] 3)).alloc (.cells #[.slice A l.length c] 148)) := (Gr3 w _ _ _ _ _ _).alloc _ _
  have hsz : ((((w.alloc (.cells #[.pointer (some ⟨g, 0, none⟩)] 192)).alloc (.cells #[.int .i64 1, .int .u64 0, .int .u64 0, .int .u64 0, .int .u64 0, .slice A l.length c] 150)).alloc (.cells #[.int .i64 b] 3)).alloc (.cells #[.slice A l.length c] 148)).heap.size = w.heap.size + 4 := by simp
  obtain ⟨W0, hW0⟩ : ∃ W0, (((w.alloc (.cells #[.pointer (some ⟨g, 0, none⟩)] 192)).alloc (.cells #[.int .i64 1, .int .u64 0, .int .u64 0, .int .u64 0, .int .u64 0, .slice A l.length c] 150)).alloc (.cells #[.int .i64 b] 3)).alloc (.cells #[.slice A l.length c] 148) = W0 := ⟨_, rfl⟩
  rw [hW0] at hn4 k0 hsz ⊢
  clear hW0
  obtain ⟨n0, n1, n2, n3⟩ := hn4
  have hpb : 0 < l.length → pb < w.heap.size ∧ pb < B := fun h0 => by have := hX pb (hXp h0); omega
  have hP0 : PartsAt W0 A pb l.length val := fun h0 => by
    obtain ⟨e, hs⟩ := HP.out h0
    exact ⟨e, fun j hj i => k0.cell (hs j hj i)⟩
  have hpb2 : ∃ pb', PartsAt W0 A pb' l.length val ∧ pb' < W0.heap.size ∧ (0 < l.length → pb' < B) := by
    by_cases h0 : 0 < l.length
    · exact ⟨pb, hP0, by have := hpb h0; omega, fun _ => (hpb h0).2⟩
    · exact ⟨0, fun h => absurd h h0, by omega, fun h => absurd h h0⟩
  obtain ⟨pq, hPq, hpq, hpqB⟩ := hpb2
  have hv0 : ∀ k, w.heap.size ≤ k → v.ownBlock ≠ some k := fun k hk e => by have := hrl _ e; omega
  refine wpIn_rangeFunc_ownH rfl (by omega) (gf := 180) (lb := #[.pointer (some ⟨w.heap.size + 1 + 1 + 1, 0, none⟩)]) rfl trivial (enters_of Tryz.func180 (by kernel_rfl) rfl)
    (backward_stops Fence.wide _ trivial rfl (by omega) (w.heap.size + 1 + 1 + 1) pq l.length c A val hml W0 (by omega) (cell_of_row W0 _ 0 _ _ (0, 0) n3) hPq) two_t (two_b (by omega) hpq) (Below.refl _ _) (fun _ => rfl)
    (fun pre W => TurnI B g (w.heap.size + 1 + 1) W0 v (turnF l b S pre) W)
    (fun _ _ _ => False)
    (turnI_own B g (w.heap.size + 1 + 1) W0 v (turnF l b S))
    (fun _ _ _ _ _ hs _ _ => hs)
    ⟨v, by rw [H0.out]; exact HB.out.gr k0, BMid.refl _ _ _ _, by rw [H0.out]; exact n2⟩
    (fun x a' W => ∃ Bx, W0.heap.size ≤ Bx ∧ W.heap[Bx]? = some (.cells #[val x.val 0, val x.val 1, val x.val 2, val x.val 3, val x.val 4, val x.val 5] 150 (0, 0)) ∧ a' = { tmps := #[.pointer (some ⟨g, 0, none⟩), .agg #[.int .i64 1, .int .u64 0, .int .u64 0, .int .u64 0, .int .u64 0, .slice A l.length c], .int .i64 b, .pointer (some ⟨w.heap.size, 0, none⟩), .pointer (some ⟨w.heap.size + 1, 0, none⟩), .pointer (some ⟨w.heap.size + 1 + 1, 0, none⟩), .int .i64 0, undef, .pointer (some ⟨Bx, 0, none⟩), .pointer (some ⟨w.heap.size + 1, 0, none⟩), .int .i64 1, .bool false, .bool false, undef, undef, undef, undef, undef, undef, .bool true, .bool true, .pointer (some ⟨w.heap.size + 1, 5, none⟩), .slice A l.length c, .func (.func 180) #[] #[.pointer (some ⟨w.heap.size + 1 + 1 + 1, 0, none⟩)], .int .i64 (x.val : Int), aggOf (val x.val), undef, undef, undef, undef, undef, undef, undef, undef, undef, undef, undef, undef, undef, undef, undef, undef, undef, undef, undef, undef, undef, undef, undef, undef, undef, undef, undef, undef, undef], defers := [] })
    (fun x a' _ X Y row hs hg hr => by obtain ⟨Bx, h1, h2, h3⟩ := hs; exact ⟨Bx, h1, cells_turn hg (fun r e => (hr r e).2) h2, h3⟩)
    ?assign ?body ?done ?stop
  case assign =>
    rintro l1 pre x W K hI hK
    obtain ⟨k, u0, u1, u2, u3, m, cc, A2, y0, y1, y2, y3, y4, y5⟩ := six_form (HNS.out x.val x.isLt)
    unfold aggOf at hK ⊢
    simp only [y0, y1, y2, y3, y4, y5] at hK ⊢
    obtain ⟨v', hbld, hmid, hN⟩ := hI
    have hWs := hmid.size
    have ga : Gr W (W.alloc (.cells #[.int .i64 k, .int .u64 u0, .int .u64 u1, .int .u64 u2, .int .u64 u3, .slice A2 m cc] 150)) := (Gr.refl W).alloc _ _
    gi_wp2
    exact hK _ _ ((KeepsOthers.alloc _ _).from _) ⟨ga.b.block _ (by omega), ga.b.block _ (by omega)⟩ ⟨v', hbld.gr ga, hmid.gr ga, (ga.b.block _ (by omega)).trans hN⟩ ⟨W.heap.size, hWs, heap_alloc_new W _, rfl⟩
  case body =>
    rintro l1 pre x a' W hl1 - ⟨v', hbld, hmid, hN⟩ ⟨Bx, hBx, bX, rfl⟩ hlt
    have hbelow : Below B w W := (k0.b.mono hB).trans (hmid.below hbg (by omega) (fun k e => (hrl k e).1) (by omega))
    have hlb := HL.out pre x hlt
    have m0 := hmid.blk (c := w.heap.size) (by omega) (by omega) (by omega) (hv0 _ (by omega)) n0
    have hWs := hmid.size
    have hvN := hmid.other (c := w.heap.size + 1 + 1) (by omega) (hv0 _ (by omega))
    have hvB := hmid.other (c := w.heap.size + 1 + 1 + 1) (by omega) (hv0 _ (by omega))
    have hpql : pq < B := hpqB (by have := x.isLt; omega)
    have C1 := Lib.hid (CA.out x W hbelow (turnF l b S pre).2 (turnF l b S pre).1 v' hbld hlb)
    have HBL := Lib.hid hbld
    have HM := Lib.hid hmid
    have hvq : v'.ownBlock ≠ some pq := fun e => by have := (hbld.r.lt _ e).1; omega
    have hstep := turnF_snoc l b S pre x
    obtain ⟨r, hr⟩ : ∃ r, turnF l b S pre = r := ⟨_, rfl⟩
    rw [hr] at C1 HBL hN hstep
    have HST := Lib.hid hstep
    clear hstep hbld hmid hlb hr hbelow
    unfold aggOf at C1 ⊢
    have c0 := cell_of_row W _ 0 _ _ (0, 0) m0
    have c2 := cell_of_row W _ 0 _ _ (0, 0) hN
    have x0 := cell_of_row W _ 0 _ _ (0, 0) bX
    have x1 := cell_of_row W _ 1 _ _ (0, 0) bX
    have x2 := cell_of_row W _ 2 _ _ (0, 0) bX
    have x3 := cell_of_row W _ 3 _ _ (0, 0) bX
    have x4 := cell_of_row W _ 4 _ _ (0, 0) bX
    have x5 := cell_of_row W _ 5 _ _ (0, 0) bX
    have hNs : w.heap.size + 1 + 1 < W.heap.size := by omega
    have hzB : ∀ k, w.heap.size + 1 + 1 = k → k < W.heap.size := fun k e => by omega
    gi_wp2_with fail
    refine ⟨trivial, CallsIn.mono (CallsIn.inRound l1 (callsIn_wide.2 C1.out)) ?_⟩
    rintro e w1 ⟨rfl, v1, hb1, hs1⟩
    have hN1 := (hs1.block (w.heap.size + 1 + 1) hNs (by omega) hvN).trans hN
    have d2 := cell_of_row w1 _ 0 _ _ (0, 0) hN1
    have f2 := frozen_of_row w1 _ 0 _ _ hN1
    have HF := Lib.hid (show KeepsFrom W0.heap.size W (w1.setCell ⟨w.heap.size + 1 + 1, 0, none⟩ (.int .i64 (addS l[x.val] r.2 r.1).2)) from (hs1.keepsFrom HBL.out _).trans ((KeepsOthers.setCell _ _ _).from _))
    have HT := Lib.hid (show Two (w.heap.size + 1 + 1 + 1) pq W (w1.setCell ⟨w.heap.size + 1 + 1, 0, none⟩ (.int .i64 (addS l[x.val] r.2 r.1).2)) from ⟨(Below.heap_setCell w1 _ _ _ (by show w.heap.size + 1 + 1 + 1 ≠ w.heap.size + 1 + 1; omega)).trans (hs1.block _ (by omega) (by omega) hvB), (Below.heap_setCell w1 _ _ _ (by show pq ≠ w.heap.size + 1 + 1; omega)).trans (hs1.block _ (by omega) (by omega) hvq)⟩)
    have HI := Lib.hid (show TurnI B g (w.heap.size + 1 + 1) W0 v (turnF l b S (pre ++ [x])) (w1.setCell ⟨w.heap.size + 1 + 1, 0, none⟩ (.int .i64 (addS l[x.val] r.2 r.1).2)) by
      rw [HST.out]
      refine ⟨v1, hb1.setFar _ (by omega) (hs1.other hNs hvN), (HM.out.step hs1).set _, ?_⟩
      have := heap_setCell_same w1 (w.heap.size + 1 + 1) 0 _ _ (.int .i64 (addS l[x.val] r.2 r.1).2) hN1
      simpa using this)
    clear hb1 hs1 hN1 HST C1 HBL HM
    gi_wp2_with fail
    exact ⟨HF.out, HT.out, HI.out⟩
  case done =>
    rintro D ys W hD rfl ⟨v', hbld, hmid, hN⟩ hK
    have c2 := cell_of_row W _ 0 _ _ (0, 0) hN
    gi_wp2
    refine ⟨by simp, .inl ⟨_, _, rfl, run_takeDeferred hK, ?_⟩⟩
    have hk : W.grownBy (W.putObj D (.deferred none)) (some D) := grownBy_putObj' W D _
    have hkr : ∀ r, some D = some r → ∃ o : Obj, W.heap[r]? = some o ∧ o.isCells = false := fun r e => by cases e; exact ⟨_, hK, rfl⟩
    exact ⟨_, results_tmp rfl _ _ _, rfl, v', hbld.turn hk hkr, (hmid.turn hk (fun r e => by cases e; exact hD)).bstep k0 (by omega)⟩
  case stop =>
    rintro D c pre W _ _ h _
    exact h.elim
end Go.Proofs.YtikaamonmaohjaaGreatDoor
namespace Go.Proofs.YtikaamonmaohjaaGreatDoor
open Go.RowKit
set_option maxHeartbeats 1000000

section
variable {P : Program} {ops : Array Oper} {Q : Exit → Act → World → Prop} {md : Region.Mode} {S : World → Prop} {l n : Nat}
theorem wpOpIn_of {i : Nat} {a : Act} {w : World} {K K' : Act → World → Prop} (hK : ∀ a w, K a w → K' a w) (hQ : ¬ LetsOut Q) (hd : ∀ o ∈ ops.toList, (∀ c, o.op ≠ .defer c)) (h : wpOp P ops Q i K a w) : wpOpIn (Fence.wide.inRound l) n P ops Q i K' a w := by
  unfold wpOp at h
  unfold wpOpIn
  split
  · rename_i ho
    simp only [ho] at h
    exact hK _ _ h
  · rename_i o ho
    simp only [ho] at h
    have hab : ∀ f, o.about P w a.eval = some f → (Fence.wide.inRound l).fn f := fun f _ => trivial
    split
    · rename_i hw
      simp only [hw, if_true] at h
      rcases h with h | ⟨-, h⟩
      · refine ⟨hab, ?_⟩
        rw [Fence.inRound_round, Oper.semAt_some l _ _ (hd o (List.mem_of_getElem? (l := ops.toList) (i := i) (by rw [Array.getElem?_toList]; exact ho)))]
        unfold Oper.wp at h
        generalize (execOp a.eval o).run P w = r at *
        cases r with
        | ok x w' =>
          cases x <;> simp only [Oper.upon, Oper.uponIn] at h ⊢ <;>
            first
              | exact hK _ _ h
              | exact ⟨fun e => (by cases e), CallsIn.inRound l (callsIn_wide.2 (Calls.mono h (fun e w'' he => by cases e <;> first | exact hK _ _ he | exact he)))⟩
              | exact ⟨fun e => (by cases e), fun c cs _ => (h c cs).elim fun v h => h.elim fun w' h => ⟨v, w', hK _ _ h.1, stepsIn_wide.2 h.2⟩⟩
        | halt x w' => cases x <;> simp only [Oper.upon, Oper.uponIn] at h ⊢ <;> exact h
      · exact absurd h hQ
    · rename_i hw
      simp only [hw] at h
      exact ⟨hab, hK _ _ h⟩
theorem wpAnyIn_of_held (hQ : ¬ LetsOut Q) (hd : ∀ o ∈ ops.toList, (∀ c, o.op ≠ .defer c)) : ∀ (fuel : Nat) (listed : Array Bool) (a : Act) (w : World), wpAnyH P md ops Q S fuel listed a w → wpAnyIn (Fence.wide.inRound l) n P md ops Q fuel listed a w
  | 0, _, _, _, h => h
  | fuel + 1, _, _, _, h => ⟨h.1, fun i hi => wpOpIn_of (fun a' w' h' => wpAnyIn_of_held hQ hd fuel _ a' w' h'.2) hQ hd (h.2 i hi)⟩
/-- the held walk of a region serves in a round, too -/
theorem region_in_round {id : Nat} {a : Act} {w : World} (hm : P.follows .mixedOrders = true) (hQ : ¬ LetsOut Q) (hd : ∀ o ∈ ops.toList, (∀ c, o.op ≠ .defer c))
    (h : wpAnyH P .any ops Q S ops.size (Array.replicate ops.size false) a w.drew) : (Code.region id ops true).wpIn (Fence.wide.inRound l) n P Q a w :=
  wpIn_region_any hm (wpAnyIn_of_held hQ hd _ _ _ _ h)
end
end Go.Proofs.YtikaamonmaohjaaGreatDoor
namespace Go.Proofs.YtikaamonmaohjaaGreatDoor
open Go.RowKit
set_option maxRecDepth 100000
set_option maxHeartbeats 4000000
attribute [local go_sem] Oper.semAt_some

def eitF (l : List Nd) (b : Nat) (r : List St × Nat) (pre : List (Fin l.length)) : List St × Nat := pre.foldl (fun s i => forkOn (addS l[i.val] b s.1) s.2) r
theorem eitF_snoc (l : List Nd) (b : Nat) (r : List St × Nat) (pre : List (Fin l.length)) (x : Fin l.length) : eitF l b r (pre ++ [x]) = forkOn (addS l[x.val] b (eitF l b r pre).1) (eitF l b r pre).2 := by
  unfold eitF
  rw [List.foldl_append]
  rfl
theorem eitF_all (l : List Nd) (n : Nd) (b : Nat) (S : List St) : eitF l b (addS n b S) (revs l.length) = addAlt (l ++ [n]) b S := by
  rw [addAlt_foldr]
  exact revs_fold l (fun s m => forkOn (addS m b s.1) s.2) (addS n b S)
theorem eitF_len (l : List Nd) (hw : WfL l) (b : Nat) (r : List St × Nat) : ∀ pre, (eitF l b r pre).1.length ≤ r.1.length + pre.length * (wts l + 1) := by
  intro pre
  have key : ∀ (q : List (Fin l.length)), (eitF l b r q.reverse).1.length ≤ r.1.length + q.length * (wts l + 1) := fun q => by
    induction q with
    | nil => simp [eitF]
    | cons x q ih =>
      rw [List.reverse_cons, eitF_snoc]
      have h1 := (addS_len l[x.val] b (eitF l b r q.reverse).1).2 (hw.mem _ (List.getElem_mem _))
      have h2 := wts_mem (List.getElem_mem x.isLt : l[x.val] ∈ l)
      unfold forkOn
      rw [List.length_cons, Nat.succ_mul]
      simp
      omega
  have := key pre.reverse
  simpa using this
theorem wts_app (l : List Nd) (n : Nd) : wts (l ++ [n]) = wts l + wt n := by
  induction l with
  | nil => simp [wts]
  | cons m r ih => rw [List.cons_append]; unfold wts; rw [ih]; omega
theorem bdm_app (l : List Nd) (n : Nd) : bdm l ≤ bdm (l ++ [n]) ∧ bd n ≤ bdm (l ++ [n]) := by
  induction l with
  | nil => simp [bdm]
  | cons m r ih => rw [List.cons_append]; unfold bdm; omega
theorem WfL.app {l : List Nd} {n : Nd} (h : WfL (l ++ [n])) : WfL l ∧ Wf n := by
  refine ⟨?_, h.mem n (by simp)⟩
  induction l with
  | nil => unfold WfL; trivial
  | cons m r ih =>
    rw [List.cons_append] at h
    unfold WfL at h ⊢
    exact ⟨h.1, ih h.2⟩
def Eit8 (W : World) (N pb o g b : Nat) (x : Fin 6 → Value) : Prop := W.cell? ⟨N, 0, none⟩ = some (.pointer (some ⟨g, 0, none⟩)) ∧ W.cell? ⟨N + 1, 0, none⟩ = some (.int .i64 b) ∧ W.cell? ⟨pb, o, none⟩ = some (x 0) ∧ W.cell? ⟨pb, o + 1, none⟩ = some (x 1) ∧ W.cell? ⟨pb, o + 2, none⟩ = some (x 2) ∧ W.cell? ⟨pb, o + 3, none⟩ = some (x 3) ∧ W.cell? ⟨pb, o + 4, none⟩ = some (x 4) ∧ W.cell? ⟨pb, o + 5, none⟩ = some (x 5)
theorem Eit8.same {W W' : World} {N pb o g b : Nat} {x : Fin 6 → Value} (h : Eit8 W N pb o g b x) (k0 : W'.heap[N]? = W.heap[N]?) (k1 : W'.heap[N + 1]? = W.heap[N + 1]?) (k2 : W'.heap[pb]? = W.heap[pb]?) : Eit8 W' N pb o g b x := by
  have key : ∀ c : Nat, W'.heap[c]? = W.heap[c]? → ∀ (i : Nat) (v : Value), W.cell? ⟨c, i, none⟩ = some v → W'.cell? ⟨c, i, none⟩ = some v := fun c e i v hv => (World.cell?_of_block (a := ⟨c, i, none⟩) e).trans hv
  obtain ⟨h0, h1, h2, h3, h4, h5, h6, h7⟩ := h
  exact ⟨key _ k0 _ _ h0, key _ k1 _ _ h1, key _ k2 _ _ h2, key _ k2 _ _ h3, key _ k2 _ _ h4, key _ k2 _ _ h5, key _ k2 _ _ h6, key _ k2 _ _ h7⟩
theorem Eit8.lt {W : World} {N pb o g b : Nat} {x : Fin 6 → Value} (h : Eit8 W N pb o g b x) : N < W.heap.size ∧ N + 1 < W.heap.size ∧ pb < W.heap.size :=
  ⟨World.block_lt_of_cell? W _ h.1, World.block_lt_of_cell? W _ h.2.1, World.block_lt_of_cell? W _ h.2.2.1⟩
theorem Eit8.gr {W W' : World} {N pb o g b : Nat} {x : Fin 6 → Value} (h : Eit8 W N pb o g b x) (k : Gr W W') : Eit8 W' N pb o g b x :=
  h.same (k.b.block _ h.lt.1) (k.b.block _ h.lt.2.1) (k.b.block _ h.lt.2.2)
theorem Eit8.step {W W' : World} {N pb o g b : Nat} {x : Fin 6 → Value} {v v' : Value} (h : Eit8 W N pb o g b x) (k : BStep g W v W' v') (h0 : N ≠ g ∧ v.ownBlock ≠ some N) (h1 : N + 1 ≠ g ∧ v.ownBlock ≠ some (N + 1)) (h2 : pb ≠ g ∧ v.ownBlock ≠ some pb) : Eit8 W' N pb o g b x :=
  h.same (k.block _ h.lt.1 h0.1 h0.2) (k.block _ h.lt.2.1 h1.1 h1.2) (k.block _ h.lt.2.2 h2.1 h2.2)
theorem Eit8.set {W : World} {N pb o g b : Nat} {x : Fin 6 → Value} (h : Eit8 W N pb o g b x) {M : Nat} (u : Value) (h0 : N ≠ M) (h1 : N + 1 ≠ M) (h2 : pb ≠ M) : Eit8 (W.setCell ⟨M, 0, none⟩ u) N pb o g b x :=
  h.same (Below.heap_setCell W _ _ _ h0) (Below.heap_setCell W _ _ _ h1) (Below.heap_setCell W _ _ _ h2)
theorem room_alt {l : List Nd} {n : Nd} {S p : Nat} (h : S + (((l ++ [n]).length + 1) * (wts (l ++ [n]) + 1) + 1 + bdm (l ++ [n])) ≤ 1000000000000) (hp : p < l.length) : S + wt n + p * (wts l + 1) + bdm l ≤ 1000000000000 := by
  have h1 := bdm_app l n
  rw [wts_app] at h
  have : p * (wts l + 1) + (wts l + wt n + 1) ≤ ((l ++ [n]).length + 1) * (wts l + wt n + 1) := by
    have h2 : p * (wts l + 1) ≤ p * (wts l + wt n + 1) := Nat.mul_le_mul (Nat.le_refl _) (by omega)
    have h3 : (p + 1) * (wts l + wt n + 1) ≤ ((l ++ [n]).length + 1) * (wts l + wt n + 1) := Nat.mul_le_mul (by simp; omega) (Nat.le_refl _)
    rw [Nat.succ_mul] at h3
    omega
  omega
/-- behind the last part: the builder, the frame's three variables -/
structure EitSt (B g b : Nat) (w : World) (v : Value) (S0 : List St) (f0 N : Nat) (W : World) (v1 : Value) : Prop where
  bld : Bld B g W S0 v1
  step : BStep g w v W v1
  c0 : W.cell? ⟨w.heap.size, 0, none⟩ = some (.pointer (some ⟨g, 0, none⟩))
  c1 : W.cell? ⟨w.heap.size + 1, 0, none⟩ = some (.int .i64 b)
  c2 : W.heap[N]? = some (.cells #[.int .i64 f0] 3 (0, 0))
  lo : w.heap.size + 2 ≤ N
  own : ∀ k, (k = w.heap.size ∨ k = w.heap.size + 1 ∨ k = N) → v1.ownBlock ≠ some k
theorem BStep.setFar {g : Nat} {w W : World} {v v' : Value} (h : BStep g w v W v') {N o : Nat} (hN : w.heap.size ≤ N) (u : Value) : BStep g w v (W.setCell ⟨N, o, none⟩ u) v' :=
  ⟨h.os, h.tape, h.output, by simpa [World.setCell] using h.size, fun c hc hg hv => (Below.heap_setCell W _ _ c (by show c ≠ N; omega)).trans (h.block c hc hg hv), h.own⟩
theorem eitSt_late {B g b pb o f0 : Nat} {w w1 : World} {v v1 : Value} {S0 : List St} {x : Fin 6 → Value} (h : Bld B g w1 S0 v1) (k : BStep g w v w1 v1) (e : Eit8 w1 w.heap.size pb o g b x) (hz : w.heap.size + 2 ≤ w1.heap.size) (h0 : v1.ownBlock ≠ some w.heap.size) (h1 : v1.ownBlock ≠ some (w.heap.size + 1)) :
    EitSt B g b w v S0 f0 w1.heap.size (w1.alloc (.cells #[.int .i64 f0] 3)) v1 :=
  have g1 : Gr w1 (w1.alloc (.cells #[.int .i64 f0] 3)) := (Gr.refl w1).alloc _ _
  ⟨h.gr g1, k.gr g1, (e.gr g1).1, (e.gr g1).2.1, heap_alloc_new w1 _, hz, fun c hc e => by
    rcases hc with rfl | rfl | rfl
    · exact h0 e
    · exact h1 e
    · have := h.r.lt _ e; omega⟩
theorem eitSt_early {B g b pb o f0 N : Nat} {w w1 : World} {v v1 : Value} {S0 : List St} {x : Fin 6 → Value} (h : Bld B g w1 S0 v1) (k : BStep g w v w1 v1) (e : Eit8 w1 w.heap.size pb o g b x) (hz : w.heap.size + 2 ≤ N) (hg : g < w.heap.size) (hp : pb < w.heap.size) (h0 : v1.ownBlock ≠ some w.heap.size) (h1 : v1.ownBlock ≠ some (w.heap.size + 1)) (h2 : v1.ownBlock ≠ some N) (u : Value) (hN : w1.heap[N]? = some (.cells #[u] 3 (0, 0))) :
    EitSt B g b w v S0 f0 N (w1.setCell ⟨N, 0, none⟩ (.int .i64 f0)) v1 :=
  have e2 := e.set (M := N) (.int .i64 f0) (by omega) (by omega) (by omega)
  ⟨h.setFar _ (by omega) h2, k.setFar (by omega) _, e2.1, e2.2.1, by have := heap_setCell_same w1 N 0 _ _ (.int .i64 f0) hN; simpa using this, hz, fun c hc e => by
    rcases hc with rfl | rfl | rfl
    · exact h0 e
    · exact h1 e
    · exact h2 e⟩
theorem BStep.mid {g N : Nat} {w W W' : World} {v v1 v' : Value} (h : BStep g w v W v1) (k : BMid g N W v1 W' v') (hN : w.heap.size ≤ N) : BStep g w v W' v' :=
  ⟨k.os.trans h.os, k.tape.trans h.tape, k.output.trans h.output, Nat.le_trans h.size k.size, fun c hc hg hv => (k.block c (Nat.lt_of_lt_of_le hc h.size) hg (by omega) (h.other hc hv)).trans (h.block c hc hg hv), by
    rcases k.own with e | ⟨j, e, hj⟩
    · rw [e]; exact h.own
    · exact .inr ⟨j, e, Nat.le_trans h.size hj⟩⟩
theorem RowSt.typeOf {W : World} {B : Nat} {v : Value} {l : List St} (h : RowSt W B v l) {k : Nat} (e : v.ownBlock = some k) : ∃ cur, W.heap[k]? = some (.cells cur 165 (0, 0)) := by
  obtain ⟨vs, h1, h2, h3⟩ := h
  rcases h2.2 with ⟨rfl, -⟩ | ⟨g, cap, cur, rfl, e2, e3, -⟩
  · cases e
  · have : g = k := by simpa [Value.ownBlock] using e
    subst this
    exact ⟨_, e3⟩
theorem wt_bd (n : Nd) : wt n ≤ bd n := by
  cases n with
  | one p => unfold wt bd; omega
  | op k l =>
    unfold wt bd
    have : l.length * 1 + (wts l + 1) ≤ (l.length + 1) * (wts l + 1) := by
      rw [Nat.succ_mul]
      have : l.length * 1 ≤ l.length * (wts l + 1) := Nat.mul_le_mul (Nat.le_refl _) (by omega)
      omega
    split
    · omega
    split <;> omega
end Go.Proofs.YtikaamonmaohjaaGreatDoor
