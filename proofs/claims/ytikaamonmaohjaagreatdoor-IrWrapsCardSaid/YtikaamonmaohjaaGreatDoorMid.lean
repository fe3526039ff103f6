/- Between two rounds of a range over a pattern's parts. -/
import Derived.Test.YtikaamonmaohjaaGreatDoorSetP
import Derived.Deep.RegionHeld3
import Derived.Deep.RegionLaw
import Derived.RangeFuncNested
import Derived.RangeFuncBound
import Derived.RangeFuncCalls
import Derived.RangeFuncLeaves
import Derived.Shelf.Abstract
import Derived.Shelf.RegionOpen
import Derived.OwnWalkIn
import Derived.TacticsInMore
import Derived.LoopNIn
import Derived.LoopIn
namespace Go.Proofs.YtikaamonmaohjaaGreatDoor
open Go.RowKit
set_option maxRecDepth 100000
set_option maxHeartbeats 1000000

/-- a pattern: one byte of a set; or parts, by kind: 1 in turn, 2 either, 3 any number, 4 one or more, 5 one or none -/
inductive Nd where
  | one (p : Nat → Bool)
  | op (k : Nat) (l : List Nd)
def kindV (k : Nat) (A : Option Addr) (n c : Nat) : Value := .agg #[.int .i64 k, .int .u64 0, .int .u64 0, .int .u64 0, .int .u64 0, .slice A n c]
def sixAt (W : World) (b i : Nat) (v : Fin 6 → Value) : Prop := ∀ j : Fin 6, W.cell? ⟨b, i * 6 + j.val, none⟩ = some (v j)
def aggOf (v : Fin 6 → Value) : Value := .agg #[v 0, v 1, v 2, v 3, v 4, v 5]
mutual
/-- a value that reads as a pattern; the rows of its parts lie in blocks that X allows -/
def NodeV (W : World) (X : Nat → Prop) : Nd → Value → Prop
  | .one p, v => LeafV v p
  | .op k l, v => ∃ A c, v = kindV k A l.length c ∧ l.length ≤ c ∧ c ≤ maxLen ∧ (0 < l.length → ∃ b, A = some ⟨b, 0, none⟩ ∧ X b ∧ NodesFrom W X b l 0)
def NodesFrom (W : World) (X : Nat → Prop) (b : Nat) : List Nd → Nat → Prop
  | [], _ => True
  | n :: r, i => (∃ v, sixAt W b i v ∧ NodeV W X n (aggOf v)) ∧ NodesFrom W X b r (i + 1)
end
/-- the allowed blocks are as they were -/
def SameOn (W W' : World) (X : Nat → Prop) : Prop := ∀ b, X b → b < W.heap.size → W'.heap[b]? = W.heap[b]?
theorem sixAt.same {W W' : World} {X : Nat → Prop} {b i : Nat} {v : Fin 6 → Value} (h : sixAt W b i v) (g : SameOn W W' X) (hX : X b) : sixAt W' b i v := fun j =>
  (World.cell?_of_block (a := ⟨b, _, none⟩) (g b hX (World.block_lt_of_cell? W _ (h j)))).trans (h j)
mutual
theorem NodeV.same {W W' : World} {X : Nat → Prop} (g : SameOn W W' X) : ∀ (n : Nd) (v : Value), NodeV W X n v → NodeV W' X n v
  | .one p, v, h => by unfold NodeV at h ⊢; exact h
  | .op k l, v, h => by
    unfold NodeV at h ⊢
    obtain ⟨A, c, e, h1, h2, h3⟩ := h
    exact ⟨A, c, e, h1, h2, fun h0 => by
      obtain ⟨b, eb, hX, hn⟩ := h3 h0
      exact ⟨b, eb, hX, NodesFrom.same g b hX l 0 hn⟩⟩
theorem NodesFrom.same {W W' : World} {X : Nat → Prop} (g : SameOn W W' X) (b : Nat) (hX : X b) : ∀ (l : List Nd) (i : Nat), NodesFrom W X b l i → NodesFrom W' X b l i
  | [], i, h => by unfold NodesFrom; trivial
  | n :: r, i, h => by
    unfold NodesFrom at h ⊢
    obtain ⟨⟨v, h1, h2⟩, h3⟩ := h
    exact ⟨⟨v, h1.same g hX, NodeV.same g n _ h2⟩, NodesFrom.same g b hX r (i + 1) h3⟩
end
mutual
theorem NodeV.mono {W : World} {X Y : Nat → Prop} (g : ∀ b, X b → Y b) : ∀ (n : Nd) (v : Value), NodeV W X n v → NodeV W Y n v
  | .one p, v, h => by unfold NodeV at h ⊢; exact h
  | .op k l, v, h => by
    unfold NodeV at h ⊢
    obtain ⟨A, c, e, h1, h2, h3⟩ := h
    exact ⟨A, c, e, h1, h2, fun h0 => by
      obtain ⟨b, eb, hX, hn⟩ := h3 h0
      exact ⟨b, eb, g b hX, NodesFrom.mono g b l 0 hn⟩⟩
theorem NodesFrom.mono {W : World} {X Y : Nat → Prop} (g : ∀ b, X b → Y b) (b : Nat) : ∀ (l : List Nd) (i : Nat), NodesFrom W X b l i → NodesFrom W Y b l i
  | [], i, h => by unfold NodesFrom; trivial
  | n :: r, i, h => by
    unfold NodesFrom at h ⊢
    obtain ⟨⟨v, h1, h2⟩, h3⟩ := h
    exact ⟨⟨v, h1, NodeV.mono g n _ h2⟩, NodesFrom.mono g b r (i + 1) h3⟩
end
theorem NodesFrom.get {W : World} {X : Nat → Prop} {b : Nat} : ∀ (l : List Nd) (i j : Nat) (n : Nd), NodesFrom W X b l i → l[j]? = some n → ∃ v, sixAt W b (i + j) v ∧ NodeV W X n (aggOf v)
  | [], i, j, n, h, e => by simp at e
  | m :: r, i, 0, n, h, e => by
    unfold NodesFrom at h
    obtain rfl : m = n := by simpa using e
    exact h.1
  | m :: r, i, j + 1, n, h, e => by
    unfold NodesFrom at h
    have := NodesFrom.get r (i + 1) j n h.2 (by simpa using e)
    rwa [show i + 1 + j = i + (j + 1) by omega] at this
theorem NodesFrom.of {W : World} {X : Nat → Prop} {b : Nat} : ∀ (l : List Nd) (i : Nat), (∀ j n, l[j]? = some n → ∃ v, sixAt W b (i + j) v ∧ NodeV W X n (aggOf v)) → NodesFrom W X b l i
  | [], i, h => by unfold NodesFrom; trivial
  | m :: r, i, h => by
    unfold NodesFrom
    refine ⟨h 0 m rfl, NodesFrom.of r (i + 1) fun j n e => ?_⟩
    have := h (j + 1) n (by simpa using e)
    rwa [show i + (j + 1) = i + 1 + j by omega] at this
end Go.Proofs.YtikaamonmaohjaaGreatDoor
namespace Go.Proofs.YtikaamonmaohjaaGreatDoor
open Go.RowKit
set_option maxRecDepth 100000
set_option maxHeartbeats 2000000

/-- a state: which bytes it goes on by; does it fork; where to -/
structure St where
  p : Nat → Bool
  fork : Bool
  nx : Nat
  ot : Nat
def agg7 (x : Fin 7 → Value) : Value := .agg #[x 0, x 1, x 2, x 3, x 4, x 5, x 6]
def cells7 (x : Fin 7 → Value) : List Value := [x 0, x 1, x 2, x 3, x 4, x 5, x 6]
def stF (u0 u1 u2 u3 : Nat) (f : Bool) (n o : Nat) : Fin 7 → Value := fun j => match j with | 0 => .int .u64 u0 | 1 => .int .u64 u1 | 2 => .int .u64 u2 | 3 => .int .u64 u3 | 4 => .bool f | 5 => .int .i64 n | 6 => .int .i64 o
/-- seven cells that read as a state -/
def StV (x : Fin 7 → Value) (s : St) : Prop := ∃ u0 u1 u2 u3 : Nat, x = stF u0 u1 u2 u3 s.fork s.nx s.ot ∧ Wd64 u0 s.p 0 ∧ Wd64 u1 s.p 1 ∧ Wd64 u2 s.p 2 ∧ Wd64 u3 s.p 3
theorem StV.one {x : Fin 7 → Value} {s : St} (h : StV x s) : ∀ u ∈ cells7 x, u.oneCell' = true := by
  obtain ⟨u0, u1, u2, u3, rfl, -⟩ := h
  intro u hu
  simp only [cells7, stF, List.mem_cons, List.not_mem_nil, or_false] at hu
  rcases hu with rfl | rfl | rfl | rfl | rfl | rfl | rfl <;> rfl
theorem cells7_get : ∀ (vs : List (Fin 7 → Value)) (i : Nat) (x : Fin 7 → Value) (j : Fin 7), vs[i]? = some x → (vs.flatMap cells7)[i * 7 + j.val]? = some (x j)
  | [], i, x, j, h => by simp at h
  | y :: r, 0, x, j, h => by
    obtain rfl : y = x := by simpa using h
    rw [List.flatMap_cons, List.getElem?_append_left (by simp [cells7] <;> omega)]
    match j with
    | 0 => rfl
    | 1 => rfl
    | 2 => rfl
    | 3 => rfl
    | 4 => rfl
    | 5 => rfl
    | 6 => rfl
  | y :: r, i + 1, x, j, h => by
    rw [List.flatMap_cons, List.getElem?_append_right (by simp [cells7]; omega)]
    have := cells7_get r i x j (by simpa using h)
    rwa [show (i + 1) * 7 + j.val - (cells7 y).length = i * 7 + j.val by simp [cells7] <;> omega]
theorem cells7_len (vs : List (Fin 7 → Value)) : (vs.flatMap cells7).length = vs.length * 7 := by
  induction vs with
  | nil => rfl
  | cons x r ih => rw [List.flatMap_cons, List.length_append, ih, List.length_cons]; simp [cells7] <;> omega
def sevenAt (W : World) (b i : Nat) (v : Fin 7 → Value) : Prop := ∀ j : Fin 7, W.cell? ⟨b, i * 7 + j.val, none⟩ = some (v j)
/-- a row of states of the call's own -/
def RowSt (W : World) (B : Nat) (v : Value) (l : List St) : Prop :=
  ∃ vs : List (Fin 7 → Value), vs.length = l.length ∧ W.ownsRow B 165 7 v l.length (vs.flatMap cells7) ∧ ∀ (i : Nat) (s : St) (x : Fin 7 → Value), l[i]? = some s → vs[i]? = some x → StV x s
theorem RowSt.form {W : World} {B : Nat} {v : Value} {l : List St} (h : RowSt W B v l) : ∃ (A : Option Addr) (c : Nat), v = .slice A l.length c := by
  obtain ⟨vs, h1, h2, h3⟩ := h
  rcases h2.2 with ⟨e, e2⟩ | ⟨g, cap, cur, e, -⟩
  · exact ⟨none, 0, by rw [e, e2]⟩
  · exact ⟨_, _, e⟩
theorem RowSt.lt {W : World} {B : Nat} {v : Value} {l : List St} (h : RowSt W B v l) : ∀ k, v.ownBlock = some k → B ≤ k ∧ k < W.heap.size := by
  obtain ⟨vs, h1, h2, h3⟩ := h
  exact h2.lt
theorem RowSt.keep {W W' : World} {B : Nat} {v : Value} {l : List St} (h : RowSt W B v l) (g : ∀ c, v.ownBlock = some c → W'.heap[c]? = W.heap[c]?) : RowSt W' B v l := by
  obtain ⟨vs, h1, h2, h3⟩ := h
  refine ⟨vs, h1, ⟨h2.1, ?_⟩, h3⟩
  rcases h2.2 with e | ⟨gg, cap, cur, e1, e2, e3, e4⟩
  · exact .inl e
  · exact .inr ⟨gg, cap, cur, e1, e2, by rw [g gg (by rw [e1]; rfl)]; exact e3, e4⟩
theorem st_info : (Tryz.prog.info? 165).map (fun i => (i.zero, i.size, i.bytes)) = some (some (.agg #[.int .u64 0, .int .u64 0, .int .u64 0, .int .u64 0, .bool false, .int .i64 0, .int .i64 0]), 7, 56) := by kernel_rfl
theorem run_appSt {W : World} {B : Nat} {v : Value} {l : List St} {g c : Nat} {x : Fin 7 → Value} {s : St} (h : RowSt W B v l) (hx : sevenAt W g 0 x) (hs : StV x s) (hl : l.length ≤ 1000000000000) (hB : B ≤ W.heap.size) :
    ∃ v' W', (Builtin.append_ #[166, 166] 166 #[v, .slice (some ⟨g, 0, none⟩) 1 c]).run Tryz.prog W = .ok v' W' ∧ RowSt W' B v' (l ++ [s]) ∧ W.grownBy W' v.ownBlock ∧ (v'.ownBlock = v.ownBlock ∨ v'.ownBlock = some W.heap.size) := by
  obtain ⟨i0, hi, hz0, hz1, hz2⟩ := info_parts st_info
  obtain ⟨vs, hvl, hown, hel⟩ := h
  have hadd : ∀ j, (⟨g, 0, none⟩ : Addr).add j = ⟨g, j, none⟩ := fun j => by unfold Addr.add; split <;> simp_all
  obtain ⟨v', w', hr, h2, h3, _, h5⟩ := run_append_own_at (P := Tryz.prog) W B 166 166 165 i0 (.agg #[.int .u64 0, .int .u64 0, .int .u64 0, .int .u64 0, .bool false, .int .i64 0, .int .i64 0]) 7 56 Tryz.underlying166 hi hz0 hz1 hz2 rfl (by omega) v l.length _ hown ⟨g, 0, none⟩ 1 c (cells7 x) (by simp [cells7]) (fun j u hu => by
    rw [hadd]
    have hj : j < 7 := by have := (List.getElem?_eq_some_iff.1 hu).1; simpa [cells7] using this
    have := hx ⟨j, hj⟩
    simp only [Nat.zero_mul, Nat.zero_add] at this
    rw [this, ← hu]
    have := cells7_get [x] 0 x ⟨j, hj⟩ rfl
    simpa using this.symm) hs.one (by unfold maxLen; omega) (by omega) hB
  refine ⟨v', w', hr, ⟨vs ++ [x], by simp [hvl], ?_, fun i m y hm hy => ?_⟩, h3, h5⟩
  · rw [List.flatMap_append, List.length_append]
    simpa using h2
  · by_cases hi : i < l.length
    · rw [List.getElem?_append_left hi] at hm
      rw [List.getElem?_append_left (by omega)] at hy
      exact hel i m y hm hy
    · rw [List.getElem?_append_right (by omega)] at hm
      rw [List.getElem?_append_right (by omega)] at hy
      have e0 : i - l.length = 0 := by
        have := (List.getElem?_eq_some_iff.1 hm).1
        simpa using this
      rw [e0] at hm
      rw [hvl, e0] at hy
      obtain rfl : s = m := by simpa using hm
      obtain rfl : x = y := by simpa using hy
      exact hs
theorem step_appSt {P : Program} (hP : P = Tryz.prog) {ops : Array Oper} {o : Oper} {a : Act} {W : World} {K : Act → World → Prop} {Q : Exit → Act → World → Prop} {E : Prop} (hgd : o.guard = none) (s x : Operand)
    (ho : o.op = .call { callee := .builtin .append, args := #[s, x], argTypes := #[166, 166] }) (hty : o.type = 166)
    {B : Nat} {l : List St} {g c : Nat} {y : Fin 7 → Value} {st : St} (hs : RowSt W B (a.eval s) l) (ex : a.eval x = .slice (some ⟨g, 0, none⟩) 1 c) (hx : sevenAt W g 0 y) (hst : StV y st) (hn : l.length ≤ 1000000000000) (hB : B ≤ W.heap.size)
    (h : ∀ v' W', RowSt W' B v' (l ++ [st]) → W.grownBy W' (a.eval s).ownBlock → (v'.ownBlock = (a.eval s).ownBlock ∨ v'.ownBlock = some W.heap.size) → K (a.put o.dst v') W') :
    if Region.wanted o (yielded ops a.tmps) = true then Oper.wp P o a W K Q else E := by
  have hw : Region.wanted o (yielded ops a.tmps) = true := by simp [Region.wanted, hgd]
  rw [if_pos hw]
  subst hP
  obtain ⟨v', W', hr, h1, h2, h3⟩ := run_appSt (c := c) hs hx hst hn hB
  unfold Oper.wp execOp
  simp only [ho, hty, resolve, invoke, builtin, Sem.run_bind, Sem.run_pure, Result.andThen_ok, List.map_toArray, List.map_cons, List.map_nil, ex, hr]
  exact h v' W' h1 h2 h3
/-- the builder's block g, its row v of states -/
structure Bld (B g : Nat) (W : World) (S : List St) (v : Value) : Prop where
  c : W.heap[g]? = some (.cells #[v] 168 (0, 0))
  r : RowSt W B v S
  n : v.ownBlock ≠ some g
  b : B ≤ g
/-- the builder's block and its row alone have turned -/
structure BStep (g : Nat) (W : World) (v : Value) (W' : World) (v' : Value) : Prop where
  os : W'.os = W.os
  tape : W'.tape = W.tape
  output : W'.output = W.output
  size : W.heap.size ≤ W'.heap.size
  block : ∀ c, c < W.heap.size → c ≠ g → v.ownBlock ≠ some c → W'.heap[c]? = W.heap[c]?
  own : v'.ownBlock = v.ownBlock ∨ ∃ k, v'.ownBlock = some k ∧ W.heap.size ≤ k
theorem BStep.refl (g : Nat) (W : World) (v : Value) : BStep g W v W v := ⟨rfl, rfl, rfl, Nat.le_refl _, fun _ _ _ _ => rfl, .inl rfl⟩
theorem BStep.trans {g : Nat} {W W' W'' : World} {v v' v'' : Value} (h : BStep g W v W' v') (k : BStep g W' v' W'' v'') : BStep g W v W'' v'' :=
  ⟨k.os.trans h.os, k.tape.trans h.tape, k.output.trans h.output, Nat.le_trans h.size k.size, fun c hc hg hv => (k.block c (Nat.lt_of_lt_of_le hc h.size) hg (by
      rcases h.own with e | ⟨j, e, hj⟩
      · rw [e]; exact hv
      · rw [e]; intro e2; have := Option.some.inj e2; omega)).trans (h.block c hc hg hv), by
    rcases k.own with e | ⟨j, e, hj⟩
    · rw [e]; exact h.own
    · exact .inr ⟨j, e, Nat.le_trans h.size hj⟩⟩
theorem BStep.gr {g : Nat} {W W' W'' : World} {v v' : Value} (h : BStep g W v W' v') (k : Gr W' W'') : BStep g W v W'' v' :=
  ⟨k.b.os.trans h.os, k.b.tape.trans h.tape, k.b.output.trans h.output, Nat.le_trans h.size k.size, fun c hc hg hv => (k.b.block c (Nat.lt_of_lt_of_le hc h.size)).trans (h.block c hc hg hv), h.own⟩
theorem Gr.bstep {W0 W : World} (h : Gr W0 W) {g : Nat} {W' : World} {v v' : Value} (k : BStep g W v W' v') : BStep g W0 v W' v' :=
  ⟨k.os.trans h.b.os, k.tape.trans h.b.tape, k.output.trans h.b.output, Nat.le_trans h.size k.size, fun c hc hg hv => (k.block c (Nat.lt_of_lt_of_le hc h.size) hg hv).trans (h.b.block c hc), by
    rcases k.own with e | ⟨j, e, hj⟩
    · exact .inl e
    · exact .inr ⟨j, e, Nat.le_trans h.size hj⟩⟩
/-- what lay below B stays, where the builder's block and row lie at or above B -/
theorem BStep.below {B g : Nat} {W W' : World} {S : List St} {v v' : Value} (h : BStep g W v W' v') (hb : Bld B g W S v) (hB : B ≤ W.heap.size) : Below B W W' :=
  ⟨h.os, h.tape, h.output, h.size, fun c hc => h.block c (by omega) (by have := hb.b; omega) (fun e => by have := hb.r.lt c e; omega)⟩
theorem Bld.lt {B g : Nat} {W : World} {S : List St} {v : Value} (h : Bld B g W S v) : g < W.heap.size := by
  rcases Nat.lt_or_ge g W.heap.size with e | e
  · exact e
  · have := h.c; rw [Array.getElem?_eq_none e] at this; cases this
theorem Bld.gr {B g : Nat} {W W' : World} {S : List St} {v : Value} (h : Bld B g W S v) (k : Gr W W') : Bld B g W' S v :=
  ⟨(k.b.block g h.lt).trans h.c, h.r.keep (fun c e => k.b.block c (h.r.lt c e).2), h.n, h.b⟩
theorem Bld.cell {B g : Nat} {W : World} {S : List St} {v : Value} (h : Bld B g W S v) : W.cell? ⟨g, 0, none⟩ = some v ∧ W.frozen? ⟨g, 0, none⟩ = false :=
  ⟨cell_of_row W g 0 _ _ (0, 0) h.c, frozen_of_row W g 0 _ _ h.c⟩
def PutPost (B g : Nat) (S : List St) (s : St) (w : World) (v : Value) (e : Ending) (w' : World) : Prop :=
  e = .returned (.int .i64 S.length) ∧ ∃ v', Bld B g w' (S ++ [s]) v' ∧ BStep g w v w' v'
end Go.Proofs.YtikaamonmaohjaaGreatDoor
namespace Go.Proofs.YtikaamonmaohjaaGreatDoor
open Go.RowKit
set_option maxRecDepth 100000
set_option maxHeartbeats 4000000

theorem seven_new (W : World) (x0 x1 x2 x3 x4 x5 x6 : Value) : sevenAt (W.alloc (.cells #[x0, x1, x2, x3, x4, x5, x6] 165)) W.heap.size 0 (fun j : Fin 7 => match j with | 0 => x0 | 1 => x1 | 2 => x2 | 3 => x3 | 4 => x4 | 5 => x5 | 6 => x6) := by
  intro j
  have h := heap_alloc_new W (.cells #[x0, x1, x2, x3, x4, x5, x6] 165)
  match j with
  | 0 => exact cell_of_row _ W.heap.size 0 _ _ (0, 0) h
  | 1 => exact cell_of_row _ W.heap.size 1 _ _ (0, 0) h
  | 2 => exact cell_of_row _ W.heap.size 2 _ _ (0, 0) h
  | 3 => exact cell_of_row _ W.heap.size 3 _ _ (0, 0) h
  | 4 => exact cell_of_row _ W.heap.size 4 _ _ (0, 0) h
  | 5 => exact cell_of_row _ W.heap.size 5 _ _ (0, 0) h
  | 6 => exact cell_of_row _ W.heap.size 6 _ _ (0, 0) h
def Box7 (W : World) (b : Nat) (u0 u1 u2 u3 : Nat) (f : Bool) (n o : Nat) : Prop := W.cell? ⟨b, 0, none⟩ = some (.int .u64 u0) ∧ W.cell? ⟨b, 1, none⟩ = some (.int .u64 u1) ∧ W.cell? ⟨b, 2, none⟩ = some (.int .u64 u2) ∧ W.cell? ⟨b, 3, none⟩ = some (.int .u64 u3) ∧ W.cell? ⟨b, 4, none⟩ = some (.bool f) ∧ W.cell? ⟨b, 5, none⟩ = some (.int .i64 n) ∧ W.cell? ⟨b, 6, none⟩ = some (.int .i64 o)
theorem Box7.same {W W' : World} {b u0 u1 u2 u3 n o : Nat} {f : Bool} (h : Box7 W b u0 u1 u2 u3 f n o) (g : W'.heap[b]? = W.heap[b]?) : Box7 W' b u0 u1 u2 u3 f n o := by
  have key : ∀ i v, W.cell? ⟨b, i, none⟩ = some v → W'.cell? ⟨b, i, none⟩ = some v := fun i v e => (World.cell?_of_block (a := ⟨b, i, none⟩) g).trans e
  obtain ⟨e0, e1, e2, e3, e4, e5, e6⟩ := h
  exact ⟨key _ _ e0, key _ _ e1, key _ _ e2, key _ _ e3, key _ _ e4, key _ _ e5, key _ _ e6⟩
theorem Box7.grown {W W' : World} {b u0 u1 u2 u3 n o : Nat} {f : Bool} {row : Option Nat} (h : Box7 W b u0 u1 u2 u3 f n o) (g : W.grownBy W' row) (hr : some b ≠ row) : Box7 W' b u0 u1 u2 u3 f n o :=
  h.same (g.block b (World.block_lt_of_cell? W _ h.1) hr)
theorem seven_at (w : World) (o : Obj) (u0 u1 u2 u3 : Nat) (f : Bool) (n t : Nat) : sevenAt ((w.alloc o).alloc (.cells #[.int .u64 u0, .int .u64 u1, .int .u64 u2, .int .u64 u3, .bool f, .int .i64 n, .int .i64 t] 165)).drew (w.heap.size + 1) 0 (stF u0 u1 u2 u3 f n t) := by
  have h := seven_new (w.alloc o) (.int .u64 u0) (.int .u64 u1) (.int .u64 u2) (.int .u64 u3) (.bool f) (.int .i64 n) (.int .i64 t)
  rw [show (w.alloc o).heap.size = w.heap.size + 1 by simp] at h
  intro j
  have := h j
  match j with
  | 0 => exact this
  | 1 => exact this
  | 2 => exact this
  | 3 => exact this
  | 4 => exact this
  | 5 => exact this
  | 6 => exact this
theorem put_done {B g : Nat} {S : List St} {s : St} {w W W' : World} {v v' : Value} (h : Bld B g w S v) (hg : Gr w W) (hgrow : W.grownBy W' v.ownBlock) (hrow : RowSt W' B v' (S ++ [s])) (ho : v'.ownBlock = v.ownBlock ∨ v'.ownBlock = some W.heap.size) :
    PutPost B g S s w v (.returned (.int .i64 S.length)) (W'.setCell ⟨g, 0, none⟩ v') := by
  have hgl := h.lt
  have hsz := hg.size
  have hv : v'.ownBlock ≠ some g := by
    rcases ho with e | e
    · rw [e]; exact h.n
    · rw [e]; intro e2; have := Option.some.inj e2; omega
  have hgc : W'.heap[g]? = some (.cells #[v] 168 (0, 0)) := (hgrow.block g (by omega) (fun e => h.n e.symm)).trans (h.gr hg).c
  refine ⟨rfl, v', ⟨by have := heap_setCell_same W' g 0 _ _ v' hgc; simpa using this, hrow.keep (fun c e => Below.heap_setCell W' _ _ c (by show c ≠ g; rintro rfl; exact hv e)), hv, h.b⟩, ?_⟩
  refine ⟨hgrow.os.trans hg.b.os, hgrow.tape.trans hg.b.tape, hgrow.output.trans hg.b.output, ?_, fun c hc hcg hcv => ?_, ?_⟩
  · have := hgrow.size
    simp [World.setCell]
    omega
  · rw [Below.heap_setCell W' _ _ c (by show c ≠ g; exact hcg), hgrow.block c (by omega) (fun e => hcv e.symm)]
    exact hg.b.block c hc
  · rcases ho with e | e
    · exact .inl e
    · exact .inr ⟨_, e, hsz⟩
theorem put_rx (B g : Nat) (S : List St) (s : St) (v : Value) (u0 u1 u2 u3 : Nat) (w : World) (h : Bld B g w S v) (hB : B ≤ w.heap.size) (hS : S.length ≤ 1000000000000) (h0 : Wd64 u0 s.p 0) (h1 : Wd64 u1 s.p 1) (h2 : Wd64 u2 s.p 2) (h3 : Wd64 u3 s.p 3) :
    Calls Tryz.prog 153 #[.pointer (some ⟨g, 0, none⟩), .agg #[.int .u64 u0, .int .u64 u1, .int .u64 u2, .int .u64 u3, .bool s.fork, .int .i64 s.nx, .int .i64 s.ot]] w (PutPost B g S s w v) := by
  have hst : StV (stF u0 u1 u2 u3 s.fork s.nx s.ot) s := ⟨u0, u1, u2, u3, rfl, h0, h1, h2, h3⟩
  have HST := Lib.hid hst
  have HB := Lib.hid h
  have hgl := h.lt
  obtain ⟨cg, fg⟩ := h.cell
  obtain ⟨A, c, rfl⟩ := h.r.form
  have HN := Lib.hid h.n
  clear hst h0 h1 h2 h3 h
  obtain ⟨p, fk, nx, ot⟩ := s
  simp only at HST ⊢
  go_enter Tryz.func153, Tryz.ntmps153
  go_wp2
  have hne := World.new_ne w ⟨g, 0, none⟩ cg
  have hown : ∀ k, (Value.slice A S.length c).ownBlock = some k → k < w.heap.size := fun k e => (HB.out.r.lt k e).2
  go_region_law
    (first
     | (refine step_appSt rfl (by rfl) (.tmp 9) (.tmp 11) (by rfl) (by rfl) (B := B) (l := S) (g := w.heap.size + 1) (c := 1) (st := ⟨p, fk, nx, ot⟩) (y := stF u0 u1 u2 u3 fk nx ot) ?_ (by rfl) ?_ HST.out (by omega) ?_ ?_
        · exact (HB.out.gr (((Gr.refl w).alloc _ _).drew.alloc _ _)).r
        · exact seven_at w _ _ _ _ _ _ _ _
        · simp
          omega
        intro v' W' hrow hgrow hown'
        replace hown' : v'.ownBlock = (Value.slice A S.length c).ownBlock ∨ v'.ownBlock = some _ := hown'
        replace hgrow : World.grownBy _ W' (Value.slice A S.length c).ownBlock := hgrow
        have hgc : W'.heap[g]? = some (.cells #[.slice A S.length c] 168 (0, 0)) := (hgrow.block g (by simp; omega) (fun e => HN.out e.symm)).trans (HB.out.gr (((Gr.refl w).alloc _ _).drew.alloc _ _)).c
        have hc1 := cell_of_row W' g 0 _ _ (0, 0) hgc
        have hf1 := frozen_of_row W' g 0 _ _ hgc
        obtain ⟨A', c', rfl⟩ := hrow.form
        simp only [List.length_append, List.length_cons, List.length_nil] at hc1 ⊢))
  all_goals
    go_wp2
    go_ret
    first
    | exact put_done HB.out (((Gr.refl w).alloc _ _).drew.alloc _ _) hgrow (by simpa using hrow) (by simpa using hown')
    | exact put_done HB.out (((Gr.refl w).alloc _ _).alloc _ _).drew hgrow (by simpa using hrow) (by simpa using hown')
end Go.Proofs.YtikaamonmaohjaaGreatDoor
namespace Go.Proofs.YtikaamonmaohjaaGreatDoor
open Go.RowKit
set_option maxRecDepth 100000
set_option maxHeartbeats 4000000
attribute [local go_sem] Oper.semAt_some

/-- the places of m things, the last one first -/
def revs (m : Nat) : List (Fin m) := (List.finRange m).reverse
theorem revs_len (m : Nat) : (revs m).length = m := by simp [revs]
theorem revs_get (m j : Nat) (h : j < m) : (revs m)[j]'(by rw [revs_len]; exact h) = ⟨m - 1 - j, Nat.lt_of_le_of_lt (Nat.sub_le _ _) (Nat.sub_lt (Nat.zero_lt_of_lt h) Nat.zero_lt_one)⟩ := by
  simp only [revs, List.getElem_reverse, List.getElem_finRange, List.length_finRange]
  rfl
theorem revs_step (m j : Nat) (h : j < m) : (revs m).take (j + 1) = (revs m).take j ++ [⟨m - 1 - j, by omega⟩] := by
  rw [List.take_succ_eq_append_getElem (by rw [revs_len]; exact h), revs_get m j h]
theorem revs_all (m : Nat) : (revs m).take m = revs m := by
  rw [List.take_of_length_le (by rw [revs_len]; exact Nat.le_refl _)]
/-- two blocks stay -/
def Two (a b : Nat) (W W' : World) : Prop := W'.heap[a]? = W.heap[a]? ∧ W'.heap[b]? = W.heap[b]?
theorem Two.trans {a b : Nat} {W W' W'' : World} (h : Two a b W W') (k : Two a b W' W'') : Two a b W W'' := ⟨k.1.trans h.1, k.2.trans h.2⟩
/-- a row's parts -/
def PartsAt (W : World) (A : Option Addr) (pb m : Nat) (val : Nat → Fin 6 → Value) : Prop := 0 < m → A = some ⟨pb, 0, none⟩ ∧ ∀ j, j < m → sixAt W pb j (val j)
theorem back1_in (F : Fence) (n : Nat) (hf : F.fn 180) (hro : F.round = none) (hn : 1 ≤ n) (l Bs pb m cap : Nat) (A : Option Addr) (val : Nat → Fin 6 → Value) (hm : m ≤ 1000000000000)
    (J Jx : List (Fin m) → World → Prop)
    (hY : ∀ pre x W, J pre W → pre.length < m → YieldAt F (n - 1) Tryz.prog l #[.int .i64 (x.val : Int), aggOf (val x.val)] W fun e W' =>
      (e = .returned (.bool true) ∧ J (pre ++ [x]) W' ∧ Two Bs pb W W') ∨ (e = .returned (.bool false) ∧ Jx (pre ++ [x]) W'))
    (W : World) (hBs : W.cell? ⟨Bs, 0, none⟩ = some (.slice A m cap)) (hc : PartsAt W A pb m val) (h0 : J [] W) :
    CallsIn F n Tryz.prog 180 #[.func (.yield l) #[] #[], .pointer (some ⟨Bs, 0, none⟩)] W fun e W' => (∃ v, e = .returned v) ∧
      ((∃ ys, ys = revs m ∧ J ys W') ∨ (∃ pre, (∃ k, k ≤ m ∧ pre = (revs m).take k) ∧ Jx pre W')) := by
  refine callsIn_of_wp Tryz.func180 rfl hf ?_ hro
  simp only [Tryz.ntmps180, List.size_toArray, List.length_cons, List.length_nil, Nat.reduceAdd, Nat.reduceSub, Array.replicate_succ, Array.replicate_zero, List.push_toArray, List.append_toArray, List.nil_append, List.cons_append]
  gi_wp2
  gi_loopw [3] (fun i wr => ∃ j : Nat, j ≤ m ∧ i = .int .i64 ((m : Int) - 1 - j) ∧ J ((revs m).take j) wr ∧ Two Bs pb W wr)
    (fun i _ => (intOf i + 1).toNat)
  case atStart => exact ⟨0, Nat.zero_le _, by simp, h0, rfl, rfl⟩
  case round =>
    obtain ⟨j, hj, rfl, hJs, hnx⟩ := hrel
    have hBr : wr.cell? ⟨Bs, 0, none⟩ = some (.slice A m cap) := (World.cell?_of_block (a := ⟨Bs, 0, none⟩) hnx.1).trans hBs
    by_cases hlt : j < m
    · obtain ⟨rfl, hcs⟩ := hc (by omega)
      have hx := hcs (m - 1 - j) (by omega)
      have key : ∀ i : Fin 6, wr.cell? ⟨pb, (m - 1 - j) * 6 + i.val, none⟩ = some (val (m - 1 - j) i) := fun i => (World.cell?_of_block (a := ⟨pb, (m - 1 - j) * 6 + i.val, none⟩) hnx.2).trans (hx i)
      obtain ⟨fn, tmps, assign, body, hy, hR⟩ := hY _ ⟨m - 1 - j, by omega⟩ wr hJs (by rw [List.length_take, revs_len]; omega)
      obtain ⟨q, hq⟩ : ∃ q, m - 1 - j = q := ⟨_, rfl⟩
      have hqi : (m : Int) - 1 - j = (q : Int) := by omega
      have hqm : q < m := by omega
      dsimp only at hy
      rw [hq] at key hy
      unfold aggOf at hy
      have k0 : wr.cell? ⟨pb, q * 6, none⟩ = some (val q 0) := key 0
      have k1 : wr.cell? ⟨pb, q * 6 + 1, none⟩ = some (val q 1) := key 1
      have k2 : wr.cell? ⟨pb, q * 6 + 2, none⟩ = some (val q 2) := key 2
      have k3 : wr.cell? ⟨pb, q * 6 + 3, none⟩ = some (val q 3) := key 3
      have k4 : wr.cell? ⟨pb, q * 6 + 4, none⟩ = some (val q 4) := key 4
      have k5 : wr.cell? ⟨pb, q * 6 + 5, none⟩ = some (val q 5) := key 5
      clear key hx
      rw [hqi]
      gi_wp2
      refine hR.mono ?_
      rintro e W3 (⟨rfl, hJ3, hk3⟩ | ⟨rfl, hJx3⟩)
      · gi_wp2
        go_roundw
        case rel => exact ⟨j + 1, by omega, by first | (congr 1; done) | (congr 1; omega), by rw [revs_step m j hlt]; exact hJ3, hnx.trans hk3⟩
        case measure => simp [intOf] <;> omega
      · gi_wp2
        refine bodyPost_ret (results_none rfl _ _ _) rfl ?_
        exact ⟨⟨_, rfl⟩, .inr ⟨_, ⟨j + 1, by omega, (revs_step m j hlt).symm⟩, hJx3⟩⟩
    · obtain rfl : j = m := by omega
      have hz : (j : Int) - 1 - j = -1 := by omega
      rw [hz]
      gi_wp2
      go_end0
      exact ⟨⟨_, rfl⟩, .inl ⟨_, rfl, by rw [revs_all] at hJs; exact hJs⟩⟩
theorem backward_in (F : Fence) (n : Nat) (hf : F.fn 154) (hro : F.round = none) (A : Option Addr) (len cap : Nat) (w : World) :
    CallsIn F n Tryz.prog 154 #[.slice A len cap] w fun e w' => e = .returned (.func (.func 180) #[] #[.pointer (some ⟨w.heap.size, 0, none⟩)]) ∧ w' = w.alloc (.cells #[.slice A len cap] 148) := by
  refine callsIn_of_wp Tryz.func154 rfl hf ?_ hro
  simp only [Tryz.ntmps154, List.size_toArray, List.length_cons, List.length_nil, Nat.reduceAdd, Nat.reduceSub, Array.replicate_succ, Array.replicate_zero, List.push_toArray, List.append_toArray, List.nil_append, List.cons_append]
  gi_wp2
  go_ret
  exact ⟨rfl, rfl⟩
theorem backward_stops (F : Fence) (n : Nat) (hf : F.fn 180) (hro : F.round = none) (hn : 1 ≤ n) (Bs pb m cap : Nat) (A : Option Addr) (val : Nat → Fin 6 → Value) (hm : m ≤ 1000000000000) (w : World) (hBs : Bs < w.heap.size)
    (hc : w.cell? ⟨Bs, 0, none⟩ = some (.slice A m cap)) (hP : PartsAt w A pb m val) :
    SeqStopsK F n Tryz.prog 180 #[.pointer (some ⟨Bs, 0, none⟩)] (fun x : Fin m => #[.int .i64 (x.val : Int), aggOf (val x.val)]) (Two Bs pb) (fun ys => ys = revs m) (fun pre => ∃ k, k ≤ m ∧ pre = (revs m).take k) m w := fun l J Jx W hW _ _ hY h0 => by
  have hc' := (hW.cell (p := ⟨Bs, 0, none⟩) hBs).trans hc
  have hP' : PartsAt W A pb m val := fun h0 => by
    obtain ⟨e, hs⟩ := hP h0
    exact ⟨e, fun j hj i => (hW.cell (p := ⟨pb, j * 6 + i.val, none⟩) (World.block_lt_of_cell? w _ (hs j hj i))).trans (hs j hj i)⟩
  exact back1_in F n hf hro hn l Bs pb m cap A val hm J Jx hY W hc' hP' h0
end Go.Proofs.YtikaamonmaohjaaGreatDoor
namespace Go.Proofs.YtikaamonmaohjaaGreatDoor
open Go.RowKit
set_option maxRecDepth 100000
set_option maxHeartbeats 1000000

def noB : Nat → Bool := fun _ => false
/-- a loop's fork is laid ahead of what it leads to -/
def loopEnd (k s b : Nat) (r : List St × Nat) : List St × Nat := (r.1.set s ⟨noB, true, r.2, b⟩, if k = 4 then r.2 else s)
def forkOn (r : List St × Nat) (other : Nat) : List St × Nat := (r.1 ++ [⟨noB, true, r.2, other⟩], r.1.length)
mutual
def addS : Nd → Nat → List St → List St × Nat
  | .one p, b, S => (S ++ [⟨p, false, b, 0⟩], S.length)
  | .op k l, b, S => if k = 1 then addTurn l b S else if k = 2 then addAlt l b S else if k = 5 then forkOn (addHead l b S) b else loopEnd k S.length b (addHead l S.length (S ++ [⟨noB, true, 0, b⟩]))
def addTurn : List Nd → Nat → List St → List St × Nat
  | [], b, S => (S, b)
  | n :: r, b, S => addS n (addTurn r b S).2 (addTurn r b S).1
def addAlt : List Nd → Nat → List St → List St × Nat
  | [], b, S => (S, b)
  | n :: r, b, S => if r.isEmpty then addS n b S else forkOn (addS n b (addAlt r b S).1) (addAlt r b S).2
def addHead : List Nd → Nat → List St → List St × Nat
  | [], b, S => (S, b)
  | n :: _, b, S => addS n b S
end
mutual
def Wf : Nd → Prop
  | .one _ => True
  | .op k l => WfL l ∧ (k = 1 ∨ (k = 2 ∧ l ≠ []) ∨ ((k = 3 ∨ k = 4 ∨ k = 5) ∧ l.length = 1))
def WfL : List Nd → Prop
  | [] => True
  | n :: r => Wf n ∧ WfL r
end
mutual
/-- no more states than these -/
def wt : Nd → Nat
  | .one _ => 1
  | .op k l => wts l + (if k = 1 then 0 else if k = 2 then l.length - 1 else 1)
def wts : List Nd → Nat
  | [] => 0
  | n :: r => wt n + wts r
end
mutual
/-- room that the building asks for -/
def bd : Nd → Nat
  | .one _ => 1
  | .op _ l => (l.length + 1) * (wts l + 1) + 1 + bdm l
def bdm : List Nd → Nat
  | [] => 0
  | n :: r => max (bd n) (bdm r)
end
theorem WfL.mem {l : List Nd} (h : WfL l) : ∀ n ∈ l, Wf n := by
  induction l with
  | nil => intro n hn; cases hn
  | cons a r ih =>
    unfold WfL at h
    intro n hn
    rcases List.mem_cons.1 hn with rfl | hn
    · exact h.1
    · exact ih h.2 n hn
theorem wts_mem {l : List Nd} {n : Nd} (h : n ∈ l) : wt n ≤ wts l := by
  induction l with
  | nil => cases h
  | cons a r ih =>
    unfold wts
    rcases List.mem_cons.1 h with rfl | h
    · omega
    · have := ih h; omega
theorem bdm_mem {l : List Nd} {n : Nd} (h : n ∈ l) : bd n ≤ bdm l := by
  induction l with
  | nil => cases h
  | cons a r ih =>
    unfold bdm
    rcases List.mem_cons.1 h with rfl | h
    · omega
    · have := ih h; omega
mutual
theorem Nd.all {C : Nd → Prop} (h1 : ∀ p, C (.one p)) (h2 : ∀ k l, (∀ n ∈ l, C n) → C (.op k l)) : ∀ n, C n
  | .one p => h1 p
  | .op k l => h2 k l (Nd.allL h1 h2 l)
theorem Nd.allL {C : Nd → Prop} (h1 : ∀ p, C (.one p)) (h2 : ∀ k l, (∀ n ∈ l, C n) → C (.op k l)) : ∀ (l : List Nd), ∀ n ∈ l, C n
  | [], n, h => by cases h
  | m :: r, n, h => by
    rcases List.mem_cons.1 h with e | h
    · rw [e]; exact Nd.all h1 h2 m
    · exact Nd.allL h1 h2 r n h
end
theorem addTurn_foldr (l : List Nd) (b : Nat) (S : List St) : addTurn l b S = l.foldr (fun n s => addS n s.2 s.1) (S, b) := by
  induction l with
  | nil => unfold addTurn; rfl
  | cons n r ih => unfold addTurn; rw [ih]; rfl
theorem addAlt_foldr (l : List Nd) (n : Nd) (b : Nat) (S : List St) : addAlt (l ++ [n]) b S = l.foldr (fun m s => forkOn (addS m b s.1) s.2) (addS n b S) := by
  induction l with
  | nil => simp [addAlt]
  | cons m r ih =>
    rw [List.cons_append]
    unfold addAlt
    rw [ih]
    cases r <;> simp
/-- the parts by their places, the last one first -/
theorem revs_fold {β : Type} (l : List Nd) (f : β → Nd → β) (x : β) : (revs l.length).foldl (fun s i => f s l[i.val]) x = l.foldr (fun n s => f s n) x := by
  unfold revs
  rw [List.foldl_reverse]
  have h : (List.finRange l.length).map (fun i => l[i.val]) = l := by
    apply List.ext_getElem
    · simp
    · intro i h1 h2; simp
  have := List.foldr_map (f := fun i : Fin l.length => l[i.val]) (g := fun n s => f s n) (l := List.finRange l.length) (init := x)
  rw [h] at this
  exact this.symm
mutual
theorem addS_len : ∀ (n : Nd) (b : Nat) (S : List St), S.length ≤ (addS n b S).1.length ∧ (Wf n → (addS n b S).1.length ≤ S.length + wt n)
  | .one p, b, S => by unfold addS wt; simp
  | .op k l, b, S => by
    unfold addS wt
    have h1 := addTurn_len l b S
    have h2 := addAlt_len l b S
    have h3 := addHead_len l b S
    have h4 := addHead_len l S.length (S ++ [⟨noB, true, 0, b⟩])
    simp only [List.length_append, List.length_cons, List.length_nil] at h4
    split
    · exact ⟨h1.1, fun hw => by unfold Wf at hw; have := h1.2 hw.1; omega⟩
    split
    · exact ⟨h2.1, fun hw => by unfold Wf at hw; have := h2.2 hw.1; omega⟩
    rename_i e1 e2
    split
    · unfold forkOn
      refine ⟨by simp; omega, fun hw => ?_⟩
      unfold Wf at hw
      have := h3.2 hw.1
      simp
      omega
    · unfold loopEnd
      refine ⟨by simp; omega, fun hw => ?_⟩
      unfold Wf at hw
      have := h4.2 hw.1
      simp
      omega
theorem addTurn_len : ∀ (l : List Nd) (b : Nat) (S : List St), S.length ≤ (addTurn l b S).1.length ∧ (WfL l → (addTurn l b S).1.length ≤ S.length + wts l)
  | [], b, S => by unfold addTurn wts; simp
  | n :: r, b, S => by
    unfold addTurn wts WfL
    have h1 := addTurn_len r b S
    have h2 := addS_len n (addTurn r b S).2 (addTurn r b S).1
    exact ⟨by omega, fun hw => by have := h1.2 hw.2; have := h2.2 hw.1; omega⟩
theorem addAlt_len : ∀ (l : List Nd) (b : Nat) (S : List St), S.length ≤ (addAlt l b S).1.length ∧ (WfL l → (addAlt l b S).1.length ≤ S.length + wts l + (l.length - 1))
  | [], b, S => by unfold addAlt wts; simp
  | n :: r, b, S => by
    unfold addAlt wts WfL
    have h1 := addAlt_len r b S
    have h2 := addS_len n b (addAlt r b S).1
    have h3 := addS_len n b S
    split
    · exact ⟨h3.1, fun hw => by have := h3.2 hw.1; simp; omega⟩
    · rename_i hr
      have h0 : 1 ≤ r.length := by
        cases r with
        | nil => simp at hr
        | cons => simp
      unfold forkOn
      exact ⟨by simp; omega, fun hw => by have := h1.2 hw.2; have := h2.2 hw.1; simp; omega⟩
theorem addHead_len : ∀ (l : List Nd) (b : Nat) (S : List St), S.length ≤ (addHead l b S).1.length ∧ (WfL l → (addHead l b S).1.length ≤ S.length + wts l)
  | [], b, S => by unfold addHead wts; simp
  | n :: r, b, S => by
    unfold addHead wts WfL
    have h2 := addS_len n b S
    exact ⟨h2.1, fun hw => by have := h2.2 hw.1; omega⟩
end
def AddPost (B g : Nat) (r : List St × Nat) (w : World) (v : Value) (e : Ending) (w' : World) : Prop :=
  e = .returned (.int .i64 r.2) ∧ ∃ v', Bld B g w' r.1 v' ∧ BStep g w v w' v'
def AddC (n : Nd) : Prop := ∀ (B g b : Nat) (X : Nat → Prop) (S : List St) (nv v : Value) (w : World), Bld B g w S v → B ≤ w.heap.size → (∀ c, X c → c < B) → NodeV w X n nv → Wf n → S.length + bd n ≤ 1000000000000 →
  Calls Tryz.prog 133 #[.pointer (some ⟨g, 0, none⟩), nv, .int .i64 b] w (AddPost B g (addS n b S) w v)
end Go.Proofs.YtikaamonmaohjaaGreatDoor
namespace Go.Proofs.YtikaamonmaohjaaGreatDoor
open Go.RowKit
set_option maxRecDepth 100000
set_option maxHeartbeats 4000000

theorem Gr3 (w : World) (c1 c2 c3 : Array Value) (t1 t2 t3 : TypeId) : Gr w (((w.alloc (.cells c1 t1)).alloc (.cells c2 t2)).alloc (.cells c3 t3)) := (((Gr.refl w).alloc _ _).alloc _ _).alloc _ _
theorem add_one (p : Nat → Bool) : AddC (.one p) := by
  intro B g b X S nv v w h hB hX hn hw hbd
  unfold NodeV at hn
  obtain ⟨u0, u1, u2, u3, rfl, q0, q1, q2, q3⟩ := hn
  have CP := Lib.hid (fun W (k : Gr w W) => put_rx B g S ⟨p, false, b, 0⟩ v u0 u1 u2 u3 W (h.gr k) (Nat.le_trans hB k.size) (by omega) q0 q1 q2 q3)
  clear q0 q1 q2 q3 hbd hX
  unfold addS
  go_enter Tryz.func133, Tryz.ntmps133
  go_wp2_with (go_at_call 153; refine (CP.out _ (Gr3 w _ _ _ _ _ _)).mono ?_; rintro e w1 ⟨rfl, v', hb', hs'⟩)
  go_ret
  exact ⟨rfl, v', hb', (Gr3 w _ _ _ _ _ _).bstep hs'⟩
end Go.Proofs.YtikaamonmaohjaaGreatDoor
/- add at one or none. -/
namespace Go.Proofs.YtikaamonmaohjaaGreatDoor
open Go.RowKit
set_option maxRecDepth 100000
set_option maxHeartbeats 4000000

theorem BStep.blk {g : Nat} {W W' : World} {v v' : Value} (h : BStep g W v W' v') {c : Nat} (hc : c < W.heap.size) (hg : c ≠ g) (hv : v.ownBlock ≠ some c) {o : Nat} {u : Value} (hu : W.cell? ⟨c, o, none⟩ = some u) : W'.cell? ⟨c, o, none⟩ = some u :=
  (World.cell?_of_block (a := ⟨c, o, none⟩) (h.block c hc hg hv)).trans hu
theorem NodeV.gr {W W' : World} {X : Nat → Prop} {n : Nd} {v : Value} (h : NodeV W X n v) (k : Gr W W') : NodeV W' X n v := NodeV.same (fun c _ hlt => k.b.block c hlt) n v h
theorem wd_none (i : Nat) : Wd64 0 noB i := ⟨by omega, fun j _ => by simp [noB]⟩
/-- the one part of a loop or of an option -/
theorem NodeV.part {W : World} {X : Nat → Prop} {k : Nat} {n : Nd} {nv : Value} (h : NodeV W X (.op k [n]) nv) : ∃ (pb c : Nat) (x : Fin 6 → Value), nv = .agg #[.int .i64 k, .int .u64 0, .int .u64 0, .int .u64 0, .int .u64 0, .slice (some ⟨pb, 0, none⟩) 1 c] ∧ 1 ≤ c ∧ X pb ∧ sixAt W pb 0 x ∧ NodeV W X n (aggOf x) := by
  unfold NodeV at h
  obtain ⟨A, c, e, h1, h2, h3⟩ := h
  obtain ⟨pb, rfl, hX, hn⟩ := h3 (by simp)
  unfold NodesFrom at hn
  obtain ⟨⟨x, hx, hn⟩, -⟩ := hn
  exact ⟨pb, c, x, e, h1, hX, hx, hn⟩
theorem sixAt.cells {W : World} {b : Nat} {x : Fin 6 → Value} (h : sixAt W b 0 x) : W.cell? ⟨b, 0, none⟩ = some (x 0) ∧ W.cell? ⟨b, 1, none⟩ = some (x 1) ∧ W.cell? ⟨b, 2, none⟩ = some (x 2) ∧ W.cell? ⟨b, 3, none⟩ = some (x 3) ∧ W.cell? ⟨b, 4, none⟩ = some (x 4) ∧ W.cell? ⟨b, 5, none⟩ = some (x 5) := by
  have key : ∀ i : Fin 6, W.cell? ⟨b, i.val, none⟩ = some (x i) := fun i => by have := h i; rwa [Nat.zero_mul, Nat.zero_add] at this
  exact ⟨key 0, key 1, key 2, key 3, key 4, key 5⟩
theorem three_new (w : World) (c1 c2 c3 : Array Value) (t1 t2 t3 : TypeId) : (((w.alloc (.cells c1 t1)).alloc (.cells c2 t2)).alloc (.cells c3 t3)).heap[w.heap.size]? = some (.cells c1 t1 (0, 0)) ∧ (((w.alloc (.cells c1 t1)).alloc (.cells c2 t2)).alloc (.cells c3 t3)).heap[w.heap.size + 1]? = some (.cells c2 t2 (0, 0)) ∧ (((w.alloc (.cells c1 t1)).alloc (.cells c2 t2)).alloc (.cells c3 t3)).heap[w.heap.size + 2]? = some (.cells c3 t3 (0, 0)) := by
  have a1 := heap_alloc_new w (.cells c1 t1)
  have a2 := heap_alloc_new (w.alloc (.cells c1 t1)) (.cells c2 t2)
  have a3 := heap_alloc_new ((w.alloc (.cells c1 t1)).alloc (.cells c2 t2)) (.cells c3 t3)
  rw [show (w.alloc (.cells c1 t1)).heap.size = w.heap.size + 1 by simp] at a2
  rw [show ((w.alloc (.cells c1 t1)).alloc (.cells c2 t2)).heap.size = w.heap.size + 2 by simp] at a3
  refine ⟨?_, ?_, a3⟩
  · rw [(((Gr.refl (w.alloc (.cells c1 t1))).alloc c2 t2).alloc c3 t3).b.block _ (by simp)]; exact a1
  · rw [((Gr.refl ((w.alloc (.cells c1 t1)).alloc (.cells c2 t2))).alloc c3 t3).b.block _ (by simp)]; exact a2
/-- what add's frame reads: its three boxes, the part's six cells -/
def Opt9 (W : World) (N g pb c b : Nat) (x : Fin 6 → Value) : Prop := W.cell? ⟨N, 0, none⟩ = some (.pointer (some ⟨g, 0, none⟩)) ∧ W.cell? ⟨N + 1, 5, none⟩ = some (.slice (some ⟨pb, 0, none⟩) 1 c) ∧ W.cell? ⟨N + 2, 0, none⟩ = some (.int .i64 b) ∧ W.cell? ⟨pb, 0, none⟩ = some (x 0) ∧ W.cell? ⟨pb, 1, none⟩ = some (x 1) ∧ W.cell? ⟨pb, 2, none⟩ = some (x 2) ∧ W.cell? ⟨pb, 3, none⟩ = some (x 3) ∧ W.cell? ⟨pb, 4, none⟩ = some (x 4) ∧ W.cell? ⟨pb, 5, none⟩ = some (x 5)
theorem Opt9.step {W W' : World} {N g pb c b : Nat} {x : Fin 6 → Value} (h : Opt9 W N g pb c b x) {v v' : Value} (k : BStep g W v W' v') (hN : N + 2 < W.heap.size) (hp : pb < W.heap.size) (hg : N ≠ g ∧ N + 1 ≠ g ∧ N + 2 ≠ g ∧ pb ≠ g) (hv : v.ownBlock ≠ some N ∧ v.ownBlock ≠ some (N + 1) ∧ v.ownBlock ≠ some (N + 2) ∧ v.ownBlock ≠ some pb) : Opt9 W' N g pb c b x := by
  obtain ⟨h0, h1, h2, h3, h4, h5, h6, h7, h8⟩ := h
  obtain ⟨g0, g1, g2, g3⟩ := hg
  obtain ⟨v0, v1, v2, v3⟩ := hv
  exact ⟨k.blk (by omega) g0 v0 h0, k.blk (by omega) g1 v1 h1, k.blk hN g2 v2 h2, k.blk hp g3 v3 h3, k.blk hp g3 v3 h4, k.blk hp g3 v3 h5, k.blk hp g3 v3 h6, k.blk hp g3 v3 h7, k.blk hp g3 v3 h8⟩
theorem BStep.other {g : Nat} {W W' : World} {v v' : Value} (k : BStep g W v W' v') {c : Nat} (hc : c < W.heap.size) (hv : v.ownBlock ≠ some c) : v'.ownBlock ≠ some c := by
  rcases k.own with e | ⟨j, e, hj⟩
  · rw [e]; exact hv
  · rw [e]; intro e2; have := Option.some.inj e2; omega
theorem add_opt (n : Nd) (ih : AddC n) : AddC (.op 5 [n]) := by
  intro B g b X S nv v w h hB hX hn hw hbd
  obtain ⟨pb, c, x, rfl, hc1, hXp, hx, hn⟩ := hn.part
  unfold Wf WfL at hw
  have hwn := hw.1.1
  have hpb := hX pb hXp
  unfold bd bdm wts at hbd
  have hl := (addS_len n b S).2 hwn
  have hl1 : S.length + bd n ≤ 1000000000000 := by simp [List.length] at hbd; omega
  have hl2 : (addS n b S).1.length ≤ 1000000000000 := by simp [List.length] at hbd; omega
  have CA := Lib.hid (fun W (k : Gr w W) => ih B g b X S (aggOf x) v W (h.gr k) (Nat.le_trans hB k.size) hX (hn.gr k) hwn hl1)
  have hg : w.heap.size ≠ g ∧ w.heap.size + 1 ≠ g ∧ w.heap.size + 2 ≠ g ∧ pb ≠ g := by have := h.lt; have := h.b; omega
  have hv : v.ownBlock ≠ some w.heap.size ∧ v.ownBlock ≠ some (w.heap.size + 1) ∧ v.ownBlock ≠ some (w.heap.size + 2) ∧ v.ownBlock ≠ some pb := by
    have := h.r.lt
    refine ⟨fun e => ?_, fun e => ?_, fun e => ?_, fun e => ?_⟩ <;> (have := this _ e; omega)
  obtain ⟨p0, p1, p2, p3, p4, p5⟩ := hx.cells
  have HV := Lib.hid hv
  have HBL := Lib.hid h.lt
  have e5 : addS (.op 5 [n]) b S = forkOn (addS n b S) b := by
    conv => lhs; unfold addS
    simp only [show ¬ (5 = 1) by omega, show ¬ (5 = 2) by omega, if_false, if_true]
    unfold addHead
    rfl
  rw [e5]
  obtain ⟨r, hr⟩ : ∃ r, addS n b S = r := ⟨_, rfl⟩
  rw [hr] at CA hl2 ⊢
  clear hr hl hbd hn hx hv hw
  obtain ⟨S1, f1⟩ := r
  simp only at hl2
  replace CA : Hid (∀ W, Gr w W → Calls Tryz.prog 133 #[.pointer (some ⟨g, 0, none⟩), aggOf x, .int .i64 b] W (fun e w' => e = .returned (.int .i64 f1) ∧ ∃ v', Bld B g w' S1 v' ∧ BStep g W v w' v')) := CA
  unfold aggOf at CA
  obtain ⟨hg0, hg1, hg2, hg3⟩ := hg
  go_enter Tryz.func133, Tryz.ntmps133
  go_wp2
  have hn3 := three_new w #[.pointer (some ⟨g, 0, none⟩)] #[.int .i64 5, .int .u64 0, .int .u64 0, .int .u64 0, .int .u64 0, .slice (some ⟨pb, 0, none⟩) 1 c] #[.int .i64 b] 192 150 3
  have k0 := Gr3 w #[.pointer (some ⟨g, 0, none⟩)] #[.int .i64 5, .int .u64 0, .int .u64 0, .int .u64 0, .int .u64 0, .slice (some ⟨pb, 0, none⟩) 1 c] #[.int .i64 b] 192 150 3
  have hsz : (((w.alloc (.cells #[.pointer (some ⟨g, 0, none⟩)] 192)).alloc (.cells #[.int .i64 5, .int .u64 0, .int .u64 0, .int .u64 0, .int .u64 0, .slice (some ⟨pb, 0, none⟩) 1 c] 150)).alloc (.cells #[.int .i64 b] 3)).heap.size = w.heap.size + 3 := by simp
  obtain ⟨W0, hW0⟩ : ∃ W0, (((w.alloc (.cells #[.pointer (some ⟨g, 0, none⟩)] 192)).alloc (.cells #[.int .i64 5, .int .u64 0, .int .u64 0, .int .u64 0, .int .u64 0, .slice (some ⟨pb, 0, none⟩) 1 c] 150)).alloc (.cells #[.int .i64 b] 3)) = W0 := ⟨_, rfl⟩
  rw [hW0] at hn3 k0 hsz ⊢
  obtain ⟨n0, n1, n2⟩ := hn3
  have HS : Hid (Opt9 W0.drew w.heap.size g pb c b x) := Lib.hid ⟨cell_of_row W0 _ 0 _ _ (0, 0) n0, cell_of_row W0 _ 5 _ _ (0, 0) n1, cell_of_row W0 _ 0 _ _ (0, 0) n2, k0.cell p0, k0.cell p1, k0.cell p2, k0.cell p3, k0.cell p4, k0.cell p5⟩
  have K0 := Lib.hid k0
  clear hW0 n0 n1 n2 k0 p0 p1 p2 p3 p4 p5
  go_region_held3 (fun w' => w'.cell? ⟨w.heap.size, 0, none⟩ = some (.pointer (some ⟨g, 0, none⟩)) ∧ w'.cell? ⟨w.heap.size + 1, 5, none⟩ = some (.slice (some ⟨pb, 0, none⟩) 1 c) ∧ w'.cell? ⟨w.heap.size + 2, 0, none⟩ = some (.int .i64 b) ∧ w'.cell? ⟨pb, 0, none⟩ = some (x 0) ∧ w'.cell? ⟨pb, 1, none⟩ = some (x 1) ∧ w'.cell? ⟨pb, 2, none⟩ = some (x 2) ∧ w'.cell? ⟨pb, 3, none⟩ = some (x 3) ∧ w'.cell? ⟨pb, 4, none⟩ = some (x 4) ∧ w'.cell? ⟨pb, 5, none⟩ = some (x 5))
    (first
     | exact HS2.out
     | exact HS1.out
     | exact HS.out)
    (first
     | (go_at_call 153
        refine (put_rx B g S1 ⟨noB, true, f1, b⟩ v1 0 0 0 0 w1 hb1 (by omega) hl2 (wd_none 0) (wd_none 1) (wd_none 2) (wd_none 3)).mono ?_
        rintro e w2 ⟨rfl, v2, hb2, hs2⟩
        have HS2 : Hid (Opt9 w2 w.heap.size g pb c b x) := Lib.hid (HS1.out.step hs2 (by omega) (by omega) ⟨hg0, hg1, hg2, hg3⟩ ⟨hs1.other (by show _ < W0.heap.size; omega) HV.out.1, hs1.other (by show _ < W0.heap.size; omega) HV.out.2.1, hs1.other (by show _ < W0.heap.size; omega) HV.out.2.2.1, hs1.other (by show _ < W0.heap.size; omega) HV.out.2.2.2⟩))
     | (go_at_call 133
        refine (CA.out _ K0.out.drew).mono ?_
        rintro e w1 ⟨rfl, v1, hb1, hs1⟩
        have hz1 : W0.heap.size ≤ w1.heap.size := hs1.size
        have HS1 : Hid (Opt9 w1 w.heap.size g pb c b x) := Lib.hid (HS.out.step hs1 (by show _ < W0.heap.size; omega) (by show _ < W0.heap.size; omega) ⟨hg0, hg1, hg2, hg3⟩ HV.out)))
  go_wp2
  go_ret
  exact ⟨rfl, v2, hb2, (K0.out.drew.bstep hs1).trans hs2⟩
end Go.Proofs.YtikaamonmaohjaaGreatDoor
namespace Go.Proofs.YtikaamonmaohjaaGreatDoor
open Go.RowKit
set_option maxRecDepth 100000
set_option maxHeartbeats 4000000

theorem flat7_set : ∀ (vs : List (Fin 7 → Value)) (i : Nat) (x y : Fin 7 → Value) (u : Value), vs[i]? = some x → (∀ j : Fin 7, y j = if j = 5 then u else x j) → (vs.flatMap cells7).set (i * 7 + 5) u = (vs.set i y).flatMap cells7
  | [], i, x, y, u, h, hy => by simp at h
  | z :: r, 0, x, y, u, h, hy => by
    obtain rfl : z = x := by simpa using h
    have := hy 0; have := hy 1; have := hy 2; have := hy 3; have := hy 4; have := hy 5; have := hy 6
    simp_all [cells7]
  | z :: r, i + 1, x, y, u, h, hy => by
    have := flat7_set r i x y u (by simpa using h) hy
    rw [List.set_cons_succ, List.flatMap_cons, List.flatMap_cons, ← this, List.set_append_right _ _ (by simp [cells7]; omega)]
    congr 2
    simp [cells7]
    omega
theorem RowSt.setNext {W : World} {B : Nat} {v : Value} {l : List St} {i : Nat} {s : St} (h : RowSt W B v l) (hi : l[i]? = some s) (n : Nat) :
    ∃ pb c, v = .slice (some ⟨pb, 0, none⟩) l.length c ∧ W.cell? ⟨pb, i * 7 + 5, none⟩ = some (.int .i64 s.nx) ∧ W.frozen? ⟨pb, i * 7 + 5, none⟩ = false ∧ RowSt (W.setCell ⟨pb, i * 7 + 5, none⟩ (.int .i64 n)) B v (l.set i ⟨s.p, s.fork, n, s.ot⟩) := by
  obtain ⟨vs, h1, h2, h3⟩ := h
  have hil := (List.getElem?_eq_some_iff.1 hi).1
  rcases h2.2 with ⟨e, e2⟩ | ⟨pb, cap, cur, rfl, e2, e3, e4, e5, e6, e7⟩
  · omega
  have hiv : i < vs.length := by omega
  have hx : vs[i]? = some vs[i] := List.getElem?_eq_getElem hiv
  have hs := h3 i s _ hi hx
  have hc : ∀ j : Fin 7, cur[i * 7 + j.val]? = some (vs[i] j) := fun j => by
    have := cells7_get vs i _ j hx
    rw [← e7, List.getElem?_take_of_lt (by have := j.isLt; omega)] at this
    simpa using this
  have hadd : ∀ j, (⟨pb, 0, none⟩ : Addr).add j = ⟨pb, j, none⟩ := fun j => by unfold Addr.add; split <;> simp_all
  obtain ⟨u0, u1, u2, u3, ex, q⟩ := hs
  have h5 := hc 5
  rw [ex] at h5
  refine ⟨pb, cap, rfl, (cell_of_row W pb _ cur _ (0, 0) e3).trans h5, frozen_of_row W pb _ cur _ e3, ?_⟩
  have hset := heap_setCell_same W pb (i * 7 + 5) cur 165 (.int .i64 n) e3
  refine ⟨vs.set i (stF u0 u1 u2 u3 s.fork n s.ot), by simp [h1], ⟨by rw [cells7_len]; simp [h1], .inr ⟨pb, cap, cur.setIfInBounds (i * 7 + 5) (.int .i64 n), by simp, e2, hset, by simpa using e4, e5, by simpa using e6, ?_⟩⟩, fun j t y hj hy => ?_⟩
  · rw [Array.toList_setIfInBounds, List.length_set, List.take_set, e7]
    refine flat7_set vs i vs[i] _ _ hx fun j => ?_
    rw [ex]
    match j with
    | 0 => rfl
    | 1 => rfl
    | 2 => rfl
    | 3 => rfl
    | 4 => rfl
    | 5 => rfl
    | 6 => rfl
  · by_cases e : i = j
    · subst e
      rw [List.getElem?_set_self (by omega)] at hj
      rw [List.getElem?_set_self (by omega)] at hy
      obtain rfl := Option.some.inj hj
      obtain rfl := Option.some.inj hy
      exact ⟨u0, u1, u2, u3, rfl, q⟩
    · rw [List.getElem?_set_ne e] at hj
      rw [List.getElem?_set_ne e] at hy
      exact h3 j t y hj hy
/-- a state's way on is laid -/
theorem Bld.setNext {B g : Nat} {W : World} {S : List St} {v : Value} {i : Nat} {s : St} (h : Bld B g W S v) (hi : S[i]? = some s) (n : Nat) :
    ∃ pb c, v = .slice (some ⟨pb, 0, none⟩) S.length c ∧ W.cell? ⟨pb, i * 7 + 5, none⟩ = some (.int .i64 s.nx) ∧ W.frozen? ⟨pb, i * 7 + 5, none⟩ = false ∧ Bld B g (W.setCell ⟨pb, i * 7 + 5, none⟩ (.int .i64 n)) (S.set i ⟨s.p, s.fork, n, s.ot⟩) v ∧ BStep g W v (W.setCell ⟨pb, i * 7 + 5, none⟩ (.int .i64 n)) v := by
  obtain ⟨pb, c, e, h1, h2, h3⟩ := h.r.setNext hi n
  have hne : pb ≠ g := fun e2 => h.n (by rw [e, e2]; rfl)
  refine ⟨pb, c, e, h1, h2, ⟨(Below.heap_setCell W _ _ g (by show g ≠ pb; omega)).trans h.c, h3, h.n, h.b⟩, rfl, rfl, rfl, by simp [World.setCell], fun k hk hkg hkv => Below.heap_setCell W _ _ k (by show k ≠ pb; rintro rfl; exact hkv (by rw [e]; rfl)), .inl rfl⟩
theorem addS_keeps : ∀ n, ∀ (b : Nat) (S : List St) (i : Nat), i < S.length → (addS n b S).1[i]? = S[i]? := by
  have hd : ∀ (l : List Nd), (∀ n ∈ l, ∀ (b : Nat) (S : List St) (i : Nat), i < S.length → (addS n b S).1[i]? = S[i]?) → ∀ (b : Nat) (S : List St) (i : Nat), i < S.length → (addHead l b S).1[i]? = S[i]? := fun l hl b S i hi => by
    cases l with
    | nil => unfold addHead; rfl
    | cons n r => unfold addHead; exact hl n (by simp) b S i hi
  refine Nd.all (fun p b S i hi => ?_) (fun k l hl b S i hi => ?_)
  · unfold addS
    rw [List.getElem?_append_left hi]
  · unfold addS
    split
    · clear hd
      induction l generalizing b S with
      | nil => unfold addTurn; rfl
      | cons n r ih =>
        unfold addTurn
        rw [hl n (by simp) _ _ i (by have := (addTurn_len r b S).1; omega), ih (fun m hm => hl m (by simp [hm])) b S hi]
    split
    · clear hd
      induction l generalizing b S with
      | nil => unfold addAlt; rfl
      | cons n r ih =>
        unfold addAlt
        split
        · exact hl n (by simp) b S i hi
        · have h1 := (addAlt_len r b S).1
          have h2 := (addS_len n b (addAlt r b S).1).1
          unfold forkOn
          rw [List.getElem?_append_left (by omega), hl n (by simp) _ _ i (by omega), ih (fun m hm => hl m (by simp [hm])) b S hi]
    split
    · unfold forkOn
      rw [List.getElem?_append_left (by have := (addHead_len l b S).1; omega), hd l hl b S i hi]
    · unfold loopEnd
      rw [List.getElem?_set_ne (by omega), hd l hl _ _ i (by simp; omega), List.getElem?_append_left hi]
end Go.Proofs.YtikaamonmaohjaaGreatDoor
/- addLoop. -/
namespace Go.Proofs.YtikaamonmaohjaaGreatDoor
open Go.RowKit
set_option maxRecDepth 100000
set_option maxHeartbeats 4000000

theorem addLoop_any (k : Nat) (hk : k = 3 ∨ k = 4) (n : Nd) (ih : AddC n) (B g b : Nat) (X : Nat → Prop) (S : List St) (nv v : Value) (w : World) (h : Bld B g w S v) (hB : B ≤ w.heap.size) (hX : ∀ c, X c → c < B) (hn : NodeV w X (.op k [n]) nv) (hwn : Wf n) (hbd : S.length + bd n + 1 ≤ 1000000000000) :
    Calls Tryz.prog 156 #[.pointer (some ⟨g, 0, none⟩), nv, .int .i64 b] w (AddPost B g (loopEnd k S.length b (addS n S.length (S ++ [⟨noB, true, 0, b⟩]))) w v) := by
  obtain ⟨pb, c, x, rfl, hc1, hXp, hx, hn⟩ := hn.part
  have hpb := hX pb hXp
  have hl := (addS_len n S.length (S ++ [⟨noB, true, 0, b⟩])).1
  have hkeep := addS_keeps n S.length (S ++ [⟨noB, true, 0, b⟩]) S.length (by simp)
  rw [List.getElem?_append_right (Nat.le_refl _), Nat.sub_self] at hkeep
  have hgl := h.lt
  have hbg := h.b
  have hrl := h.r.lt
  obtain ⟨p0, p1, p2, p3, p4, p5⟩ := hx.cells
  have CP := Lib.hid (fun W (k : Gr w W) => put_rx B g S ⟨noB, true, 0, b⟩ v 0 0 0 0 W (h.gr k) (Nat.le_trans hB k.size) (by omega) (wd_none 0) (wd_none 1) (wd_none 2) (wd_none 3))
  have CA := Lib.hid (fun W (hb : Below B w W) u (h : Bld B g W (S ++ [⟨noB, true, 0, b⟩]) u) => ih B g S.length X (S ++ [⟨noB, true, 0, b⟩]) (aggOf x) u W h (Nat.le_trans hB hb.size) hX (NodeV.same (fun c hc _ => hb.block c (hX c hc)) _ _ hn) hwn (by simp; omega))
  have HB := Lib.hid h
  clear hX hn hx hwn hbd h
  obtain ⟨r, hr⟩ : ∃ r, addS n S.length (S ++ [⟨noB, true, 0, b⟩]) = r := ⟨_, rfl⟩
  rw [hr] at CA hl hkeep ⊢
  clear hr
  obtain ⟨S1, f1⟩ := r
  simp only at hl hkeep
  simp only [List.length_append, List.length_cons, List.length_nil] at hl
  have HK := Lib.hid hkeep
  clear hkeep
  replace CA : Hid (∀ W, Below B w W → ∀ u, Bld B g W (S ++ [⟨noB, true, 0, b⟩]) u → Calls Tryz.prog 133 #[.pointer (some ⟨g, 0, none⟩), aggOf x, .int .i64 S.length] W (fun e w' => e = .returned (.int .i64 f1) ∧ ∃ v', Bld B g w' S1 v' ∧ BStep g W u w' v')) := CA
  unfold aggOf at CA
  go_enter Tryz.func156, Tryz.ntmps156
  go_wp2_with fail
  have g0 : Gr w (w.alloc (.cells #[.int .i64 k, .int .u64 0, .int .u64 0, .int .u64 0, .int .u64 0, .slice (some ⟨pb, 0, none⟩) 1 c] 150)) := (Gr.refl w).alloc _ _
  have n0 := heap_alloc_new w (.cells #[.int .i64 k, .int .u64 0, .int .u64 0, .int .u64 0, .int .u64 0, .slice (some ⟨pb, 0, none⟩) 1 c] 150)
  have hz0 : (w.alloc (.cells #[.int .i64 k, .int .u64 0, .int .u64 0, .int .u64 0, .int .u64 0, .slice (some ⟨pb, 0, none⟩) 1 c] 150)).heap.size = w.heap.size + 1 := by simp
  refine (CP.out _ g0).mono ?_
  rintro e w1 ⟨rfl, v1, hb1, hs1⟩
  have hv : v.ownBlock ≠ some w.heap.size := fun e => by have := hrl _ e; omega
  have hvp : v.ownBlock ≠ some pb := fun e => by have := hrl _ e; omega
  have hz1 := hs1.size
  rw [hz0] at hz1
  have b0 := hs1.block w.heap.size (by omega) (by omega) hv
  rw [n0] at b0
  have hbl := (g0.bstep hs1).below HB.out hB
  have hp := hs1.block pb (by omega) (by omega) hvp
  have P : ∀ j : Nat, ∀ u, w.cell? ⟨pb, j, none⟩ = some u → w1.cell? ⟨pb, j, none⟩ = some u := fun j u e => (hbl.cell (p := ⟨pb, j, none⟩) hpb).trans e
  have d0 := cell_of_row w1 _ 0 _ _ (0, 0) b0
  have d5 := cell_of_row w1 _ 5 _ _ (0, 0) b0
  have q0 := P 0 _ p0
  have q1 := P 1 _ p1
  have q2 := P 2 _ p2
  have q3 := P 3 _ p3
  have q4 := P 4 _ p4
  have q5 := P 5 _ p5
  have HV1 := Lib.hid (show v1.ownBlock ≠ some w.heap.size from hs1.other (by omega) hv)
  have HS1 := Lib.hid (g0.bstep hs1)
  have C2 := Lib.hid (CA.out w1 hbl v1 hb1)
  have HB1 := Lib.hid hb1
  clear P p0 p1 p2 p3 p4 p5 hp n0 g0 hs1 hb1 CA CP hbl hv hvp
  go_wp2_with fail
  refine C2.out.mono ?_
  rintro e w2 ⟨rfl, v2, hb2, hs2⟩
  have hz2 := hs2.size
  have b2 := hs2.block w.heap.size (by omega) (by omega) HV1.out
  rw [b0] at b2
  have e0' := cell_of_row w2 _ 0 _ _ (0, 0) b2
  obtain ⟨rb, rc, rfl, r1, r2, hb3, hs3⟩ := hb2.setNext (s := ⟨noB, true, 0, b⟩) HK.out f1
  obtain ⟨cg, -⟩ := hb2.cell
  have HF := Lib.hid (show AddPost B g (loopEnd k S.length b (S1, f1)) w v (.returned (.int .i64 (loopEnd k S.length b (S1, f1)).2)) _ from ⟨rfl, _, hb3, (HS1.out.trans hs2).trans hs3⟩)
  have hlt : (S.length : Int) < (S1.length : Int) := by omega
  have hlt2 : S.length < S1.length := by omega
  have hne : w.heap.size ≠ rb := fun e => (hs2.other (by omega) HV1.out) (by rw [← e]; rfl)
  clear hb3 hs3 hb2 hs2 q0 q1 q2 q3 q4 q5 d0 d5 HB1 C2 b0 b2 hn
  have e0 : (w2.setCell ⟨rb, S.length * 7 + 5, none⟩ (.int .i64 f1)).cell? ⟨w.heap.size, 0, none⟩ = some (.int .i64 k) := (World.cell?_setCell_far w2 ⟨rb, S.length * 7 + 5, none⟩ ⟨w.heap.size, 0, none⟩ _ (by show rb ≠ w.heap.size; omega)).trans e0'
  clear e0'
  rcases hk with rfl | rfl
  · simp only at *
    go_wp2
    go_ret
    exact HF.out
  · simp only at *
    go_wp2
    go_ret
    exact HF.out
end Go.Proofs.YtikaamonmaohjaaGreatDoor
namespace Go.Proofs.YtikaamonmaohjaaGreatDoor
open Go.RowKit
set_option maxRecDepth 100000
set_option maxHeartbeats 1000000

/-- the builder's block, its row, and a variable N alone have turned -/
structure BMid (g N : Nat) (W : World) (v : Value) (W' : World) (v' : Value) : Prop where
  os : W'.os = W.os
  tape : W'.tape = W.tape
  output : W'.output = W.output
  size : W.heap.size ≤ W'.heap.size
  block : ∀ c, c < W.heap.size → c ≠ g → c ≠ N → v.ownBlock ≠ some c → W'.heap[c]? = W.heap[c]?
  own : v'.ownBlock = v.ownBlock ∨ ∃ k, v'.ownBlock = some k ∧ W.heap.size ≤ k
theorem BMid.refl (g N : Nat) (W : World) (v : Value) : BMid g N W v W v := ⟨rfl, rfl, rfl, Nat.le_refl _, fun _ _ _ _ _ => rfl, .inl rfl⟩
theorem BMid.step {g N : Nat} {W W' W'' : World} {v v' v'' : Value} (h : BMid g N W v W' v') (k : BStep g W' v' W'' v'') : BMid g N W v W'' v'' :=
  ⟨k.os.trans h.os, k.tape.trans h.tape, k.output.trans h.output, Nat.le_trans h.size k.size, fun c hc hg hN hv => (k.block c (Nat.lt_of_lt_of_le hc h.size) hg (by
      rcases h.own with e | ⟨j, e, hj⟩
      · rw [e]; exact hv
      · rw [e]; intro e2; have := Option.some.inj e2; omega)).trans (h.block c hc hg hN hv), by
    rcases k.own with e | ⟨j, e, hj⟩
    · rw [e]; exact h.own
    · exact .inr ⟨j, e, Nat.le_trans h.size hj⟩⟩
theorem BMid.set {g N : Nat} {W W' : World} {v v' : Value} (h : BMid g N W v W' v') (u : Value) : BMid g N W v (W'.setCell ⟨N, 0, none⟩ u) v' :=
  ⟨h.os, h.tape, h.output, by simpa [World.setCell] using h.size, fun c hc hg hN hv => (Below.heap_setCell W' _ _ c (by show c ≠ N; exact hN)).trans (h.block c hc hg hN hv), h.own⟩
theorem BMid.gr {g N : Nat} {W W' W'' : World} {v v' : Value} (h : BMid g N W v W' v') (k : Gr W' W'') : BMid g N W v W'' v' :=
  ⟨k.b.os.trans h.os, k.b.tape.trans h.tape, k.b.output.trans h.output, Nat.le_trans h.size k.size, fun c hc hg hN hv => (k.b.block c (Nat.lt_of_lt_of_le hc h.size)).trans (h.block c hc hg hN hv), h.own⟩
/-- a block that is no cells is turned -/
theorem BMid.turn {g N : Nat} {W X Y : World} {v v' : Value} {row : Option Nat} (h : BMid g N W v X v') (hg : X.grownBy Y row) (hr : ∀ r, row = some r → W.heap.size ≤ r) : BMid g N W v Y v' :=
  ⟨hg.os.trans h.os, hg.tape.trans h.tape, hg.output.trans h.output, Nat.le_trans h.size hg.size, fun c hc h1 h2 hv => (hg.block c (Nat.lt_of_lt_of_le hc h.size) (fun e => by have := hr c e.symm; omega)).trans (h.block c hc h1 h2 hv), h.own⟩
theorem BMid.bstep {g N : Nat} {w W W' : World} {v v' : Value} (h : BMid g N W v W' v') (k : Gr w W) (hN : w.heap.size ≤ N) : BStep g w v W' v' :=
  ⟨h.os.trans k.b.os, h.tape.trans k.b.tape, h.output.trans k.b.output, Nat.le_trans k.size h.size, fun c hc hg hv => (h.block c (Nat.lt_of_lt_of_le hc k.size) hg (by omega) hv).trans (k.b.block c hc), by
    rcases h.own with e | ⟨j, e, hj⟩
    · exact .inl e
    · exact .inr ⟨j, e, Nat.le_trans k.size hj⟩⟩
theorem BMid.blk {g N : Nat} {W W' : World} {v v' : Value} (h : BMid g N W v W' v') {c : Nat} (hc : c < W.heap.size) (hg : c ≠ g) (hN : c ≠ N) (hv : v.ownBlock ≠ some c) {o : Obj} (ho : W.heap[c]? = some o) : W'.heap[c]? = some o := (h.block c hc hg hN hv).trans ho
theorem BMid.below {B g N : Nat} {W W' : World} {v v' : Value} (h : BMid g N W v W' v') (hg : B ≤ g) (hN : B ≤ N) (hv : ∀ k, v.ownBlock = some k → B ≤ k) (hB : B ≤ W.heap.size) : Below B W W' :=
  ⟨h.os, h.tape, h.output, h.size, fun c hc => h.block c (by omega) (by omega) (by omega) (fun e => by have := hv c e; omega)⟩
theorem BMid.other {g N : Nat} {W W' : World} {v v' : Value} (k : BMid g N W v W' v') {c : Nat} (hc : c < W.heap.size) (hv : v.ownBlock ≠ some c) : v'.ownBlock ≠ some c := by
  rcases k.own with e | ⟨j, e, hj⟩
  · rw [e]; exact hv
  · rw [e]; intro e2; have := Option.some.inj e2; omega
theorem RowSt.cellsOf {W : World} {B : Nat} {v : Value} {l : List St} (h : RowSt W B v l) {k : Nat} (e : v.ownBlock = some k) : ∃ o : Obj, W.heap[k]? = some o ∧ o.isCells = true := by
  obtain ⟨vs, h1, h2, h3⟩ := h
  rcases h2.2 with ⟨rfl, -⟩ | ⟨g, cap, cur, rfl, e2, e3, -⟩
  · cases e
  · have : g = k := by simpa [Value.ownBlock] using e
    subst this
    exact ⟨_, e3, rfl⟩
theorem Bld.turn {B g : Nat} {X Y : World} {S : List St} {v : Value} {row : Option Nat} (h : Bld B g X S v) (hg : X.grownBy Y row) (hr : ∀ r, row = some r → ∃ o : Obj, X.heap[r]? = some o ∧ o.isCells = false) : Bld B g Y S v := by
  have key : ∀ (k : Nat) (o : Obj), X.heap[k]? = some o → o.isCells = true → Y.heap[k]? = X.heap[k]? := fun k o ho hc => hg.block k (Array.getElem?_eq_some_iff.1 ho).1 (fun e => by
    obtain ⟨o', ho', hc'⟩ := hr k e.symm
    rw [ho] at ho'
    obtain rfl := Option.some.inj ho'
    rw [hc] at hc'
    cases hc')
  refine ⟨(key g _ h.c rfl).trans h.c, h.r.keep fun c e => ?_, h.n, h.b⟩
  obtain ⟨o, ho, hc⟩ := h.r.cellsOf e
  exact key c o ho hc
theorem cells_turn {X Y : World} {row : Option Nat} (hg : X.grownBy Y row) (hr : ∀ r, row = some r → ∃ o : Obj, X.heap[r]? = some o ∧ o.isCells = false) {k : Nat} {c : Array Value} {t : TypeId} {fz : Nat × Nat} (h : X.heap[k]? = some (.cells c t fz)) : Y.heap[k]? = some (.cells c t fz) :=
  (hg.block k (Array.getElem?_eq_some_iff.1 h).1 (fun e => by
    obtain ⟨o', ho', hc'⟩ := hr k e.symm
    rw [h] at ho'
    obtain rfl := Option.some.inj ho'
    cases hc')).trans h
/-- whatever is no cells stays over a step of the builder's -/
theorem BStep.keepsFrom {B g : Nat} {W W' : World} {S : List St} {v v' : Value} (k : BStep g W v W' v') (h : Bld B g W S v) (D : Nat) : KeepsFrom D W W' :=
  ⟨k.size, fun c o _ ho hc => (k.block c (Array.getElem?_eq_some_iff.1 ho).1 (fun e => by
      subst e
      rw [h.c] at ho
      obtain rfl := Option.some.inj ho
      cases hc) (fun e => by
      obtain ⟨o', ho', hc'⟩ := h.r.cellsOf e
      rw [ho] at ho'
      obtain rfl := Option.some.inj ho'
      rw [hc] at hc'
      cases hc')).trans ho⟩
theorem two_t {a b : Nat} {A B C : World} (h : Two a b A B) (k : Two a b B C) : Two a b A C := h.trans k
theorem two_b {a b : Nat} {w : World} (ha : a < w.heap.size) (hb : b < w.heap.size) (W : World) (l : Nat) (o o' : Obj) (hl : w.heap.size ≤ l) (_ : W.heap[l]? = some o) (_ : o.isCells = false) (_ : o.isWalk = false) : Two a b W (W.putObj l o') :=
  ⟨World.putObj_heap_other (by omega), World.putObj_heap_other (by omega)⟩
theorem Bld.setFar {B g : Nat} {W : World} {S : List St} {v : Value} (h : Bld B g W S v) {N o : Nat} (u : Value) (hN : N ≠ g) (hv : v.ownBlock ≠ some N) : Bld B g (W.setCell ⟨N, o, none⟩ u) S v :=
  ⟨(Below.heap_setCell W _ _ g (by show g ≠ N; omega)).trans h.c, h.r.keep (fun c e => Below.heap_setCell W _ _ c (by show c ≠ N; rintro rfl; exact hv e)), h.n, h.b⟩
end Go.Proofs.YtikaamonmaohjaaGreatDoor
