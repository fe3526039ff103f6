/- States: rows of them; put. -/
import Derived.Test.YtnlfndhgdeapeaaBset
import Derived.Test.YtnlfndhgdeapeaaBytes
import Derived.Deep.RegionHeld3
namespace Go.Proofs.Ytnlfndhgdeapeaa
open Go.RowKit
set_option maxRecDepth 100000
set_option maxHeartbeats 2000000

/-- a state: which bytes it goes on by; does it fork; where to -/
structure St where
  p : Nat → Bool
  fork : Bool
  nx : Nat
  ot : Nat
def agg7 (x : Fin 7 → Value) : Value := .agg #[x 0, x 1, x 2, x 3, x 4, x 5, x 6]
def cells7 (x : Fin 7 → Value) : List Value := [x 0, x 1, x 2, x 3, x 4, x 5, x 6]
def stF (u0 u1 u2 u3 : Nat) (f : Bool) (n o : Nat) : Fin 7 → Value := fun j => match j with | 0 => .int .u64 u0 | 1 => .int .u64 u1 | 2 => .int .u64 u2 | 3 => .int .u64 u3 | 4 => .bool f | 5 => .int .i64 n | 6 => .int .i64 o
/-- seven cells that read as a state -/
def StV (x : Fin 7 → Value) (s : St) : Prop := ∃ u0 u1 u2 u3 : Nat, x = stF u0 u1 u2 u3 s.fork s.nx s.ot ∧ Wd64 u0 s.p 0 ∧ Wd64 u1 s.p 1 ∧ Wd64 u2 s.p 2 ∧ Wd64 u3 s.p 3
theorem StV.one {x : Fin 7 → Value} {s : St} (h : StV x s) : ∀ u ∈ cells7 x, u.oneCell' = true := by
  obtain ⟨u0, u1, u2, u3, rfl, -⟩ := h
  intro u hu
  simp only [cells7, stF, List.mem_cons, List.not_mem_nil, or_false] at hu
  rcases hu with rfl | rfl | rfl | rfl | rfl | rfl | rfl <;> rfl
theorem cells7_get : ∀ (vs : List (Fin 7 → Value)) (i : Nat) (x : Fin 7 → Value) (j : Fin 7), vs[i]? = some x → (vs.flatMap cells7)[i * 7 + j.val]? = some (x j)
  | [], i, x, j, h => by simp at h
  | y :: r, 0, x, j, h => by
    obtain rfl : y = x := by simpa using h
    rw [List.flatMap_cons, List.getElem?_append_left (by simp [cells7] <;> omega)]
    match j with
    | 0 => rfl
    | 1 => rfl
    | 2 => rfl
    | 3 => rfl
    | 4 => rfl
    | 5 => rfl
    | 6 => rfl
  | y :: r, i + 1, x, j, h => by
    rw [List.flatMap_cons, List.getElem?_append_right (by simp [cells7]; omega)]
    have := cells7_get r i x j (by simpa using h)
    rwa [show (i + 1) * 7 + j.val - (cells7 y).length = i * 7 + j.val by simp [cells7] <;> omega]
theorem cells7_len (vs : List (Fin 7 → Value)) : (vs.flatMap cells7).length = vs.length * 7 := by
  induction vs with
  | nil => rfl
  | cons x r ih => rw [List.flatMap_cons, List.length_append, ih, List.length_cons]; simp [cells7] <;> omega
def sevenAt (W : World) (b i : Nat) (v : Fin 7 → Value) : Prop := ∀ j : Fin 7, W.cell? ⟨b, i * 7 + j.val, none⟩ = some (v j)
/-- a row of states of the call's own -/
def RowSt (W : World) (B : Nat) (v : Value) (l : List St) : Prop :=
  ∃ vs : List (Fin 7 → Value), vs.length = l.length ∧ W.ownsRow B 78 7 v l.length (vs.flatMap cells7) ∧ ∀ (i : Nat) (s : St) (x : Fin 7 → Value), l[i]? = some s → vs[i]? = some x → StV x s
theorem RowSt.form {W : World} {B : Nat} {v : Value} {l : List St} (h : RowSt W B v l) : ∃ (A : Option Addr) (c : Nat), v = .slice A l.length c := by
  obtain ⟨vs, h1, h2, h3⟩ := h
  rcases h2.2 with ⟨e, e2⟩ | ⟨g, cap, cur, e, -⟩
  · exact ⟨none, 0, by rw [e, e2]⟩
  · exact ⟨_, _, e⟩
theorem RowSt.lt {W : World} {B : Nat} {v : Value} {l : List St} (h : RowSt W B v l) : ∀ k, v.ownBlock = some k → B ≤ k ∧ k < W.heap.size := by
  obtain ⟨vs, h1, h2, h3⟩ := h
  exact h2.lt
theorem RowSt.keep {W W' : World} {B : Nat} {v : Value} {l : List St} (h : RowSt W B v l) (g : ∀ c, v.ownBlock = some c → W'.heap[c]? = W.heap[c]?) : RowSt W' B v l := by
  obtain ⟨vs, h1, h2, h3⟩ := h
  refine ⟨vs, h1, ⟨h2.1, ?_⟩, h3⟩
  rcases h2.2 with e | ⟨gg, cap, cur, e1, e2, e3, e4⟩
  · exact .inl e
  · exact .inr ⟨gg, cap, cur, e1, e2, by rw [g gg (by rw [e1]; rfl)]; exact e3, e4⟩
theorem st_info : (Try.prog.info? 78).map (fun i => (i.zero, i.size, i.bytes)) = some (some (.agg #[.int .u64 0, .int .u64 0, .int .u64 0, .int .u64 0, .bool false, .int .i64 0, .int .i64 0]), 7, 56) := by kernel_rfl
theorem run_appSt {W : World} {B : Nat} {v : Value} {l : List St} {g c : Nat} {x : Fin 7 → Value} {s : St} (h : RowSt W B v l) (hx : sevenAt W g 0 x) (hs : StV x s) (hl : l.length ≤ 1000000000000) (hB : B ≤ W.heap.size) :
    ∃ v' W', (Builtin.append_ #[70, 70] 70 #[v, .slice (some ⟨g, 0, none⟩) 1 c]).run Try.prog W = .ok v' W' ∧ RowSt W' B v' (l ++ [s]) ∧ W.grownBy W' v.ownBlock ∧ (v'.ownBlock = v.ownBlock ∨ v'.ownBlock = some W.heap.size) := by
  obtain ⟨i0, hi, hz0, hz1, hz2⟩ := info_parts st_info
  obtain ⟨vs, hvl, hown, hel⟩ := h
  have hadd : ∀ j, (⟨g, 0, none⟩ : Addr).add j = ⟨g, j, none⟩ := fun j => by unfold Addr.add; split <;> simp_all
  obtain ⟨v', w', hr, h2, h3, _, h5⟩ := run_append_own_at (P := Try.prog) W B 70 70 78 i0 (.agg #[.int .u64 0, .int .u64 0, .int .u64 0, .int .u64 0, .bool false, .int .i64 0, .int .i64 0]) 7 56 Try.underlying70 hi hz0 hz1 hz2 rfl (by omega) v l.length _ hown ⟨g, 0, none⟩ 1 c (cells7 x) (by simp [cells7]) (fun j u hu => by
    rw [hadd]
    have hj : j < 7 := by have := (List.getElem?_eq_some_iff.1 hu).1; simpa [cells7] using this
    have := hx ⟨j, hj⟩
    simp only [Nat.zero_mul, Nat.zero_add] at this
    rw [this, ← hu]
    have := cells7_get [x] 0 x ⟨j, hj⟩ rfl
    simpa using this.symm) hs.one (by unfold maxLen; omega) (by omega) hB
  refine ⟨v', w', hr, ⟨vs ++ [x], by simp [hvl], ?_, fun i m y hm hy => ?_⟩, h3, h5⟩
  · rw [List.flatMap_append, List.length_append]
    simpa using h2
  · by_cases hi : i < l.length
    · rw [List.getElem?_append_left hi] at hm
      rw [List.getElem?_append_left (by omega)] at hy
      exact hel i m y hm hy
    · rw [List.getElem?_append_right (by omega)] at hm
      rw [List.getElem?_append_right (by omega)] at hy
      have e0 : i - l.length = 0 := by
        have := (List.getElem?_eq_some_iff.1 hm).1
        simpa using this
      rw [e0] at hm
      rw [hvl, e0] at hy
      obtain rfl : s = m := by simpa using hm
      obtain rfl : x = y := by simpa using hy
      exact hs
theorem step_appSt {P : Program} (hP : P = Try.prog) {ops : Array Oper} {o : Oper} {a : Act} {W : World} {K : Act → World → Prop} {Q : Exit → Act → World → Prop} {E : Prop} (hgd : o.guard = none) (s x : Operand)
    (ho : o.op = .call { callee := .builtin .append, args := #[s, x], argTypes := #[70, 70] }) (hty : o.type = 70)
    {B : Nat} {l : List St} {g c : Nat} {y : Fin 7 → Value} {st : St} (hs : RowSt W B (a.eval s) l) (ex : a.eval x = .slice (some ⟨g, 0, none⟩) 1 c) (hx : sevenAt W g 0 y) (hst : StV y st) (hn : l.length ≤ 1000000000000) (hB : B ≤ W.heap.size)
    (h : ∀ v' W', RowSt W' B v' (l ++ [st]) → W.grownBy W' (a.eval s).ownBlock → (v'.ownBlock = (a.eval s).ownBlock ∨ v'.ownBlock = some W.heap.size) → K (a.put o.dst v') W') :
    if Region.wanted o (yielded ops a.tmps) = true then Oper.wp P o a W K Q else E := by
  have hw : Region.wanted o (yielded ops a.tmps) = true := by simp [Region.wanted, hgd]
  rw [if_pos hw]
  subst hP
  obtain ⟨v', W', hr, h1, h2, h3⟩ := run_appSt (c := c) hs hx hst hn hB
  unfold Oper.wp execOp
  simp only [ho, hty, resolve, invoke, builtin, Sem.run_bind, Sem.run_pure, Result.andThen_ok, List.map_toArray, List.map_cons, List.map_nil, ex, hr]
  exact h v' W' h1 h2 h3
/-- the builder's block g, its row v of states -/
structure Bld (B g : Nat) (W : World) (S : List St) (v : Value) : Prop where
  c : W.heap[g]? = some (.cells #[v] 95 (0, 0))
  r : RowSt W B v S
  n : v.ownBlock ≠ some g
  b : B ≤ g
/-- the builder's block and its row alone have turned -/
structure BStep (g : Nat) (W : World) (v : Value) (W' : World) (v' : Value) : Prop where
  os : W'.os = W.os
  tape : W'.tape = W.tape
  output : W'.output = W.output
  size : W.heap.size ≤ W'.heap.size
  block : ∀ c, c < W.heap.size → c ≠ g → v.ownBlock ≠ some c → W'.heap[c]? = W.heap[c]?
  own : v'.ownBlock = v.ownBlock ∨ ∃ k, v'.ownBlock = some k ∧ W.heap.size ≤ k
theorem BStep.refl (g : Nat) (W : World) (v : Value) : BStep g W v W v := ⟨rfl, rfl, rfl, Nat.le_refl _, fun _ _ _ _ => rfl, .inl rfl⟩
theorem BStep.trans {g : Nat} {W W' W'' : World} {v v' v'' : Value} (h : BStep g W v W' v') (k : BStep g W' v' W'' v'') : BStep g W v W'' v'' :=
  ⟨k.os.trans h.os, k.tape.trans h.tape, k.output.trans h.output, Nat.le_trans h.size k.size, fun c hc hg hv => (k.block c (Nat.lt_of_lt_of_le hc h.size) hg (by
      rcases h.own with e | ⟨j, e, hj⟩
      · rw [e]; exact hv
      · rw [e]; intro e2; have := Option.some.inj e2; omega)).trans (h.block c hc hg hv), by
    rcases k.own with e | ⟨j, e, hj⟩
    · rw [e]; exact h.own
    · exact .inr ⟨j, e, Nat.le_trans h.size hj⟩⟩
theorem BStep.gr {g : Nat} {W W' W'' : World} {v v' : Value} (h : BStep g W v W' v') (k : Gr W' W'') : BStep g W v W'' v' :=
  ⟨k.b.os.trans h.os, k.b.tape.trans h.tape, k.b.output.trans h.output, Nat.le_trans h.size k.size, fun c hc hg hv => (k.b.block c (Nat.lt_of_lt_of_le hc h.size)).trans (h.block c hc hg hv), h.own⟩
theorem Gr.bstep {W0 W : World} (h : Gr W0 W) {g : Nat} {W' : World} {v v' : Value} (k : BStep g W v W' v') : BStep g W0 v W' v' :=
  ⟨k.os.trans h.b.os, k.tape.trans h.b.tape, k.output.trans h.b.output, Nat.le_trans h.size k.size, fun c hc hg hv => (k.block c (Nat.lt_of_lt_of_le hc h.size) hg hv).trans (h.b.block c hc), by
    rcases k.own with e | ⟨j, e, hj⟩
    · exact .inl e
    · exact .inr ⟨j, e, Nat.le_trans h.size hj⟩⟩
/-- what lay below B stays, where the builder's block and row lie at or above B -/
theorem BStep.below {B g : Nat} {W W' : World} {S : List St} {v v' : Value} (h : BStep g W v W' v') (hb : Bld B g W S v) (hB : B ≤ W.heap.size) : Below B W W' :=
  ⟨h.os, h.tape, h.output, h.size, fun c hc => h.block c (by omega) (by have := hb.b; omega) (fun e => by have := hb.r.lt c e; omega)⟩
theorem Bld.lt {B g : Nat} {W : World} {S : List St} {v : Value} (h : Bld B g W S v) : g < W.heap.size := by
  rcases Nat.lt_or_ge g W.heap.size with e | e
  · exact e
  · have := h.c; rw [Array.getElem?_eq_none e] at this; cases this
theorem Bld.gr {B g : Nat} {W W' : World} {S : List St} {v : Value} (h : Bld B g W S v) (k : Gr W W') : Bld B g W' S v :=
  ⟨(k.b.block g h.lt).trans h.c, h.r.keep (fun c e => k.b.block c (h.r.lt c e).2), h.n, h.b⟩
theorem Bld.cell {B g : Nat} {W : World} {S : List St} {v : Value} (h : Bld B g W S v) : W.cell? ⟨g, 0, none⟩ = some v ∧ W.frozen? ⟨g, 0, none⟩ = false :=
  ⟨cell_of_row W g 0 _ _ (0, 0) h.c, frozen_of_row W g 0 _ _ h.c⟩
def PutPost (B g : Nat) (S : List St) (s : St) (w : World) (v : Value) (e : Ending) (w' : World) : Prop :=
  e = .returned (.int .i64 S.length) ∧ ∃ v', Bld B g w' (S ++ [s]) v' ∧ BStep g w v w' v'
end Go.Proofs.Ytnlfndhgdeapeaa
