/- append onto a row of patterns of the call's own. -/
import Derived.Test.YtnlfndhgdeapeaaNode
import Derived.Test.YtnlfndhgdeapeaaBytes
namespace Go.Proofs.Ytnlfndhgdeapeaa
open Go.RowKit
set_option maxRecDepth 100000
set_option maxHeartbeats 2000000

def cells6 (x : Fin 6 → Value) : List Value := [x 0, x 1, x 2, x 3, x 4, x 5]
theorem cells6_len (vs : List (Fin 6 → Value)) : (vs.flatMap cells6).length = vs.length * 6 := by
  induction vs with
  | nil => rfl
  | cons x r ih => rw [List.flatMap_cons, List.length_append, ih, List.length_cons]; simp [cells6] <;> omega
theorem cells6_get : ∀ (vs : List (Fin 6 → Value)) (i : Nat) (x : Fin 6 → Value) (j : Fin 6), vs[i]? = some x → (vs.flatMap cells6)[i * 6 + j.val]? = some (x j)
  | [], i, x, j, h => by simp at h
  | y :: r, 0, x, j, h => by
    obtain rfl : y = x := by simpa using h
    rw [List.flatMap_cons, List.getElem?_append_left (by simp [cells6] <;> omega)]
    match j with
    | 0 => rfl
    | 1 => rfl
    | 2 => rfl
    | 3 => rfl
    | 4 => rfl
    | 5 => rfl
  | y :: r, i + 1, x, j, h => by
    rw [List.flatMap_cons, List.getElem?_append_right (by simp [cells6]; omega)]
    have := cells6_get r i x j (by simpa using h)
    rwa [show (i + 1) * 6 + j.val - (cells6 y).length = i * 6 + j.val by simp [cells6] <;> omega]
theorem leaf_one {x : Fin 6 → Value} {p : Nat → Bool} (h : LeafV (aggOf x) p) : ∀ u ∈ cells6 x, u.oneCell' = true := by
  obtain ⟨u0, u1, u2, u3, e, -⟩ := h
  unfold aggOf at e
  simp only [Value.agg.injEq, Array.mk.injEq, List.cons.injEq, and_true] at e
  obtain ⟨e0, e1, e2, e3, e4, e5⟩ := e
  intro u hu
  simp only [cells6, e0, e1, e2, e3, e4, e5, List.mem_cons, List.not_mem_nil, or_false] at hu
  rcases hu with rfl | rfl | rfl | rfl | rfl | rfl <;> rfl
theorem node_one {W : World} {X : Nat → Prop} {n : Nd} {x : Fin 6 → Value} (h : NodeV W X n (aggOf x)) : ∀ u ∈ cells6 x, u.oneCell' = true := by
  cases n with
  | one p => unfold NodeV at h; exact leaf_one h
  | op k l =>
    unfold NodeV at h
    obtain ⟨A, c, e, -⟩ := h
    unfold aggOf kindV at e
    simp only [Value.agg.injEq, Array.mk.injEq, List.cons.injEq, and_true] at e
    obtain ⟨e0, e1, e2, e3, e4, e5⟩ := e
    intro u hu
    simp only [cells6, e0, e1, e2, e3, e4, e5, List.mem_cons, List.not_mem_nil, or_false] at hu
    rcases hu with rfl | rfl | rfl | rfl | rfl | rfl
    · rfl
    · rfl
    · rfl
    · rfl
    · rfl
    · cases A <;> rfl
/-- a row of patterns of the call's own -/
def OwnN (W : World) (B : Nat) (v : Value) (l : List Nd) : Prop :=
  ∃ (X : Nat → Prop) (vs : List (Fin 6 → Value)), vs.length = l.length ∧ W.ownsRow B 57 6 v l.length (vs.flatMap cells6) ∧ (∀ (i : Nat) (n : Nd) (x : Fin 6 → Value), l[i]? = some n → vs[i]? = some x → NodeV W X n (aggOf x)) ∧ ∀ b, X b → B ≤ b ∧ b < W.heap.size ∧ v.ownBlock ≠ some b
theorem OwnN.nil (W : World) (B : Nat) : OwnN W B (.slice none 0 0) [] := ⟨fun _ => False, [], rfl, World.ownsRow_nil _ _ _ _, fun i n x h => by simp at h, fun b h => h.elim⟩
theorem node_info : (Try.prog.info? 57).map (fun i => (i.zero, i.size, i.bytes)) = some (some (.agg #[.int .i64 0, .int .u64 0, .int .u64 0, .int .u64 0, .int .u64 0, .slice none 0 0]), 6, 64) := by kernel_rfl
theorem run_appN {W : World} {B : Nat} {v : Value} {l : List Nd} {n : Nd} {X : Nat → Prop} {g c : Nat} {x : Fin 6 → Value} (h : OwnN W B v l) (hx : sixAt W g 0 x) (hn : NodeV W X n (aggOf x)) (hX : ∀ b, X b → B ≤ b ∧ b < W.heap.size ∧ v.ownBlock ≠ some b) (hl : l.length ≤ 1000000) (hB : B ≤ W.heap.size) :
    ∃ v' W', (Builtin.append_ #[55, 55] 55 #[v, .slice (some ⟨g, 0, none⟩) 1 c]).run Try.prog W = .ok v' W' ∧ OwnN W' B v' (l ++ [n]) ∧ W.grownBy W' v.ownBlock := by
  obtain ⟨i0, hi, hz0, hz1, hz2⟩ := info_parts node_info
  obtain ⟨Y, vs, hvl, hown, hel, hY⟩ := h
  have hadd : ∀ j, (⟨g, 0, none⟩ : Addr).add j = ⟨g, j, none⟩ := fun j => by unfold Addr.add; split <;> simp_all
  obtain ⟨v', w', hr, h2, h3, _, h5⟩ := run_append_own_at (P := Try.prog) W B 55 55 57 i0 (.agg #[.int .i64 0, .int .u64 0, .int .u64 0, .int .u64 0, .int .u64 0, .slice none 0 0]) 6 64 Try.underlying55 hi hz0 hz1 hz2 rfl (by omega) v l.length _ hown ⟨g, 0, none⟩ 1 c (cells6 x) (by simp [cells6]) (fun j u hu => by
    rw [hadd]
    have hj : j < 6 := by have := (List.getElem?_eq_some_iff.1 hu).1; simpa [cells6] using this
    have := hx ⟨j, hj⟩
    simp only [Nat.zero_mul, Nat.zero_add] at this
    rw [this, ← hu]
    have := cells6_get [x] 0 x ⟨j, hj⟩ rfl
    simpa using this.symm) (node_one hn) (by unfold maxLen; omega) (by omega) hB
  have hs := h3.size
  have same : ∀ Z : Nat → Prop, (∀ b, Z b → B ≤ b ∧ b < W.heap.size ∧ v.ownBlock ≠ some b) → SameOn W w' Z := fun Z hZ b hb hlt => h3.block b hlt (fun e => (hZ b hb).2.2 e.symm)
  refine ⟨v', w', hr, ⟨fun b => Y b ∨ X b, vs ++ [x], by simp [hvl], ?_, fun i m y hm hy => ?_, fun b hb => ?_⟩, h3⟩
  · rw [List.flatMap_append, List.length_append]
    simpa using h2
  · by_cases hi : i < l.length
    · rw [List.getElem?_append_left hi] at hm
      rw [List.getElem?_append_left (by omega)] at hy
      exact (NodeV.same (same Y hY) m _ (hel i m y hm hy)).mono (fun b hb => .inl hb) m _
    · rw [List.getElem?_append_right (by omega)] at hm
      rw [List.getElem?_append_right (by omega)] at hy
      have e0 : i - l.length = 0 := by
        have := (List.getElem?_eq_some_iff.1 hm).1
        simpa using this
      rw [e0] at hm
      rw [hvl, e0] at hy
      obtain rfl : n = m := by simpa using hm
      obtain rfl : x = y := by simpa using hy
      exact (NodeV.same (same X hX) n _ hn).mono (fun b hb => .inr hb) n _
  · have : B ≤ b ∧ b < W.heap.size ∧ v.ownBlock ≠ some b := hb.elim (hY b) (hX b)
    refine ⟨this.1, by omega, ?_⟩
    rcases h5 with e | e
    · rw [e]; exact this.2.2
    · rw [e]; intro e2; have := Option.some.inj e2; omega
end Go.Proofs.Ytnlfndhgdeapeaa
