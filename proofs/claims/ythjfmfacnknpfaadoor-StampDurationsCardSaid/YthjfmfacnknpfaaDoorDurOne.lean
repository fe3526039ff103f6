/- stamp.Duration: the walk at the label of the search. -/
import Derived.Test.YthjfmfacnknpfaaDoorDur
import Derived.Lib.Strings
namespace Go.Proofs.YthjfmfacnknpfaaDoor
open Go.RowKit
set_option maxRecDepth 100000
set_option maxHeartbeats 1000000

theorem tms_bd (c j : Nat) (hj : j < 5) : tms c j ≤ 1125899906842625 := by
  unfold tms
  by_cases h : c > 1125899906842624 / unitSize j
  · rw [if_pos h]; exact Nat.le_refl _
  · rw [if_neg h]
    have hz : 0 < unitSize j := by
      rcases (by omega : j = 0 ∨ j = 1 ∨ j = 2 ∨ j = 3 ∨ j = 4) with rfl | rfl | rfl | rfl | rfl <;> decide
    have h1 : c ≤ 1125899906842624 / unitSize j := by omega
    have := (Nat.le_div_iff_mul_le hz).1 h1
    omega
theorem tms_sat {c C : Nat} (j : Nat) (hj : j < 5) (h : Sat c C) : Sat (tms c j) (C * unitSize j) := by
  have hz : 0 < unitSize j := by
    rcases (by omega : j = 0 ∨ j = 1 ∨ j = 2 ∨ j = 3 ∨ j = 4) with rfl | rfl | rfl | rfl | rfl <;> decide
  have hge : C ≤ C * unitSize j := Nat.le_mul_of_pos_right C hz
  unfold tms
  by_cases hC : C ≤ 1125899906842624
  · have hc := h.1 hC
    subst hc
    by_cases hq : c > 1125899906842624 / unitSize j
    · rw [if_pos hq]
      have : 1125899906842624 < c * unitSize j := by
        rcases Nat.lt_or_ge 1125899906842624 (c * unitSize j) with h1 | h1
        · exact h1
        · have := (Nat.le_div_iff_mul_le hz).2 h1
          omega
      exact ⟨fun h => by omega, fun _ => by omega⟩
    · rw [if_neg hq]
      exact ⟨fun _ => rfl, fun h => h⟩
  · have hc := h.2 (by omega)
    have hq : c > 1125899906842624 / unitSize j := Nat.lt_of_le_of_lt (Nat.div_le_self _ _) hc
    rw [if_pos hq]
    exact ⟨fun h => by omega, fun _ => by omega⟩
theorem Sat.add {t T x X : Nat} (h : Sat t T) (k : Sat x X) : Sat (t + x) (T + X) := by
  refine ⟨fun hle => ?_, fun hlt => ?_⟩
  · rw [h.1 (by omega), k.1 (by omega)]
  · rcases Nat.lt_or_ge 1125899906842624 T with h1 | h1
    · have := h.2 h1; omega
    · rcases Nat.lt_or_ge 1125899906842624 X with h2 | h2
      · have := k.2 h2; omega
      · have := h.1 h1; have := k.1 h2; omega
theorem map_map_add (o : Option Nat) (T X : Nat) : (o.map (X + ·)).map (T + ·) = o.map (T + X + ·) := by
  cases o
  · rfl
  · simp [Nat.add_assoc]
theorem behind_map (C T j : Nat) (l : List UInt8) : (behind C l j).map (T + ·) = if l = [] then some (T + C * unitSize j) else (parts l (j + 1)).map (T + C * unitSize j + ·) := by
  unfold behind
  by_cases h : l = []
  · rw [if_pos h, if_pos h]; rfl
  · rw [if_neg h, if_neg h, map_map_add]
theorem drop_nil {s : ByteArray} {i : Nat} (h : s.size ≤ i) : s.data.toList.drop i = [] := List.drop_eq_nil_of_le (by simpa using h)
theorem drop_some {s : ByteArray} {i : Nat} (h : i < s.size) : s.data.toList.drop i = s[i] :: s.data.toList.drop (i + 1) := by
  rw [List.drop_eq_getElem_cons (by simpa using h)]; rfl
theorem take_snoc_at {s : ByteArray} {f i : Nat} (hf : f ≤ i) (h : i < s.size) : (s.data.toList.drop f).take (i - f) ++ [s[i]] = (s.data.toList.drop f).take (i + 1 - f) := by
  have h1 : i + 1 - f = (i - f) + 1 := by omega
  have h2 : i - f < (s.data.toList.drop f).length := by rw [List.length_drop]; have : s.data.toList.length = s.size := by simp
                                                        omega
  rw [h1, List.take_succ_eq_append_getElem h2]
  have h3 : f + (i - f) = i := by omega
  simp only [List.getElem_drop, h3]
  rfl
theorem dgt_bd {c : UInt8} (h : dgt c = true) : 48 ≤ c.toNat ∧ c.toNat ≤ 57 := by simpa [dgt] using h
theorem sat_step {c C d : Nat} (hc : c ≤ 1125899906842625) (h : Sat c C) (hd : d ≤ 9) : ∃ c2, c2 = min (c * 10 + d) 1125899906842625 ∧ c2 ≤ 1125899906842625 ∧ Sat c2 (10 * C + d) := by
  refine ⟨_, rfl, Nat.min_le_right _ _, fun hle => ?_, fun hlt => ?_⟩
  · have := h.1 (by omega)
    rw [Nat.min_eq_left (by omega)]; omega
  · rcases Nat.lt_or_ge 1125899906842624 C with h1 | h1
    · have := h.2 h1
      rw [Nat.min_eq_right (by omega)]; omega
    · have := h.1 h1
      subst this
      rcases Nat.le_total (c * 10 + d) 1125899906842625 with h2 | h2
      · rw [Nat.min_eq_left h2]; omega
      · rw [Nat.min_eq_right h2]; omega

/-- what the function tells -/
def DurPost (s : ByteArray) (w : World) (e : Ending) (w' : World) : Prop := e = .returned (.tuple #[.int .i64 (resV (durO s.data.toList)), .int .i64 (resE (durO s.data.toList))]) ∧ ∃ k, w' = w.drewN k
end Go.Proofs.YthjfmfacnknpfaaDoor
