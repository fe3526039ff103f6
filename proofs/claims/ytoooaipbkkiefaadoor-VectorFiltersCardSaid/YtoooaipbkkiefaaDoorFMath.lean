/- Plain facts on comparisons of doubles, by their keys. -/
import Derived.Test.YtoooaipbkkiefaaDoorFSum
namespace Go.Proofs.YtoooaipbkkiefaaDoor.Fv

theorem cmp_eq (x y : Int) : (some (compare x y) == some Ordering.eq) = decide (x = y) := by
  simp only [compare, compareOfLessAndEq]
  by_cases h1 : x < y
  · rw [if_pos h1, decide_eq_false (by omega)]; rfl
  · rw [if_neg h1]
    by_cases h2 : x = y
    · rw [if_pos h2, decide_eq_true h2]; rfl
    · rw [if_neg h2, decide_eq_false h2]; rfl
theorem cmp_lt (x y : Int) : (some (compare x y) == some Ordering.lt) = decide (x < y) := by
  simp only [compare, compareOfLessAndEq]
  by_cases h1 : x < y
  · rw [if_pos h1, decide_eq_true h1]; rfl
  · rw [if_neg h1, decide_eq_false h1]
    by_cases h2 : x = y
    · rw [if_pos h2]; rfl
    · rw [if_neg h2]; rfl
theorem cmp_gt (x y : Int) : (some (compare x y) == some Ordering.gt) = decide (y < x) := by
  simp only [compare, compareOfLessAndEq]
  by_cases h1 : x < y
  · rw [if_pos h1, decide_eq_false (by omega)]; rfl
  · rw [if_neg h1]
    by_cases h2 : x = y
    · rw [if_pos h2, decide_eq_false (by omega)]; rfl
    · rw [if_neg h2, decide_eq_true (by omega)]; rfl
theorem eqB_key (a b : Nat) : eqB a b = (!nanB a && !nanB b && decide (Flo.key a = Flo.key b)) := by
  rw [nanB_key, nanB_key]
  show (Ieee.double.order a b == some .eq) = _
  rw [Flo.order_key]
  cases Flo.isNan a <;> cases Flo.isNan b <;> first | exact cmp_eq _ _ | rfl
theorem ltB_key (a b : Nat) : ltB a b = (!nanB a && !nanB b && decide (Flo.key a < Flo.key b)) := by
  rw [nanB_key, nanB_key]
  show (Ieee.double.order a b == some .lt) = _
  rw [Flo.order_key]
  cases Flo.isNan a <;> cases Flo.isNan b <;> first | exact cmp_lt _ _ | rfl
theorem gtB_key (a b : Nat) : gtB a b = (!nanB a && !nanB b && decide (Flo.key b < Flo.key a)) := by
  rw [nanB_key, nanB_key]
  show (Ieee.double.order a b == some .gt) = _
  rw [Flo.order_key]
  cases Flo.isNan a <;> cases Flo.isNan b <;> first | exact cmp_gt _ _ | rfl

theorem tri {a b : Nat} (ha : nanB a = false) (hb : nanB b = false) :
    (eqB a b = true ∧ ltB a b = false ∧ gtB a b = false) ∨ (eqB a b = false ∧ ltB a b = true ∧ gtB a b = false) ∨ (eqB a b = false ∧ ltB a b = false ∧ gtB a b = true) := by
  simp only [eqB_key, ltB_key, gtB_key, ha, hb, Bool.not_false, Bool.true_and, decide_eq_true_eq, decide_eq_false_iff_not]
  omega
theorem nan_cmp {a b : Nat} (h : nanB a = true ∨ nanB b = true) : eqB a b = false ∧ ltB a b = false ∧ gtB a b = false := by
  simp only [eqB_key, ltB_key, gtB_key]
  rcases h with h | h <;> simp [h]

/-- the sign bit, as the walk has it, is the sign -/
theorem sgnB_key (a : Nat) (h : a < 2 ^ 64) : sgnB a = Flo.sgn a := by
  have hk : kSign = ((2 ^ 63 : Nat) : Int) := rfl
  unfold sgnB Flo.sgn
  rw [hk, u64_and_nat a (2 ^ 63) (by omega) (by omega), nat_bit]
  rcases (by omega : a / 2 ^ 63 % 2 = 0 ∨ a / 2 ^ 63 % 2 = 1) with e | e <;> rw [e] <;> decide
theorem canon_inj {a b : Nat} : sameB a b = decide (canon a = canon b) := by
  unfold sameB
  rw [Bool.eq_iff_iff, beq_iff_eq, decide_eq_true_iff]
  omega
theorem canon_num {a : Nat} (h : nanB a = false) : canon a = a := by simp [canon, h]
theorem canon_nan {a : Nat} (h : nanB a = true) : canon a = kNaN.toNat := by simp [canon, h]
end Go.Proofs.YtoooaipbkkiefaaDoor.Fv
