/- Plain facts on signs of doubles. -/
import Derived.Test.YtihiklmomhhdbaaDoorFSum
namespace Go.Proofs.YtihiklmomhhdbaaDoor.Fv

theorem cmp_eq (x y : Int) : (some (compare x y) == some Ordering.eq) = decide (x = y) := by
  simp only [compare, compareOfLessAndEq]
  by_cases h1 : x < y
  · rw [if_pos h1, decide_eq_false (by omega)]; rfl
  · rw [if_neg h1]
    by_cases h2 : x = y
    · rw [if_pos h2, decide_eq_true h2]; rfl
    · rw [if_neg h2, decide_eq_false h2]; rfl
theorem cmp_lt (x y : Int) : (some (compare x y) == some Ordering.lt) = decide (x < y) := by
  simp only [compare, compareOfLessAndEq]
  by_cases h1 : x < y
  · rw [if_pos h1, decide_eq_true h1]; rfl
  · rw [if_neg h1, decide_eq_false h1]
    by_cases h2 : x = y
    · rw [if_pos h2]; rfl
    · rw [if_neg h2]; rfl
theorem cmp_gt (x y : Int) : (some (compare x y) == some Ordering.gt) = decide (y < x) := by
  simp only [compare, compareOfLessAndEq]
  by_cases h1 : x < y
  · rw [if_pos h1, decide_eq_false (by omega)]; rfl
  · rw [if_neg h1]
    by_cases h2 : x = y
    · rw [if_pos h2, decide_eq_false (by omega)]; rfl
    · rw [if_neg h2, decide_eq_true (by omega)]; rfl
theorem eqB_key (a b : Nat) : eqB a b = (!nanB a && !nanB b && decide (Flo.key a = Flo.key b)) := by
  rw [nanB_key, nanB_key]
  show (Ieee.double.order a b == some .eq) = _
  rw [Flo.order_key]
  cases Flo.isNan a <;> cases Flo.isNan b <;> first | exact cmp_eq _ _ | rfl
theorem ltB_key (a b : Nat) : ltB a b = (!nanB a && !nanB b && decide (Flo.key a < Flo.key b)) := by
  rw [nanB_key, nanB_key]
  show (Ieee.double.order a b == some .lt) = _
  rw [Flo.order_key]
  cases Flo.isNan a <;> cases Flo.isNan b <;> first | exact cmp_lt _ _ | rfl
theorem gtB_key (a b : Nat) : gtB a b = (!nanB a && !nanB b && decide (Flo.key b < Flo.key a)) := by
  rw [nanB_key, nanB_key]
  show (Ieee.double.order a b == some .gt) = _
  rw [Flo.order_key]
  cases Flo.isNan a <;> cases Flo.isNan b <;> first | exact cmp_gt _ _ | rfl

theorem tri {a b : Nat} (ha : nanB a = false) (hb : nanB b = false) :
    (eqB a b = true ∧ ltB a b = false ∧ gtB a b = false) ∨ (eqB a b = false ∧ ltB a b = true ∧ gtB a b = false) ∨ (eqB a b = false ∧ ltB a b = false ∧ gtB a b = true) := by
  simp only [eqB_key, ltB_key, gtB_key, ha, hb, Bool.not_false, Bool.true_and, decide_eq_true_eq, decide_eq_false_iff_not]
  omega
theorem nan_cmp {a b : Nat} (h : nanB a = true ∨ nanB b = true) : eqB a b = false ∧ ltB a b = false ∧ gtB a b = false := by
  simp only [eqB_key, ltB_key, gtB_key]
  rcases h with h | h <;> simp [h]

/-- the sign bit, as the walk has it, is the sign -/
theorem sgnB_key (a : Nat) (h : a < 2 ^ 64) : sgnB a = Flo.sgn a := by
  have hk : kSign = ((2 ^ 63 : Nat) : Int) := rfl
  unfold sgnB Flo.sgn
  rw [hk, u64_and_nat a (2 ^ 63) (by omega) (by omega), nat_bit]
  rcases (by omega : a / 2 ^ 63 % 2 = 0 ∨ a / 2 ^ 63 % 2 = 1) with e | e <;> rw [e] <;> decide
theorem canon_inj {a b : Nat} : sameB a b = decide (canon a = canon b) := by
  unfold sameB
  rw [Bool.eq_iff_iff, beq_iff_eq, decide_eq_true_iff]
  omega
theorem canon_num {a : Nat} (h : nanB a = false) : canon a = a := by simp [canon, h]
theorem canon_nan {a : Nat} (h : nanB a = true) : canon a = kNaN.toNat := by simp [canon, h]
end Go.Proofs.YtihiklmomhhdbaaDoor.Fv
namespace Go.Proofs.YtihiklmomhhdbaaDoor.Fv

/-- a value's place in the order of all -/
def tk (a : Nat) : Int := if nanB a then -(2 ^ 70) else 2 * Flo.key a - (if Flo.key a = 0 ∧ Flo.sgn a = true then 1 else 0)

theorem key_bd (a : Nat) : -(2 ^ 63) < Flo.key a ∧ Flo.key a < 2 ^ 63 := by
  have : Flo.rung a < 2 ^ 63 := Nat.mod_lt _ (by decide)
  unfold Flo.key
  split <;> omega
theorem key_sgn (a : Nat) : (Flo.sgn a = true → Flo.key a = -(Flo.rung a : Int)) ∧ (Flo.sgn a = false → Flo.key a = Flo.rung a) := by
  unfold Flo.key
  constructor <;> intro h <;> simp [h]
theorem bits_of (a : Nat) (h : a < 2 ^ 64) : a = (if Flo.sgn a then 2 ^ 63 else 0) + Flo.rung a := by
  unfold Flo.sgn Flo.rung
  rcases (by omega : a / 2 ^ 63 % 2 = 0 ∨ a / 2 ^ 63 % 2 = 1) with e | e <;> simp [e] <;> omega

theorem tk_lo {a : Nat} (h : nanB a = false) : -(2 ^ 65) < tk a := by
  have := key_bd a
  unfold tk
  rw [h]
  simp only [Bool.false_eq_true, if_false]
  split <;> omega
theorem tk_nan {a : Nat} (h : nanB a = true) : tk a = -(2 ^ 70) := by simp [tk, h]
theorem tk_num {a : Nat} (h : nanB a = false) : tk a = 2 * Flo.key a - (if Flo.key a = 0 ∧ Flo.sgn a = true then 1 else 0) := by simp [tk, h]

theorem befB_tk (a b : Nat) (ha : a < 2 ^ 64) (hb : b < 2 ^ 64) : befB a b = decide (tk a < tk b) := by
  unfold befB
  cases na : nanB a <;> cases nb : nanB b
  · simp only [Bool.or_self, Bool.false_eq_true, if_false]
    rw [eqB_key, ltB_key, na, nb, sgnB_key a ha, sgnB_key b hb, tk_num na, tk_num nb]
    simp only [Bool.not_false, Bool.true_and, decide_eq_true_eq]
    have k1 := key_sgn a
    have k2 := key_sgn b
    cases sa : Flo.sgn a <;> cases sb : Flo.sgn b
    all_goals
      rw [sa] at k1
      rw [sb] at k2
      simp only [Bool.false_eq_true, and_false, and_true, if_false, Bool.not_true, Bool.not_false, Bool.and_self, Bool.and_false, Bool.false_and]
      simp only [reduceCtorEq, false_implies, true_implies, true_and, and_true] at k1 k2
      by_cases e : Flo.key a = Flo.key b
      · rw [if_pos e]
        symm
        first
          | (apply decide_eq_false; (repeat' split) <;> omega)
          | (apply decide_eq_true; (repeat' split) <;> omega)
      · rw [if_neg e]
        congr 1
        apply propext
        (repeat' split) <;> omega
  · have := tk_lo na
    rw [tk_nan nb]
    symm
    simp only [Bool.false_or, if_true, Bool.not_true, Bool.and_false]
    exact decide_eq_false (by omega)
  · have := tk_lo nb
    rw [tk_nan na]
    symm
    simp only [Bool.true_or, if_true, Bool.not_false, Bool.and_true]
    exact decide_eq_true (by omega)
  · rw [tk_nan na, tk_nan nb]
    simp

theorem sameB_tk (a b : Nat) (ha : a < 2 ^ 64) (hb : b < 2 ^ 64) : sameB a b = decide (tk a = tk b) := by
  rw [canon_inj]
  congr 1
  apply propext
  cases na : nanB a <;> cases nb : nanB b
  · rw [canon_num na, canon_num nb, tk_num na, tk_num nb]
    have k1 := key_sgn a
    have k2 := key_sgn b
    have b1 := bits_of a ha
    have b2 := bits_of b hb
    constructor
    · intro h; rw [h]
    · intro h
      rw [b1, b2]
      cases sa : Flo.sgn a <;> cases sb : Flo.sgn b
      all_goals
        rw [sa] at k1 h
        rw [sb] at k2 h
        simp only [Bool.false_eq_true, and_false, and_true, if_false, if_true, reduceCtorEq, false_implies, true_implies, true_and] at k1 k2 h ⊢
        first
          | omega
          | (split at h <;> omega)
          | (split at h <;> split at h <;> omega)
  · have := tk_lo na
    rw [canon_num na, canon_nan nb, tk_nan nb]
    constructor
    · intro h
      have := kNaN_nan
      rw [← h, na] at this
      cases this
    · intro h; omega
  · have := tk_lo nb
    rw [canon_num nb, canon_nan na, tk_nan na]
    constructor
    · intro h
      have := kNaN_nan
      rw [h, nb] at this
      cases this
    · intro h; omega
  · rw [canon_nan na, canon_nan nb, tk_nan na, tk_nan nb]
    simp
end Go.Proofs.YtihiklmomhhdbaaDoor.Fv
namespace Go.Proofs.YtihiklmomhhdbaaDoor.Fv

theorem absN_rung (a : Nat) (h : a < 2 ^ 64) : absN a = Flo.rung a := by
  have hk : kSign = ((2 ^ 63 : Nat) : Int) := rfl
  unfold absN Flo.rung
  rw [hk, u64_andNot_nat a (2 ^ 63) (by omega) (by omega)]
  rw [Int.toNat_natCast]
  have e : (18446744073709551615 - 2 ^ 63 : Nat) = 2 ^ 63 - 1 := by decide
  rw [e, Nat.and_two_pow_sub_one_eq_mod]
theorem rung_lt (a : Nat) : Flo.rung a < 2 ^ 63 := Nat.mod_lt _ (by decide)
theorem negN_eq (a : Nat) (h : a < 2 ^ 64) : negN a = (if Flo.sgn a then 0 else 2 ^ 63) + Flo.rung a := by
  have hk : kSign = ((2 ^ 63 : Nat) : Int) := rfl
  unfold negN
  rw [hk, u64_xor_nat a (2 ^ 63) (by omega) (by omega), Int.toNat_natCast]
  have hb := bits_of a h
  have hr := rung_lt a
  have key : ∀ r : Nat, r < 2 ^ 63 → (r ^^^ 2 ^ 63 = 2 ^ 63 + r) ∧ ((2 ^ 63 + r) ^^^ 2 ^ 63 = r) := by
    intro r hr
    have e1 : 2 ^ 63 + r = r ^^^ 2 ^ 63 := by
      apply Nat.eq_of_testBit_eq
      intro i
      rw [Nat.testBit_xor, Nat.testBit_two_pow]
      by_cases hi : i = 63
      · subst hi
        rw [Nat.testBit_two_pow_add_eq, Nat.testBit_lt_two_pow hr]; simp
      · by_cases hlt : i < 63
        · rw [Nat.testBit_two_pow_add_gt hlt, decide_eq_false (by omega : ¬ 63 = i), Bool.xor_false]
        · have h1 : (2 ^ 63 + r).testBit i = false := Nat.testBit_lt_two_pow (Nat.lt_of_lt_of_le (by omega : 2 ^ 63 + r < 2 ^ 64) (Nat.pow_le_pow_right (by omega) (by omega)))
          have h2 : r.testBit i = false := Nat.testBit_lt_two_pow (Nat.lt_of_lt_of_le hr (Nat.pow_le_pow_right (by omega) (by omega)))
          rw [h1, h2]; simp; omega
    refine ⟨e1.symm, ?_⟩
    rw [e1, Nat.xor_assoc, Nat.xor_self, Nat.xor_zero]
  cases hs : Flo.sgn a
  · rw [hs] at hb
    simp only [Bool.false_eq_true, if_false, Nat.zero_add] at hb ⊢
    rw [hb]
    have e2 : Flo.rung (Flo.rung a) = Flo.rung a := Nat.mod_eq_of_lt hr
    rw [e2]
    exact (key _ hr).1
  · rw [hs] at hb
    simp only [if_true, Nat.zero_add] at hb ⊢
    have e3 : a ^^^ 2 ^ 63 = Flo.rung a := by
      have := (key _ hr).2
      rw [← hb] at this
      exact this
    exact e3
theorem absN_lt (a : Nat) (h : a < 2 ^ 64) : absN a < 2 ^ 64 := by rw [absN_rung a h]; have := rung_lt a; omega
theorem negN_lt (a : Nat) (h : a < 2 ^ 64) : negN a < 2 ^ 64 := by rw [negN_eq a h]; have := rung_lt a; split <;> omega
theorem rung_abs (a : Nat) (h : a < 2 ^ 64) : Flo.rung (absN a) = Flo.rung a := by
  rw [absN_rung a h]; exact Nat.mod_eq_of_lt (rung_lt a)
theorem sgn_abs (a : Nat) (h : a < 2 ^ 64) : Flo.sgn (absN a) = false := by
  rw [absN_rung a h]; have := rung_lt a
  unfold Flo.sgn
  have e : Flo.rung a / 2 ^ 63 = 0 := Nat.div_eq_of_lt this
  rw [e]; rfl
theorem rung_neg (a : Nat) (h : a < 2 ^ 64) : Flo.rung (negN a) = Flo.rung a := by
  rw [negN_eq a h]; have := rung_lt a
  show (_ : Nat) % 2 ^ 63 = _
  split <;> omega
theorem sgn_neg (a : Nat) (h : a < 2 ^ 64) : Flo.sgn (negN a) = !Flo.sgn a := by
  rw [negN_eq a h]; have := rung_lt a
  cases hs : Flo.sgn a
  · simp only [Bool.false_eq_true, if_false, Bool.not_false]
    show ((2 ^ 63 + Flo.rung a) / 2 ^ 63 % 2 == 1) = true
    have e : (2 ^ 63 + Flo.rung a) / 2 ^ 63 = 1 := by omega
    rw [e]; rfl
  · simp only [if_true, Bool.not_true]
    show ((0 + Flo.rung a) / 2 ^ 63 % 2 == 1) = false
    have e : (0 + Flo.rung a) / 2 ^ 63 = 0 := by omega
    rw [e]; rfl
theorem nan_rung {a b : Nat} (h : Flo.rung a = Flo.rung b) : nanB a = nanB b := by
  rw [nanB_key, nanB_key]; unfold Flo.isNan; rw [h]
theorem nan_abs (a : Nat) (h : a < 2 ^ 64) : nanB (absN a) = nanB a := nan_rung (rung_abs a h)
theorem nan_neg (a : Nat) (h : a < 2 ^ 64) : nanB (negN a) = nanB a := nan_rung (rung_neg a h)
theorem key_abs (a : Nat) (h : a < 2 ^ 64) : Flo.key (absN a) = Flo.rung a := by
  rw [(key_sgn (absN a)).2 (sgn_abs a h), rung_abs a h]
theorem key_neg (a : Nat) (h : a < 2 ^ 64) : Flo.key (negN a) = -Flo.key a := by
  have k1 := key_sgn (negN a)
  have k2 := key_sgn a
  have hs := sgn_neg a h
  have hr := rung_neg a h
  cases e : Flo.sgn a
  · rw [e] at hs; rw [k1.1 hs, k2.2 e, hr]
  · rw [e] at hs; rw [k1.2 hs, k2.1 e, hr]; omega
theorem bits_ext {a b : Nat} (ha : a < 2 ^ 64) (hb : b < 2 ^ 64) (hs : Flo.sgn a = Flo.sgn b) (hr : Flo.rung a = Flo.rung b) : a = b := by
  rw [bits_of a ha, bits_of b hb, hs, hr]
theorem neg_neg (a : Nat) (h : a < 2 ^ 64) : negN (negN a) = a :=
  bits_ext (negN_lt _ (negN_lt a h)) h (by rw [sgn_neg _ (negN_lt a h), sgn_neg a h]; simp) (by rw [rung_neg _ (negN_lt a h), rung_neg a h])
theorem abs_neg (a : Nat) (h : a < 2 ^ 64) : absN (negN a) = absN a := by
  rw [absN_rung _ (negN_lt a h), rung_neg a h, absN_rung a h]
end Go.Proofs.YtihiklmomhhdbaaDoor.Fv
