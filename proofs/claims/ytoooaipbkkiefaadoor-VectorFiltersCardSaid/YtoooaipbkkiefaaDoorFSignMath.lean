/- Plain facts on signs of doubles. -/
import Derived.Test.YtoooaipbkkiefaaDoorFOrdMath
namespace Go.Proofs.YtoooaipbkkiefaaDoor.Fv

theorem absN_rung (a : Nat) (h : a < 2 ^ 64) : absN a = Flo.rung a := by
  have hk : kSign = ((2 ^ 63 : Nat) : Int) := rfl
  unfold absN Flo.rung
  rw [hk, u64_andNot_nat a (2 ^ 63) (by omega) (by omega)]
  rw [Int.toNat_natCast]
  have e : (18446744073709551615 - 2 ^ 63 : Nat) = 2 ^ 63 - 1 := by decide
  rw [e, Nat.and_two_pow_sub_one_eq_mod]
theorem rung_lt (a : Nat) : Flo.rung a < 2 ^ 63 := Nat.mod_lt _ (by decide)
theorem negN_eq (a : Nat) (h : a < 2 ^ 64) : negN a = (if Flo.sgn a then 0 else 2 ^ 63) + Flo.rung a := by
  have hk : kSign = ((2 ^ 63 : Nat) : Int) := rfl
  unfold negN
  rw [hk, u64_xor_nat a (2 ^ 63) (by omega) (by omega), Int.toNat_natCast]
  have hb := bits_of a h
  have hr := rung_lt a
  have key : ∀ r : Nat, r < 2 ^ 63 → (r ^^^ 2 ^ 63 = 2 ^ 63 + r) ∧ ((2 ^ 63 + r) ^^^ 2 ^ 63 = r) := by
    intro r hr
    have e1 : 2 ^ 63 + r = r ^^^ 2 ^ 63 := by
      apply Nat.eq_of_testBit_eq
      intro i
      rw [Nat.testBit_xor, Nat.testBit_two_pow]
      by_cases hi : i = 63
      · subst hi
        rw [Nat.testBit_two_pow_add_eq, Nat.testBit_lt_two_pow hr]; simp
      · by_cases hlt : i < 63
        · rw [Nat.testBit_two_pow_add_gt hlt, decide_eq_false (by omega : ¬ 63 = i), Bool.xor_false]
        · have h1 : (2 ^ 63 + r).testBit i = false := Nat.testBit_lt_two_pow (Nat.lt_of_lt_of_le (by omega : 2 ^ 63 + r < 2 ^ 64) (Nat.pow_le_pow_right (by omega) (by omega)))
          have h2 : r.testBit i = false := Nat.testBit_lt_two_pow (Nat.lt_of_lt_of_le hr (Nat.pow_le_pow_right (by omega) (by omega)))
          rw [h1, h2]; simp; omega
    refine ⟨e1.symm, ?_⟩
    rw [e1, Nat.xor_assoc, Nat.xor_self, Nat.xor_zero]
  cases hs : Flo.sgn a
  · rw [hs] at hb
    simp only [Bool.false_eq_true, if_false, Nat.zero_add] at hb ⊢
    rw [hb]
    have e2 : Flo.rung (Flo.rung a) = Flo.rung a := Nat.mod_eq_of_lt hr
    rw [e2]
    exact (key _ hr).1
  · rw [hs] at hb
    simp only [if_true, Nat.zero_add] at hb ⊢
    have e3 : a ^^^ 2 ^ 63 = Flo.rung a := by
      have := (key _ hr).2
      rw [← hb] at this
      exact this
    exact e3
theorem absN_lt (a : Nat) (h : a < 2 ^ 64) : absN a < 2 ^ 64 := by rw [absN_rung a h]; have := rung_lt a; omega
theorem negN_lt (a : Nat) (h : a < 2 ^ 64) : negN a < 2 ^ 64 := by rw [negN_eq a h]; have := rung_lt a; split <;> omega
theorem rung_abs (a : Nat) (h : a < 2 ^ 64) : Flo.rung (absN a) = Flo.rung a := by
  rw [absN_rung a h]; exact Nat.mod_eq_of_lt (rung_lt a)
theorem sgn_abs (a : Nat) (h : a < 2 ^ 64) : Flo.sgn (absN a) = false := by
  rw [absN_rung a h]; have := rung_lt a
  unfold Flo.sgn
  have e : Flo.rung a / 2 ^ 63 = 0 := Nat.div_eq_of_lt this
  rw [e]; rfl
theorem rung_neg (a : Nat) (h : a < 2 ^ 64) : Flo.rung (negN a) = Flo.rung a := by
  rw [negN_eq a h]; have := rung_lt a
  show (_ : Nat) % 2 ^ 63 = _
  split <;> omega
theorem sgn_neg (a : Nat) (h : a < 2 ^ 64) : Flo.sgn (negN a) = !Flo.sgn a := by
  rw [negN_eq a h]; have := rung_lt a
  cases hs : Flo.sgn a
  · simp only [Bool.false_eq_true, if_false, Bool.not_false]
    show ((2 ^ 63 + Flo.rung a) / 2 ^ 63 % 2 == 1) = true
    have e : (2 ^ 63 + Flo.rung a) / 2 ^ 63 = 1 := by omega
    rw [e]; rfl
  · simp only [if_true, Bool.not_true]
    show ((0 + Flo.rung a) / 2 ^ 63 % 2 == 1) = false
    have e : (0 + Flo.rung a) / 2 ^ 63 = 0 := by omega
    rw [e]; rfl
theorem nan_rung {a b : Nat} (h : Flo.rung a = Flo.rung b) : nanB a = nanB b := by
  rw [nanB_key, nanB_key]; unfold Flo.isNan; rw [h]
theorem nan_abs (a : Nat) (h : a < 2 ^ 64) : nanB (absN a) = nanB a := nan_rung (rung_abs a h)
theorem nan_neg (a : Nat) (h : a < 2 ^ 64) : nanB (negN a) = nanB a := nan_rung (rung_neg a h)
theorem key_abs (a : Nat) (h : a < 2 ^ 64) : Flo.key (absN a) = Flo.rung a := by
  rw [(key_sgn (absN a)).2 (sgn_abs a h), rung_abs a h]
theorem key_neg (a : Nat) (h : a < 2 ^ 64) : Flo.key (negN a) = -Flo.key a := by
  have k1 := key_sgn (negN a)
  have k2 := key_sgn a
  have hs := sgn_neg a h
  have hr := rung_neg a h
  cases e : Flo.sgn a
  · rw [e] at hs; rw [k1.1 hs, k2.2 e, hr]
  · rw [e] at hs; rw [k1.2 hs, k2.1 e, hr]; omega
theorem bits_ext {a b : Nat} (ha : a < 2 ^ 64) (hb : b < 2 ^ 64) (hs : Flo.sgn a = Flo.sgn b) (hr : Flo.rung a = Flo.rung b) : a = b := by
  rw [bits_of a ha, bits_of b hb, hs, hr]
theorem neg_neg (a : Nat) (h : a < 2 ^ 64) : negN (negN a) = a :=
  bits_ext (negN_lt _ (negN_lt a h)) h (by rw [sgn_neg _ (negN_lt a h), sgn_neg a h]; simp) (by rw [rung_neg _ (negN_lt a h), rung_neg a h])
theorem abs_neg (a : Nat) (h : a < 2 ^ 64) : absN (negN a) = absN a := by
  rw [absN_rung _ (negN_lt a h), rung_neg a h, absN_rung a h]
end Go.Proofs.YtoooaipbkkiefaaDoor.Fv
