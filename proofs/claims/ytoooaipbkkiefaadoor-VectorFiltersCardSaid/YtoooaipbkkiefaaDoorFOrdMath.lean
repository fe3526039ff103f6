/- The order of all values is the order of one whole number each. -/
import Derived.Test.YtoooaipbkkiefaaDoorFMath
namespace Go.Proofs.YtoooaipbkkiefaaDoor.Fv

/-- a value's place in the order of all -/
def tk (a : Nat) : Int := if nanB a then -(2 ^ 70) else 2 * Flo.key a - (if Flo.key a = 0 ∧ Flo.sgn a = true then 1 else 0)

theorem key_bd (a : Nat) : -(2 ^ 63) < Flo.key a ∧ Flo.key a < 2 ^ 63 := by
  have : Flo.rung a < 2 ^ 63 := Nat.mod_lt _ (by decide)
  unfold Flo.key
  split <;> omega
theorem key_sgn (a : Nat) : (Flo.sgn a = true → Flo.key a = -(Flo.rung a : Int)) ∧ (Flo.sgn a = false → Flo.key a = Flo.rung a) := by
  unfold Flo.key
  constructor <;> intro h <;> simp [h]
theorem bits_of (a : Nat) (h : a < 2 ^ 64) : a = (if Flo.sgn a then 2 ^ 63 else 0) + Flo.rung a := by
  unfold Flo.sgn Flo.rung
  rcases (by omega : a / 2 ^ 63 % 2 = 0 ∨ a / 2 ^ 63 % 2 = 1) with e | e <;> simp [e] <;> omega

theorem tk_lo {a : Nat} (h : nanB a = false) : -(2 ^ 65) < tk a := by
  have := key_bd a
  unfold tk
  rw [h]
  simp only [Bool.false_eq_true, if_false]
  split <;> omega
theorem tk_nan {a : Nat} (h : nanB a = true) : tk a = -(2 ^ 70) := by simp [tk, h]
theorem tk_num {a : Nat} (h : nanB a = false) : tk a = 2 * Flo.key a - (if Flo.key a = 0 ∧ Flo.sgn a = true then 1 else 0) := by simp [tk, h]

theorem befB_tk (a b : Nat) (ha : a < 2 ^ 64) (hb : b < 2 ^ 64) : befB a b = decide (tk a < tk b) := by
  unfold befB
  cases na : nanB a <;> cases nb : nanB b
  · simp only [Bool.or_self, Bool.false_eq_true, if_false]
    rw [eqB_key, ltB_key, na, nb, sgnB_key a ha, sgnB_key b hb, tk_num na, tk_num nb]
    simp only [Bool.not_false, Bool.true_and, decide_eq_true_eq]
    have k1 := key_sgn a
    have k2 := key_sgn b
    cases sa : Flo.sgn a <;> cases sb : Flo.sgn b
    all_goals
      rw [sa] at k1
      rw [sb] at k2
      simp only [Bool.false_eq_true, and_false, and_true, if_false, Bool.not_true, Bool.not_false, Bool.and_self, Bool.and_false, Bool.false_and]
      simp only [reduceCtorEq, false_implies, true_implies, true_and, and_true] at k1 k2
      by_cases e : Flo.key a = Flo.key b
      · rw [if_pos e]
        symm
        first
          | (apply decide_eq_false; (repeat' split) <;> omega)
          | (apply decide_eq_true; (repeat' split) <;> omega)
      · rw [if_neg e]
        congr 1
        apply propext
        (repeat' split) <;> omega
  · have := tk_lo na
    rw [tk_nan nb]
    symm
    simp only [Bool.false_or, if_true, Bool.not_true, Bool.and_false]
    exact decide_eq_false (by omega)
  · have := tk_lo nb
    rw [tk_nan na]
    symm
    simp only [Bool.true_or, if_true, Bool.not_false, Bool.and_true]
    exact decide_eq_true (by omega)
  · rw [tk_nan na, tk_nan nb]
    simp

theorem sameB_tk (a b : Nat) (ha : a < 2 ^ 64) (hb : b < 2 ^ 64) : sameB a b = decide (tk a = tk b) := by
  rw [canon_inj]
  congr 1
  apply propext
  cases na : nanB a <;> cases nb : nanB b
  · rw [canon_num na, canon_num nb, tk_num na, tk_num nb]
    have k1 := key_sgn a
    have k2 := key_sgn b
    have b1 := bits_of a ha
    have b2 := bits_of b hb
    constructor
    · intro h; rw [h]
    · intro h
      rw [b1, b2]
      cases sa : Flo.sgn a <;> cases sb : Flo.sgn b
      all_goals
        rw [sa] at k1 h
        rw [sb] at k2 h
        simp only [Bool.false_eq_true, and_false, and_true, if_false, if_true, reduceCtorEq, false_implies, true_implies, true_and] at k1 k2 h ⊢
        first
          | omega
          | (split at h <;> omega)
          | (split at h <;> split at h <;> omega)
  · have := tk_lo na
    rw [canon_num na, canon_nan nb, tk_nan nb]
    constructor
    · intro h
      have := kNaN_nan
      rw [← h, na] at this
      cases this
    · intro h; omega
  · have := tk_lo nb
    rw [canon_num nb, canon_nan na, tk_nan na]
    constructor
    · intro h
      have := kNaN_nan
      rw [h, nb] at this
      cases this
    · intro h; omega
  · rw [canon_nan na, canon_nan nb, tk_nan na, tk_nan nb]
    simp
end Go.Proofs.YtoooaipbkkiefaaDoor.Fv
