/- Plain facts on signs of doubles. -/
import Derived.Test.YtllhkegefinlbaaGreatDoorFOps
import Derived.Deep.DeepMust
namespace Go.Proofs.YtllhkegefinlbaaGreatDoor.Fv
open Go.RowKit

theorem holds_rng {op : Int} (h : 5 ≤ op ∧ op ≤ 10) : op = 5 ∨ op = 6 ∨ op = 7 ∨ op = 8 ∨ op = 9 ∨ op = 10 := by omega

/-- a comparison with 0, as the walk says it -/
theorem gt0_walk {a : Nat} {c : Bool} (h : gtB a 0 = c) : (FloatKind.f64.format.order a 0 == some .gt) = c := h
theorem lt0_walk {a : Nat} {c : Bool} (h : ltB a 0 = c) : (FloatKind.f64.format.order a 0 == some .lt) = c := h
def sgV (v : Nat) : Nat := if gtB v 0 then one else if ltB v 0 then mone else v

end Go.Proofs.YtllhkegefinlbaaGreatDoor.Fv
namespace Go.Proofs.YtllhkegefinlbaaGreatDoor.Fv
open Go.RowKit
set_option maxHeartbeats 400000
set_option maxRecDepth 100000

theorem nanB_key (b : Nat) : nanB b = Flo.isNan b := by
  have e := Flo.order_key b b
  show (Ieee.double.order b b != some .eq) = _
  rw [e]
  cases h : Flo.isNan b
  · have c : compare (Flo.key b) (Flo.key b) = .eq := by simp
    rw [c]; rfl
  · simp

theorem add_nan {b : Nat} (v : Nat) (h : nanB b = true) : Ieee.double.add b v = none := by
  rw [nanB_key] at h
  have hr : 0x7FF0000000000000 < Flo.rung b := by simpa [Flo.isNan] using h
  rcases Flo.shape b with ⟨m, p, _, hx, _⟩ | ⟨hx, _⟩ | ⟨_, hrx⟩
  · omega
  · omega
  · unfold Ieee.Format.add
    rw [hrx]
    rfl

theorem kNaN_nan : nanB kNaN.toNat = true := by decide +kernel

def addC (c v : Nat) : Nat := canonO (Ieee.double.add c v)
theorem addC_canon {b c : Nat} (v : Nat) (h : canon b = c) : canonO (Ieee.double.add b v) = addC c v := by
  unfold addC
  cases hb : nanB b
  · have : canon b = b := by simp [canon, hb]
    rw [← h, this]
  · have h1 := add_nan v hb
    have h2 : c = kNaN.toNat := by rw [← h]; simp [canon, hb]
    have h3 := add_nan v (h2 ▸ kNaN_nan : nanB c = true)
    rw [h1, h3]
theorem addC_some {b c v r : Nat} (h : canon b = c) (ha : Ieee.double.add b v = some r) : canon r = addC c v := by
  rw [← addC_canon v h, ha]; rfl
theorem addC_none {b c v : Nat} (w : World) (h : canon b = c) (ha : Ieee.double.add b v = none) : canon (nanAt w b v) = addC c v := by
  rw [← addC_canon v h, ha, nanAt_canon]; rfl

/-- the sum from the left, of the first k + 1 -/
def sumF (x : Nat → Nat) : Nat → Nat
  | 0 => canon (x 0)
  | k + 1 => addC (sumF x k) (x (k + 1))

theorem sum_nil (w : World) :
    Calls Tryz.prog 49 #[.slice none 0 0] w fun e w' => e = .returned (.float .f64 0) ∧ ∃ n, w' = w.drewN n := by
  go_enter Tryz.func49, Tryz.ntmps49
  go_wp2
  go_ret
  exact ⟨rfl, 0, rfl⟩

theorem sum_one (b off cap : Nat) (x : Nat → Nat) (w : World) (ht : Tab w) (h1 : 1 ≤ cap)
    (c0 : w.cell? ⟨b, off, none⟩ = some (.float .f64 (x 0))) :
    Calls Tryz.prog 49 #[.slice (some ⟨b, off, none⟩) 1 cap] w fun e w' => e = .returned (.float .f64 (sumF x 0)) ∧ ∃ n, w' = w.drewN n := by
  by_cases hc : cap = 1
  · subst hc
    go_enter Tryz.func49, Tryz.ntmps49
    go_wp2
    refine wp_loop_rounds 1 ?_
    rw [rounds_succ]
    go_wp2_with (go_at_call 35; refine (canon_any _ _ ht).mono ?_; rintro e w' ⟨rfl, rfl⟩)
    go_ret
    exact ⟨rfl, 0, rfl⟩
  · have hc' : 1 < cap := by omega
    clear hc h1
    go_enter Tryz.func49, Tryz.ntmps49
    go_wp2
    refine wp_loop_rounds 1 ?_
    rw [rounds_succ]
    go_wp2_with (go_at_call 35; refine (canon_any _ _ ht).mono ?_; rintro e w' ⟨rfl, rfl⟩)
    go_ret
    exact ⟨rfl, 0, rfl⟩

theorem sum_any (b off m cap : Nat) (x : Nat → Nat) (w : World) (ht : Tab w) (h1 : 1 ≤ m) (hlc : m + 1 ≤ cap) (hm : cap ≤ maxLen)
    (hc : ∀ i, i ≤ m → w.cell? ⟨b, off + i, none⟩ = some (.float .f64 (x i))) :
    Calls Tryz.prog 49 #[.slice (some ⟨b, off, none⟩) (m + 1) cap] w fun e w' => e = .returned (.float .f64 (sumF x m)) ∧ ∃ n, w' = w.drewN n := by
  unfold maxLen at hm
  have c0 : w.cell? ⟨b, off, none⟩ = some (.float .f64 (x 0)) := hc 0 (by omega)
  have HC : Hid (∀ i, i < m → w.cell? ⟨b, off + 1 + i, none⟩ = some (.float .f64 (x (i + 1)))) := fun i hi => by
    have := hc (i + 1) (by omega)
    rw [show off + 1 + i = off + (i + 1) from by omega]; exact this
  have HT := Lib.hid ht; clear hc ht
  go_enter Tryz.func49, Tryz.ntmps49
  go_wp2
  go_loopw [3, 15] (fun s i wr => ∃ k : Nat, k ≤ m ∧ i = .int .i64 k ∧ (∃ c, s = .float .f64 c ∧ canon c = sumF x k) ∧ ∃ n, wr = w.drewN n) (fun _ i _ => m - (intOf i).toNat)
  case atStart => exact ⟨0, Nat.zero_le _, rfl, ⟨_, rfl, rfl⟩, 0, rfl⟩
  case round =>
    obtain ⟨k, hk, rfl, ⟨c, rfl, hcc⟩, n, rfl⟩ := hrel
    have HCC := Lib.hid hcc; clear hcc
    by_cases hlt : k < m
    · have hcell := HC.out k hlt
      cases ha : Ieee.double.add c (x (k + 1)) with
      | none =>
        have hr := fun t w => run_add_none (P := Tryz.prog) ha t w
        have HA := Lib.hid ha; clear ha
        go_wp2
        go_roundw
        case rel => exact ⟨k + 1, by omega, by go_num, ⟨_, rfl, addC_none _ HCC.out HA.out⟩, n + 1, rfl⟩
        case measure => simp [intOf]; omega
      | some r =>
        have hr := fun t w => run_add_some (P := Tryz.prog) ha t w
        have HA := Lib.hid ha; clear ha
        go_wp2
        go_roundw
        case rel => exact ⟨k + 1, by omega, by go_num, ⟨_, rfl, addC_some HCC.out HA.out⟩, n, rfl⟩
        case measure => simp [intOf]; omega
    · obtain rfl : k = m := by omega
      go_wp2_with (go_at_call 35; refine (canon_any _ _ (by exact HT.out.drewN _)).mono ?_; rintro e w' ⟨rfl, rfl⟩)
      go_ret
      exact ⟨by rw [HCC.out]; rfl, _, rfl⟩
end Go.Proofs.YtllhkegefinlbaaGreatDoor.Fv
namespace Go.Proofs.YtllhkegefinlbaaGreatDoor.Fv

theorem cmp_eq (x y : Int) : (some (compare x y) == some Ordering.eq) = decide (x = y) := by
  simp only [compare, compareOfLessAndEq]
  by_cases h1 : x < y
  · rw [if_pos h1, decide_eq_false (by omega)]; rfl
  · rw [if_neg h1]
    by_cases h2 : x = y
    · rw [if_pos h2, decide_eq_true h2]; rfl
    · rw [if_neg h2, decide_eq_false h2]; rfl
theorem cmp_lt (x y : Int) : (some (compare x y) == some Ordering.lt) = decide (x < y) := by
  simp only [compare, compareOfLessAndEq]
  by_cases h1 : x < y
  · rw [if_pos h1, decide_eq_true h1]; rfl
  · rw [if_neg h1, decide_eq_false h1]
    by_cases h2 : x = y
    · rw [if_pos h2]; rfl
    · rw [if_neg h2]; rfl
theorem cmp_gt (x y : Int) : (some (compare x y) == some Ordering.gt) = decide (y < x) := by
  simp only [compare, compareOfLessAndEq]
  by_cases h1 : x < y
  · rw [if_pos h1, decide_eq_false (by omega)]; rfl
  · rw [if_neg h1]
    by_cases h2 : x = y
    · rw [if_pos h2, decide_eq_false (by omega)]; rfl
    · rw [if_neg h2, decide_eq_true (by omega)]; rfl
theorem eqB_key (a b : Nat) : eqB a b = (!nanB a && !nanB b && decide (Flo.key a = Flo.key b)) := by
  rw [nanB_key, nanB_key]
  show (Ieee.double.order a b == some .eq) = _
  rw [Flo.order_key]
  cases Flo.isNan a <;> cases Flo.isNan b <;> first | exact cmp_eq _ _ | rfl
theorem ltB_key (a b : Nat) : ltB a b = (!nanB a && !nanB b && decide (Flo.key a < Flo.key b)) := by
  rw [nanB_key, nanB_key]
  show (Ieee.double.order a b == some .lt) = _
  rw [Flo.order_key]
  cases Flo.isNan a <;> cases Flo.isNan b <;> first | exact cmp_lt _ _ | rfl
theorem gtB_key (a b : Nat) : gtB a b = (!nanB a && !nanB b && decide (Flo.key b < Flo.key a)) := by
  rw [nanB_key, nanB_key]
  show (Ieee.double.order a b == some .gt) = _
  rw [Flo.order_key]
  cases Flo.isNan a <;> cases Flo.isNan b <;> first | exact cmp_gt _ _ | rfl

theorem tri {a b : Nat} (ha : nanB a = false) (hb : nanB b = false) :
    (eqB a b = true ∧ ltB a b = false ∧ gtB a b = false) ∨ (eqB a b = false ∧ ltB a b = true ∧ gtB a b = false) ∨ (eqB a b = false ∧ ltB a b = false ∧ gtB a b = true) := by
  simp only [eqB_key, ltB_key, gtB_key, ha, hb, Bool.not_false, Bool.true_and, decide_eq_true_eq, decide_eq_false_iff_not]
  omega
theorem nan_cmp {a b : Nat} (h : nanB a = true ∨ nanB b = true) : eqB a b = false ∧ ltB a b = false ∧ gtB a b = false := by
  simp only [eqB_key, ltB_key, gtB_key]
  rcases h with h | h <;> simp [h]

/-- the sign bit, as the walk has it, is the sign -/
theorem sgnB_key (a : Nat) (h : a < 2 ^ 64) : sgnB a = Flo.sgn a := by
  have hk : kSign = ((2 ^ 63 : Nat) : Int) := rfl
  unfold sgnB Flo.sgn
  rw [hk, u64_and_nat a (2 ^ 63) (by omega) (by omega), nat_bit]
  rcases (by omega : a / 2 ^ 63 % 2 = 0 ∨ a / 2 ^ 63 % 2 = 1) with e | e <;> rw [e] <;> decide
theorem canon_inj {a b : Nat} : sameB a b = decide (canon a = canon b) := by
  unfold sameB
  rw [Bool.eq_iff_iff, beq_iff_eq, decide_eq_true_iff]
  omega
theorem canon_num {a : Nat} (h : nanB a = false) : canon a = a := by simp [canon, h]
theorem canon_nan {a : Nat} (h : nanB a = true) : canon a = kNaN.toNat := by simp [canon, h]
end Go.Proofs.YtllhkegefinlbaaGreatDoor.Fv
namespace Go.Proofs.YtllhkegefinlbaaGreatDoor.Fv

/-- a value's place in the order of all -/
def tk (a : Nat) : Int := if nanB a then -(2 ^ 70) else 2 * Flo.key a - (if Flo.key a = 0 ∧ Flo.sgn a = true then 1 else 0)

theorem key_bd (a : Nat) : -(2 ^ 63) < Flo.key a ∧ Flo.key a < 2 ^ 63 := by
  have : Flo.rung a < 2 ^ 63 := Nat.mod_lt _ (by decide)
  unfold Flo.key
  split <;> omega
theorem key_sgn (a : Nat) : (Flo.sgn a = true → Flo.key a = -(Flo.rung a : Int)) ∧ (Flo.sgn a = false → Flo.key a = Flo.rung a) := by
  unfold Flo.key
  constructor <;> intro h <;> simp [h]
theorem bits_of (a : Nat) (h : a < 2 ^ 64) : a = (if Flo.sgn a then 2 ^ 63 else 0) + Flo.rung a := by
  unfold Flo.sgn Flo.rung
  rcases (by omega : a / 2 ^ 63 % 2 = 0 ∨ a / 2 ^ 63 % 2 = 1) with e | e <;> simp [e] <;> omega

theorem tk_lo {a : Nat} (h : nanB a = false) : -(2 ^ 65) < tk a := by
  have := key_bd a
  unfold tk
  rw [h]
  simp only [Bool.false_eq_true, if_false]
  split <;> omega
theorem tk_nan {a : Nat} (h : nanB a = true) : tk a = -(2 ^ 70) := by simp [tk, h]
theorem tk_num {a : Nat} (h : nanB a = false) : tk a = 2 * Flo.key a - (if Flo.key a = 0 ∧ Flo.sgn a = true then 1 else 0) := by simp [tk, h]

theorem befB_tk (a b : Nat) (ha : a < 2 ^ 64) (hb : b < 2 ^ 64) : befB a b = decide (tk a < tk b) := by
  unfold befB
  cases na : nanB a <;> cases nb : nanB b
  · simp only [Bool.or_self, Bool.false_eq_true, if_false]
    rw [eqB_key, ltB_key, na, nb, sgnB_key a ha, sgnB_key b hb, tk_num na, tk_num nb]
    simp only [Bool.not_false, Bool.true_and, decide_eq_true_eq]
    have k1 := key_sgn a
    have k2 := key_sgn b
    cases sa : Flo.sgn a <;> cases sb : Flo.sgn b
    all_goals
      rw [sa] at k1
      rw [sb] at k2
      simp only [Bool.false_eq_true, and_false, and_true, if_false, Bool.not_true, Bool.not_false, Bool.and_self, Bool.and_false, Bool.false_and]
      simp only [reduceCtorEq, false_implies, true_implies, true_and, and_true] at k1 k2
      by_cases e : Flo.key a = Flo.key b
      · rw [if_pos e]
        symm
        first
          | (apply decide_eq_false; (repeat' split) <;> omega)
          | (apply decide_eq_true; (repeat' split) <;> omega)
      · rw [if_neg e]
        congr 1
        apply propext
        (repeat' split) <;> omega
  · have := tk_lo na
    rw [tk_nan nb]
    symm
    simp only [Bool.false_or, if_true, Bool.not_true, Bool.and_false]
    exact decide_eq_false (by omega)
  · have := tk_lo nb
    rw [tk_nan na]
    symm
    simp only [Bool.true_or, if_true, Bool.not_false, Bool.and_true]
    exact decide_eq_true (by omega)
  · rw [tk_nan na, tk_nan nb]
    simp

theorem sameB_tk (a b : Nat) (ha : a < 2 ^ 64) (hb : b < 2 ^ 64) : sameB a b = decide (tk a = tk b) := by
  rw [canon_inj]
  congr 1
  apply propext
  cases na : nanB a <;> cases nb : nanB b
  · rw [canon_num na, canon_num nb, tk_num na, tk_num nb]
    have k1 := key_sgn a
    have k2 := key_sgn b
    have b1 := bits_of a ha
    have b2 := bits_of b hb
    constructor
    · intro h; rw [h]
    · intro h
      rw [b1, b2]
      cases sa : Flo.sgn a <;> cases sb : Flo.sgn b
      all_goals
        rw [sa] at k1 h
        rw [sb] at k2 h
        simp only [Bool.false_eq_true, and_false, and_true, if_false, if_true, reduceCtorEq, false_implies, true_implies, true_and] at k1 k2 h ⊢
        first
          | omega
          | (split at h <;> omega)
          | (split at h <;> split at h <;> omega)
  · have := tk_lo na
    rw [canon_num na, canon_nan nb, tk_nan nb]
    constructor
    · intro h
      have := kNaN_nan
      rw [← h, na] at this
      cases this
    · intro h; omega
  · have := tk_lo nb
    rw [canon_num nb, canon_nan na, tk_nan na]
    constructor
    · intro h
      have := kNaN_nan
      rw [h, nb] at this
      cases this
    · intro h; omega
  · rw [canon_nan na, canon_nan nb, tk_nan na, tk_nan nb]
    simp
end Go.Proofs.YtllhkegefinlbaaGreatDoor.Fv
namespace Go.Proofs.YtllhkegefinlbaaGreatDoor.Fv

theorem absN_rung (a : Nat) (h : a < 2 ^ 64) : absN a = Flo.rung a := by
  have hk : kSign = ((2 ^ 63 : Nat) : Int) := rfl
  unfold absN Flo.rung
  rw [hk, u64_andNot_nat a (2 ^ 63) (by omega) (by omega)]
  rw [Int.toNat_natCast]
  have e : (18446744073709551615 - 2 ^ 63 : Nat) = 2 ^ 63 - 1 := by decide
  rw [e, Nat.and_two_pow_sub_one_eq_mod]
theorem rung_lt (a : Nat) : Flo.rung a < 2 ^ 63 := Nat.mod_lt _ (by decide)
theorem negN_eq (a : Nat) (h : a < 2 ^ 64) : negN a = (if Flo.sgn a then 0 else 2 ^ 63) + Flo.rung a := by
  have hk : kSign = ((2 ^ 63 : Nat) : Int) := rfl
  unfold negN
  rw [hk, u64_xor_nat a (2 ^ 63) (by omega) (by omega), Int.toNat_natCast]
  have hb := bits_of a h
  have hr := rung_lt a
  have key : ∀ r : Nat, r < 2 ^ 63 → (r ^^^ 2 ^ 63 = 2 ^ 63 + r) ∧ ((2 ^ 63 + r) ^^^ 2 ^ 63 = r) := by
    intro r hr
    have e1 : 2 ^ 63 + r = r ^^^ 2 ^ 63 := by
      apply Nat.eq_of_testBit_eq
      intro i
      rw [Nat.testBit_xor, Nat.testBit_two_pow]
      by_cases hi : i = 63
      · subst hi
        rw [Nat.testBit_two_pow_add_eq, Nat.testBit_lt_two_pow hr]; simp
      · by_cases hlt : i < 63
        · rw [Nat.testBit_two_pow_add_gt hlt, decide_eq_false (by omega : ¬ 63 = i), Bool.xor_false]
        · have h1 : (2 ^ 63 + r).testBit i = false := Nat.testBit_lt_two_pow (Nat.lt_of_lt_of_le (by omega : 2 ^ 63 + r < 2 ^ 64) (Nat.pow_le_pow_right (by omega) (by omega)))
          have h2 : r.testBit i = false := Nat.testBit_lt_two_pow (Nat.lt_of_lt_of_le hr (Nat.pow_le_pow_right (by omega) (by omega)))
          rw [h1, h2]; simp; omega
    refine ⟨e1.symm, ?_⟩
    rw [e1, Nat.xor_assoc, Nat.xor_self, Nat.xor_zero]
  cases hs : Flo.sgn a
  · rw [hs] at hb
    simp only [Bool.false_eq_true, if_false, Nat.zero_add] at hb ⊢
    rw [hb]
    have e2 : Flo.rung (Flo.rung a) = Flo.rung a := Nat.mod_eq_of_lt hr
    rw [e2]
    exact (key _ hr).1
  · rw [hs] at hb
    simp only [if_true, Nat.zero_add] at hb ⊢
    have e3 : a ^^^ 2 ^ 63 = Flo.rung a := by
      have := (key _ hr).2
      rw [← hb] at this
      exact this
    exact e3
theorem absN_lt (a : Nat) (h : a < 2 ^ 64) : absN a < 2 ^ 64 := by rw [absN_rung a h]; have := rung_lt a; omega
theorem negN_lt (a : Nat) (h : a < 2 ^ 64) : negN a < 2 ^ 64 := by rw [negN_eq a h]; have := rung_lt a; split <;> omega
theorem rung_abs (a : Nat) (h : a < 2 ^ 64) : Flo.rung (absN a) = Flo.rung a := by
  rw [absN_rung a h]; exact Nat.mod_eq_of_lt (rung_lt a)
theorem sgn_abs (a : Nat) (h : a < 2 ^ 64) : Flo.sgn (absN a) = false := by
  rw [absN_rung a h]; have := rung_lt a
  unfold Flo.sgn
  have e : Flo.rung a / 2 ^ 63 = 0 := Nat.div_eq_of_lt this
  rw [e]; rfl
theorem rung_neg (a : Nat) (h : a < 2 ^ 64) : Flo.rung (negN a) = Flo.rung a := by
  rw [negN_eq a h]; have := rung_lt a
  show (_ : Nat) % 2 ^ 63 = _
  split <;> omega
theorem sgn_neg (a : Nat) (h : a < 2 ^ 64) : Flo.sgn (negN a) = !Flo.sgn a := by
  rw [negN_eq a h]; have := rung_lt a
  cases hs : Flo.sgn a
  · simp only [Bool.false_eq_true, if_false, Bool.not_false]
    show ((2 ^ 63 + Flo.rung a) / 2 ^ 63 % 2 == 1) = true
    have e : (2 ^ 63 + Flo.rung a) / 2 ^ 63 = 1 := by omega
    rw [e]; rfl
  · simp only [if_true, Bool.not_true]
    show ((0 + Flo.rung a) / 2 ^ 63 % 2 == 1) = false
    have e : (0 + Flo.rung a) / 2 ^ 63 = 0 := by omega
    rw [e]; rfl
theorem nan_rung {a b : Nat} (h : Flo.rung a = Flo.rung b) : nanB a = nanB b := by
  rw [nanB_key, nanB_key]; unfold Flo.isNan; rw [h]
theorem nan_abs (a : Nat) (h : a < 2 ^ 64) : nanB (absN a) = nanB a := nan_rung (rung_abs a h)
theorem nan_neg (a : Nat) (h : a < 2 ^ 64) : nanB (negN a) = nanB a := nan_rung (rung_neg a h)
theorem key_abs (a : Nat) (h : a < 2 ^ 64) : Flo.key (absN a) = Flo.rung a := by
  rw [(key_sgn (absN a)).2 (sgn_abs a h), rung_abs a h]
theorem key_neg (a : Nat) (h : a < 2 ^ 64) : Flo.key (negN a) = -Flo.key a := by
  have k1 := key_sgn (negN a)
  have k2 := key_sgn a
  have hs := sgn_neg a h
  have hr := rung_neg a h
  cases e : Flo.sgn a
  · rw [e] at hs; rw [k1.1 hs, k2.2 e, hr]
  · rw [e] at hs; rw [k1.2 hs, k2.1 e, hr]; omega
theorem bits_ext {a b : Nat} (ha : a < 2 ^ 64) (hb : b < 2 ^ 64) (hs : Flo.sgn a = Flo.sgn b) (hr : Flo.rung a = Flo.rung b) : a = b := by
  rw [bits_of a ha, bits_of b hb, hs, hr]
theorem neg_neg (a : Nat) (h : a < 2 ^ 64) : negN (negN a) = a :=
  bits_ext (negN_lt _ (negN_lt a h)) h (by rw [sgn_neg _ (negN_lt a h), sgn_neg a h]; simp) (by rw [rung_neg _ (negN_lt a h), rung_neg a h])
theorem abs_neg (a : Nat) (h : a < 2 ^ 64) : absN (negN a) = absN a := by
  rw [absN_rung _ (negN_lt a h), rung_neg a h, absN_rung a h]
end Go.Proofs.YtllhkegefinlbaaGreatDoor.Fv
