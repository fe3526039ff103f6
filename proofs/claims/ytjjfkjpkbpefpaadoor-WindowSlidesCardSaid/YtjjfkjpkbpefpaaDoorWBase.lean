/- Values as bits: what the operations give, whatever NaN the machine chooses; the contracts of package fval's functions that wave calls, and of the reference's. -/
import Derived.Test.YtjjfkjpkbpefpaaDoorProg
import Derived.Test.YtjjfkjpkbpefpaaDoorWInt
import Derived.WalkKit
import Derived.WalkLawsBesides
import Derived.Handy
import Derived.Laws.BitsAllLaws
import Derived.Deep.QuietTactic
import Derived.BigQuiet
import Derived.Lib.Hide
import Derived.Deep.DeepMust
import Derived.Deep.RegionWith
namespace Go.Proofs.YtjjfkjpkbpefpaaDoor
open Go.RowKit
set_option maxRecDepth 100000
set_option maxHeartbeats 1000000

def kNaN : Int := 9221120237041090561
def kStale : Int := 9218868437227405314
def kInf : Int := 9218868437227405312
def kSign : Int := 9223372036854775808

@[go_sem] theorem run_from (n : Int) (w : World) : (callFunc 58 #[.int .u64 n]).run Tryd.prog w = .ok (.value (.float .f64 n.toNat)) w := by
  rw [run_callFunc_extern Tryd.func58 (by kernel_rfl) (by kernel_rfl) (by kernel_rfl) (e := Extern.MathFloatBits.float64frombits) (by kernel_rfl)]; rfl
@[go_sem] theorem run_bits (b : Nat) (w : World) : (callFunc 14 #[.float .f64 b]).run Tryd.prog w = .ok (.value (.int .u64 b)) w := by
  rw [run_callFunc_extern Tryd.func14 (by kernel_rfl) (by kernel_rfl) (by kernel_rfl) (e := Extern.MathFloatBits.float64bits) (by kernel_rfl)]; rfl

/-- the cells of the program's table of bits -/
structure Tab (w : World) : Prop where
  c0 : w.cell? ⟨2, 0, none⟩ = some (.int .u64 kNaN)
  c1 : w.cell? ⟨2, 1, none⟩ = some (.int .u64 kStale)
  c2 : w.cell? ⟨2, 2, none⟩ = some (.int .u64 kInf)
  c3 : w.cell? ⟨2, 3, none⟩ = some (.int .u64 kSign)
theorem Tab.drewN {w : World} (h : Tab w) (n : Nat) : Tab (w.drewN n) := ⟨h.c0, h.c1, h.c2, h.c3⟩

/-- is it no number, as the walk says it -/
def nanB (b : Nat) : Bool := FloatKind.f64.format.order b b != some .eq
/-- one NaN in place of all -/
def canon (b : Nat) : Nat := if nanB b then kNaN.toNat else b
def eqB (a b : Nat) : Bool := FloatKind.f64.format.order a b == some .eq
def ltB (a b : Nat) : Bool := FloatKind.f64.format.order a b == some .lt
def gtB (a b : Nat) : Bool := FloatKind.f64.format.order a b == some .gt
/-- one value -/
def sameB (a b : Nat) : Bool := (canon a : Int) == (canon b : Int)
/-- with the other sign -/
def neg (b : Nat) : Nat := b ^^^ 2 ^ 63

/-! ### plain facts -/
theorem nanB_key (b : Nat) : nanB b = Flo.isNan b := by
  have e := Flo.order_key b b
  show (Ieee.double.order b b != some .eq) = _
  rw [e]
  cases h : Flo.isNan b
  · have c : compare (Flo.key b) (Flo.key b) = .eq := by simp
    rw [c]; rfl
  · simp
theorem nan_read {b : Nat} (h : nanB b = true) : ∃ s f, Ieee.double.read b = .nan s f := by
  rw [nanB_key] at h
  have hr : 0x7FF0000000000000 < Flo.rung b := by simpa [Flo.isNan] using h
  rcases Flo.shape b with ⟨m, p, _, _, hx, _⟩ | ⟨hx, _⟩ | ⟨_, hrx⟩
  · omega
  · omega
  · exact ⟨_, _, hrx⟩
theorem add_nan {b : Nat} (v : Nat) (h : nanB b = true) : Ieee.double.add b v = none := by
  obtain ⟨s, f, e⟩ := nan_read h
  unfold Ieee.Format.add; rw [e]; rfl
theorem sub_nan {b : Nat} (v : Nat) (h : nanB b = true) : Ieee.double.sub b v = none := by
  obtain ⟨s, f, e⟩ := nan_read h
  unfold Ieee.Format.sub; rw [e]; rfl
theorem add_nan_r {b : Nat} (v : Nat) (h : nanB b = true) : Ieee.double.add v b = none := by
  obtain ⟨s, f, e⟩ := nan_read h
  unfold Ieee.Format.add; rw [e]; cases Ieee.double.read v <;> rfl
theorem kNaN_nan : nanB kNaN.toNat = true := by decide +kernel
theorem canon_num {a : Nat} (h : nanB a = false) : canon a = a := by simp [canon, h]
theorem canon_nan {a : Nat} (h : nanB a = true) : canon a = kNaN.toNat := by simp [canon, h]
theorem canon_idem (a : Nat) : canon (canon a) = canon a := by
  cases h : nanB a
  · rw [canon_num h, canon_num h]
  · rw [canon_nan h, canon_nan kNaN_nan]
def canonO : Option Nat → Nat
  | some r => canon r
  | none => kNaN.toNat
theorem canonO_idem (o : Option Nat) : canon (canonO o) = canonO o := by
  cases o with
  | none => exact canon_nan kNaN_nan
  | some r => exact canon_idem r

/-! ### what an operation gives, and how often it asks -/
/-- the bits of a NaN that the machine chose -/
def nanAt (w : World) (a b : Nat) : Nat := (Question.nanBits .f64 a b).cut (w.tape w.drawn (.nanBits .f64 a b))
theorem nanAt_facts (w : World) (a b : Nat) : nanB (nanAt w a b) = true ∧ nanAt w a b < 2 ^ 64 := by
  have k : ∀ t : Nat, 0x7FF0000000000000 < (t % 2 * 2 ^ 63 + 0x7ff0000000000000 + 1 + t / 2 % (2 ^ 52 - 1)) % 2 ^ 63 ∧ t % 2 * 2 ^ 63 + 0x7ff0000000000000 + 1 + t / 2 % (2 ^ 52 - 1) < 2 ^ 64 := fun t => by
    have h1 : t / 2 % (2 ^ 52 - 1) < 2 ^ 52 - 1 := Nat.mod_lt _ (by decide)
    generalize t / 2 % (2 ^ 52 - 1) = r at *
    rcases (by omega : t % 2 = 0 ∨ t % 2 = 1) with h | h <;> rw [h] <;> omega
  refine ⟨?_, (k _).2⟩
  rw [nanB_key]
  unfold Flo.isNan
  exact decide_eq_true (k _).1
def valO (w : World) (a b : Nat) : Option Nat → Nat
  | some r => r
  | none => nanAt w a b
def askO : Option Nat → Nat
  | some _ => 0
  | none => 1
theorem valO_canon (w : World) (a b : Nat) (o : Option Nat) : canon (valO w a b o) = canonO o := by
  cases o with
  | none => exact canon_nan (nanAt_facts w a b).1
  | some r => rfl
def addV (w : World) (a b : Nat) : Nat := valO w a b (Ieee.double.add a b)
def addN (a b : Nat) : Nat := askO (Ieee.double.add a b)
def subV (w : World) (a b : Nat) : Nat := valO w a b (Ieee.double.sub a b)
def subN (a b : Nat) : Nat := askO (Ieee.double.sub a b)
def mulV (w : World) (a b : Nat) : Nat := valO w a b (Ieee.double.mul a b)
def mulN (a b : Nat) : Nat := askO (Ieee.double.mul a b)
@[go_sem] theorem run_addF {P : Program} (t : TypeId) (a b : Nat) (w : World) : (binOp .add t (.float .f64 a) (.float .f64 b)).run P w = .ok (.float .f64 (addV w a b)) (w.drewN (addN a b)) := by
  unfold addV addN
  cases h : Ieee.double.add a b with
  | none =>
    have h' : FloatKind.f64.format.add a b = none := h
    simp [binOp, Op.floatArith, h', valO, askO, nanAt, choose, Sem.run, Question.forced]; rfl
  | some r => exact run_float_arith w .add t .f64 a b r h
@[go_sem] theorem run_subF {P : Program} (t : TypeId) (a b : Nat) (w : World) : (binOp .sub t (.float .f64 a) (.float .f64 b)).run P w = .ok (.float .f64 (subV w a b)) (w.drewN (subN a b)) := by
  unfold subV subN
  cases h : Ieee.double.sub a b with
  | none =>
    have h' : FloatKind.f64.format.sub a b = none := h
    simp [binOp, Op.floatArith, h', valO, askO, nanAt, choose, Sem.run, Question.forced]; rfl
  | some r => exact run_float_arith w .sub t .f64 a b r h
@[go_sem] theorem run_mulF {P : Program} (t : TypeId) (a b : Nat) (w : World) : (binOp .mul t (.float .f64 a) (.float .f64 b)).run P w = .ok (.float .f64 (mulV w a b)) (w.drewN (mulN a b)) := by
  unfold mulV mulN
  cases h : Ieee.double.mul a b with
  | none =>
    have h' : FloatKind.f64.format.mul a b = none := h
    simp [binOp, Op.floatArith, h', valO, askO, nanAt, choose, Sem.run, Question.forced]; rfl
  | some r => exact run_float_arith w .mul t .f64 a b r h
@[go_sem] theorem run_negF {P : Program} (b : Nat) (w : World) : (Op.unary .neg (.float .f64 b)).run P w = .ok (.float .f64 (neg b)) w := rfl
@[go_sem] theorem run_convF (b : Nat) (w : World) : (convert 26 26 (.float .f64 b)).run Tryd.prog w = .ok (.float .f64 b) w :=
  run_convert_float_float w 26 26 .f64 .f64 b b (by kernel_rfl) Tryd.underlying26 (by simp [floatToFloatBits])

/-- sums of values whose NaNs are one -/
def addC (a b : Nat) : Nat := canonO (Ieee.double.add a b)
def subC (a b : Nat) : Nat := canonO (Ieee.double.sub a b)
def mulC (a b : Nat) : Nat := canonO (Ieee.double.mul a b)
theorem addC_l {a c : Nat} (b : Nat) (h : canon a = c) : addC a b = addC c b := by
  unfold addC
  cases hb : nanB a
  · rw [← h, canon_num hb]
  · rw [add_nan b hb, ← h, canon_nan hb, add_nan b kNaN_nan]
theorem addC_r {b c : Nat} (a : Nat) (h : canon b = c) : addC a b = addC a c := by
  unfold addC
  cases hb : nanB b
  · rw [← h, canon_num hb]
  · rw [add_nan_r a hb, ← h, canon_nan hb, add_nan_r a kNaN_nan]
theorem subC_l {a c : Nat} (b : Nat) (h : canon a = c) : subC a b = subC c b := by
  unfold subC
  cases hb : nanB a
  · rw [← h, canon_num hb]
  · rw [sub_nan b hb, ← h, canon_nan hb, sub_nan b kNaN_nan]
theorem addV_c (w : World) (a b : Nat) : canon (addV w a b) = addC a b := valO_canon ..
theorem subV_c (w : World) (a b : Nat) : canon (subV w a b) = subC a b := valO_canon ..
theorem mulV_c (w : World) (a b : Nat) : canon (mulV w a b) = mulC a b := valO_canon ..
theorem drewN_drewN (w : World) (a b : Nat) : (w.drewN a).drewN b = w.drewN (a + b) := by simp only [World.drewN, Nat.add_assoc]

/-! ### signs -/
theorem and3 (n : Int) : bits .and .i64 n 3 = n % 4 := by
  have h3 : (BitVec.ofInt 64 3).toNat = 2 ^ 2 - 1 := by decide
  have key : (BitVec.ofInt 64 n &&& BitVec.ofInt 64 3).toNat = (n % ((2 ^ 64 : Nat) : Int)).toNat % 2 ^ 2 := by
    rw [BitVec.toNat_and, BitVec.toNat_ofInt, h3, Nat.and_two_pow_sub_one_eq_mod]
  show IntKind.i64.wrap ((BitVec.ofInt 64 n &&& BitVec.ofInt 64 3).toNat : Nat) = n % 4
  rw [key, IntKind.wrap_i64]
  omega
theorem bits_split (a : Nat) (h : a < 2 ^ 64) : a = (if Flo.sgn a then 2 ^ 63 else 0) + Flo.rung a := by
  unfold Flo.sgn Flo.rung
  rcases (by omega : a / 2 ^ 63 % 2 = 0 ∨ a / 2 ^ 63 % 2 = 1) with e | e <;> simp [e] <;> omega
theorem rung_lt (a : Nat) : Flo.rung a < 2 ^ 63 := Nat.mod_lt _ (by decide)
theorem neg_eq (a : Nat) (h : a < 2 ^ 64) : neg a = (if Flo.sgn a then 0 else 2 ^ 63) + Flo.rung a := by
  unfold neg
  have hb := bits_split a h
  have hr := rung_lt a
  have key : ∀ r : Nat, r < 2 ^ 63 → (r ^^^ 2 ^ 63 = 2 ^ 63 + r) ∧ ((2 ^ 63 + r) ^^^ 2 ^ 63 = r) := by
    intro r hr
    have e1 : 2 ^ 63 + r = r ^^^ 2 ^ 63 := by
      apply Nat.eq_of_testBit_eq
      intro i
      rw [Nat.testBit_xor, Nat.testBit_two_pow]
      by_cases hi : i = 63
      · subst hi
        rw [Nat.testBit_two_pow_add_eq, Nat.testBit_lt_two_pow hr]; simp
      · by_cases hlt : i < 63
        · rw [Nat.testBit_two_pow_add_gt hlt, decide_eq_false (by omega : ¬ 63 = i), Bool.xor_false]
        · have h1 : (2 ^ 63 + r).testBit i = false := Nat.testBit_lt_two_pow (Nat.lt_of_lt_of_le (by omega : 2 ^ 63 + r < 2 ^ 64) (Nat.pow_le_pow_right (by omega) (by omega)))
          have h2 : r.testBit i = false := Nat.testBit_lt_two_pow (Nat.lt_of_lt_of_le hr (Nat.pow_le_pow_right (by omega) (by omega)))
          rw [h1, h2]; simp; omega
    refine ⟨e1.symm, ?_⟩
    rw [e1, Nat.xor_assoc, Nat.xor_self, Nat.xor_zero]
  cases hs : Flo.sgn a
  · rw [hs] at hb
    simp only [Bool.false_eq_true, if_false, Nat.zero_add] at hb ⊢
    rw [hb]
    have e2 : Flo.rung (Flo.rung a) = Flo.rung a := Nat.mod_eq_of_lt hr
    rw [e2]
    exact (key _ hr).1
  · rw [hs] at hb
    simp only [if_true, Nat.zero_add] at hb ⊢
    have e3 : a ^^^ 2 ^ 63 = Flo.rung a := by
      have := (key _ hr).2
      rw [← hb] at this
      exact this
    exact e3
theorem neg_lt (a : Nat) (h : a < 2 ^ 64) : neg a < 2 ^ 64 := by rw [neg_eq a h]; have := rung_lt a; split <;> omega
theorem neg_rung (a : Nat) (h : a < 2 ^ 64) : Flo.rung (neg a) = Flo.rung a := by
  rw [neg_eq a h]; have := rung_lt a
  show (_ : Nat) % 2 ^ 63 = _
  split <;> omega
theorem neg_sgn (a : Nat) (h : a < 2 ^ 64) : Flo.sgn (neg a) = !Flo.sgn a := by
  rw [neg_eq a h]; have := rung_lt a
  cases hs : Flo.sgn a
  · simp only [Bool.false_eq_true, if_false, Bool.not_false]
    show ((2 ^ 63 + Flo.rung a) / 2 ^ 63 % 2 == 1) = true
    have e : (2 ^ 63 + Flo.rung a) / 2 ^ 63 = 1 := by omega
    rw [e]; rfl
  · simp only [if_true, Bool.not_true]
    show ((0 + Flo.rung a) / 2 ^ 63 % 2 == 1) = false
    have e : (0 + Flo.rung a) / 2 ^ 63 = 0 := by omega
    rw [e]; rfl
theorem neg_nan (a : Nat) (h : a < 2 ^ 64) : nanB (neg a) = nanB a := by
  rw [nanB_key, nanB_key]; unfold Flo.isNan; rw [neg_rung a h]
theorem neg_neg (a : Nat) : neg (neg a) = a := by unfold neg; rw [Nat.xor_assoc, Nat.xor_self, Nat.xor_zero]
theorem canon_lt (a : Nat) (h : a < 2 ^ 64) : canon a < 2 ^ 64 := by
  unfold canon; split
  · decide
  · exact h
/-- the other sign, NaNs one -/
def cneg (a : Nat) : Nat := canon (neg a)
theorem cneg_canon (a : Nat) (h : a < 2 ^ 64) : cneg (canon a) = cneg a := by
  unfold cneg
  cases hn : nanB a
  · rw [canon_num hn]
  · have e1 : nanB (neg a) = true := by rw [neg_nan a h, hn]
    have e2 : nanB (neg kNaN.toNat) = true := by decide +kernel
    rw [canon_nan hn, canon_nan e1, canon_nan e2]
theorem cneg_cneg (a : Nat) (h : a < 2 ^ 64) : cneg (cneg a) = canon a := by
  have : cneg (cneg a) = cneg (neg a) := cneg_canon (neg a) (neg_lt a h)
  rw [this]; unfold cneg; rw [neg_neg]
theorem canon_cneg (a : Nat) : canon (cneg a) = cneg a := canon_idem _

/-! ### the contracts -/
theorem isNaN_any (b : Nat) (w : World) :
    Calls Tryd.prog 65 #[.float .f64 b] w fun e w' => e = .returned (.bool (nanB b)) ∧ w = w' := by
  go_enter Tryd.func65, Tryd.ntmps65
  go_wp2
  go_ret
  exact ⟨rfl, rfl⟩
theorem canon_any (b : Nat) (w : World) (ht : Tab w) :
    Calls Tryd.prog 56 #[.float .f64 b] w fun e w' => e = .returned (.float .f64 (canon b)) ∧ w = w' := by
  have h0 := ht.c0
  cases hn : nanB b
  all_goals
    have Hc : canon b = canon b := rfl
    simp only [canon, hn] at Hc
    go_enter Tryd.func56, Tryd.ntmps56
    go_wp2_with (go_at_call 65; refine (isNaN_any _ _).mono ?_; rintro e w' ⟨rfl, rfl⟩)
    go_ret
    exact ⟨by simp [canon, hn], rfl⟩
theorem bits_any (b : Nat) (w : World) (ht : Tab w) :
    Calls Tryd.prog 61 #[.float .f64 b] w fun e w' => e = .returned (.int .u64 (canon b)) ∧ w = w' := by
  go_enter Tryd.func61, Tryd.ntmps61
  go_wp2_with (go_at_call 56; refine (canon_any _ _ ht).mono ?_; rintro e w' ⟨rfl, rfl⟩)
  go_ret
  exact ⟨rfl, rfl⟩
theorem same_any (a b : Nat) (w : World) (ht : Tab w) :
    Calls Tryd.prog 46 #[.float .f64 a, .float .f64 b] w fun e w' => e = .returned (.bool (sameB a b)) ∧ w = w' := by
  go_enter Tryd.func46, Tryd.ntmps46
  go_wp2_with (go_at_call 61; refine (bits_any _ _ ht).mono ?_; rintro e w' ⟨rfl, rfl⟩)
  go_ret
  exact ⟨rfl, rfl⟩
theorem nan_walk {a : Nat} {c : Bool} (h : nanB a = c) : (FloatKind.f64.format.order a a != some .eq) = c := h
theorem rcanon_any (b : Nat) (w : World) :
    Calls Tryd.prog 37 #[.float .f64 b] w fun e w' => e = .returned (.float .f64 (canon b)) ∧ w = w' := by
  cases hn : nanB b
  all_goals
    have hn' := nan_walk hn
    have hv : canon b = canon b := rfl
    conv at hv => rhs; simp only [canon, hn, Bool.false_eq_true, if_false, if_true]
    have Hv := Lib.hid hv; clear hv hn
    go_enter Tryd.func37, Tryd.ntmps37
    go_wp2
    go_ret
    exact ⟨by rw [Hv.out]; rfl, rfl⟩
end Go.Proofs.YtjjfkjpkbpefpaaDoor
