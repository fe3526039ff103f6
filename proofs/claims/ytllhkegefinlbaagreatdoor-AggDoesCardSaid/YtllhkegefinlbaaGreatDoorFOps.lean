/- The contracts of package fval's functions of values and numbers. -/
import Derived.Test.YtllhkegefinlbaaGreatDoorProg
import Derived.Test.YtllhkegefinlbaaGreatDoorFKey
import Derived.WalkKit
import Derived.WalkLawsBesides
import Derived.Handy
import Derived.Deep.QuietTactic
import Derived.BigQuiet
import Derived.Lib.Hide
import Derived.Deep.RegionWith
namespace Go.Proofs.YtllhkegefinlbaaGreatDoor.Fv
open Go.RowKit

def kNaN : Int := 9221120237041090561
def kStale : Int := 9218868437227405314
def kInf : Int := 9218868437227405312
def kSign : Int := 9223372036854775808

@[go_sem] theorem run_from (n : Int) (w : World) : (callFunc 66 #[.int .u64 n]).run Tryz.prog w = .ok (.value (.float .f64 n.toNat)) w := by
  rw [run_callFunc_extern Tryz.func66 (by kernel_rfl) (by kernel_rfl) (by kernel_rfl) (e := Extern.MathFloatBits.float64frombits) (by kernel_rfl)]; rfl
@[go_sem] theorem run_bits (b : Nat) (w : World) : (callFunc 81 #[.float .f64 b]).run Tryz.prog w = .ok (.value (.int .u64 b)) w := by
  rw [run_callFunc_extern Tryz.func81 (by kernel_rfl) (by kernel_rfl) (by kernel_rfl) (e := Extern.MathFloatBits.float64bits) (by kernel_rfl)]; rfl

/-- the cells of the program's table of bits -/
structure Tab (w : World) : Prop where
  c0 : w.cell? ⟨1, 0, none⟩ = some (.int .u64 kNaN)
  c1 : w.cell? ⟨1, 1, none⟩ = some (.int .u64 kStale)
  c2 : w.cell? ⟨1, 2, none⟩ = some (.int .u64 kInf)
  c3 : w.cell? ⟨1, 3, none⟩ = some (.int .u64 kSign)

/-- is it no NaN, as the walk says it -/
def nanB (b : Nat) : Bool := FloatKind.f64.format.order b b != some .eq
/-- one NaN in place of all -/
def canon (b : Nat) : Nat := if nanB b then kNaN.toNat else b

set_option maxHeartbeats 400000 in
theorem isNaN_any (b : Nat) (w : World) :
    Calls Tryz.prog 65 #[.float .f64 b] w fun e w' => e = .returned (.bool (nanB b)) ∧ w = w' := by
  go_enter Tryz.func65, Tryz.ntmps65
  go_wp2
  go_ret
  exact ⟨rfl, rfl⟩

set_option maxHeartbeats 400000 in
set_option maxRecDepth 100000 in
theorem canon_any (b : Nat) (w : World) (ht : Tab w) :
    Calls Tryz.prog 35 #[.float .f64 b] w fun e w' => e = .returned (.float .f64 (canon b)) ∧ w = w' := by
  have h0 := ht.c0
  cases hn : nanB b
  all_goals
    have Hc : canon b = canon b := rfl
    simp only [canon, hn] at Hc
    go_enter Tryz.func35, Tryz.ntmps35
    go_wp2_with (go_at_call 65; refine (isNaN_any _ _).mono ?_; rintro e w' ⟨rfl, rfl⟩)
    go_ret
    exact ⟨by simp [canon, hn], rfl⟩
end Go.Proofs.YtllhkegefinlbaaGreatDoor.Fv
namespace Go.Proofs.YtllhkegefinlbaaGreatDoor.Fv
open Go.RowKit

/-- as numbers the same -/
def eqB (a b : Nat) : Bool := FloatKind.f64.format.order a b == some .eq
/-- as numbers below -/
def ltB (a b : Nat) : Bool := FloatKind.f64.format.order a b == some .lt
/-- as numbers above -/
def gtB (a b : Nat) : Bool := FloatKind.f64.format.order a b == some .gt
/-- the sign bit -/
def sgnB (a : Nat) : Bool := bits .and .u64 (a : Int) kSign != 0
/-- one value -/
def sameB (a b : Nat) : Bool := (canon a : Int) == (canon b : Int)
/-- the stale value -/
def staleB (a : Nat) : Bool := (a : Int) == kStale
/-- the order of all values -/
def befB (a b : Nat) : Bool := if nanB a || nanB b then nanB a && !nanB b else if eqB a b then sgnB a && !sgnB b else ltB a b
/-- a comparison, by its number -/
def holdsB (op : Int) (a b : Nat) : Bool :=
  if op = 5 then eqB a b else if op = 6 then !eqB a b else if op = 7 then gtB a b else if op = 8 then ltB a b else if op = 9 then gtB a b || eqB a b else if op = 10 then ltB a b || eqB a b else false
def absN (a : Nat) : Nat := (bits .andNot .u64 (a : Int) kSign).toNat
def negN (a : Nat) : Nat := (bits .xor .u64 (a : Int) kSign).toNat
def one : Nat := 4607182418800017408
def mone : Nat := 13830554455654793216
def canonO : Option Nat → Nat
  | some r => canon r
  | none => kNaN.toNat
def cmpOp (op : Int) : Bool := decide (5 ≤ op) && decide (op ≤ 10)
def opV (op : Int) (a b : Nat) : Nat :=
  if op = 1 then canonO (Ieee.double.add a b) else if op = 2 then canonO (Ieee.double.sub a b) else if op = 3 then canonO (Ieee.double.mul a b) else if op = 4 then canonO (Ieee.double.div a b)
  else if cmpOp op then (if holdsB op a b then one else 0) else 0
def opOk (op : Int) : Bool := decide (1 ≤ op) && decide (op ≤ 10)
def fnV (fn : Int) (v arg : Nat) : Nat :=
  if fn = 1 then canon (absN v) else if fn = 2 then canon (negN v) else if fn = 3 then canon (if gtB v 0 then one else if ltB v 0 then mone else v)
  else if fn = 4 then canon (if ltB v arg || nanB arg then arg else v) else if fn = 5 then canon (if gtB v arg || nanB arg then arg else v) else 0
def fnOk (fn : Int) : Bool := decide (1 ≤ fn) && decide (fn ≤ 5)

theorem eq_walk {a b : Nat} {c : Bool} (h : eqB a b = c) : (FloatKind.f64.format.order a b == some .eq) = c := h
theorem lt_walk {a b : Nat} {c : Bool} (h : ltB a b = c) : (FloatKind.f64.format.order a b == some .lt) = c := h
theorem gt_walk {a b : Nat} {c : Bool} (h : gtB a b = c) : (FloatKind.f64.format.order a b == some .gt) = c := h

/-- the bits of a NaN that the machine chose -/
def nanAt (w : World) (a b : Nat) : Nat := (Question.nanBits .f64 a b).cut (w.tape w.drawn (.nanBits .f64 a b))
theorem nanAt_nan (w : World) (a b : Nat) : nanB (nanAt w a b) = true := by
  have h : Flo.isNan (nanAt w a b) = true := by
    unfold Flo.isNan
    apply decide_eq_true
    have k : ∀ t : Nat, 0x7FF0000000000000 < (t % 2 * 2 ^ 63 + 0x7ff0000000000000 + 1 + t / 2 % (2 ^ 52 - 1)) % 2 ^ 63 := fun t => by
      have h1 : t / 2 % (2 ^ 52 - 1) < 2 ^ 52 - 1 := Nat.mod_lt _ (by decide)
      generalize t / 2 % (2 ^ 52 - 1) = r at *
      rcases (by omega : t % 2 = 0 ∨ t % 2 = 1) with h | h <;> rw [h] <;> omega
    exact k _
  have e := Flo.order_key (nanAt w a b) (nanAt w a b)
  show (Ieee.double.order _ _ != some .eq) = true
  rw [e, h]; rfl
theorem nanAt_canon (w : World) (a b : Nat) : canon (nanAt w a b) = kNaN.toNat := by simp [canon, nanAt_nan]

theorem run_add_none {P : Program} {a b : Nat} (h : Ieee.double.add a b = none) (t : TypeId) (w : World) : (binOp .add t (.float .f64 a) (.float .f64 b)).run P w = .ok (.float .f64 (nanAt w a b)) w.drew := by
  have h' : FloatKind.f64.format.add a b = none := h
  simp [binOp, Op.floatArith, h', nanAt, choose, Sem.run, Question.forced]
theorem run_add_some {P : Program} {a b r : Nat} (h : Ieee.double.add a b = some r) (t : TypeId) (w : World) : (binOp .add t (.float .f64 a) (.float .f64 b)).run P w = .ok (.float .f64 r) w := run_float_arith w .add t .f64 a b r h
theorem run_sub_none {P : Program} {a b : Nat} (h : Ieee.double.sub a b = none) (t : TypeId) (w : World) : (binOp .sub t (.float .f64 a) (.float .f64 b)).run P w = .ok (.float .f64 (nanAt w a b)) w.drew := by
  have h' : FloatKind.f64.format.sub a b = none := h
  simp [binOp, Op.floatArith, h', nanAt, choose, Sem.run, Question.forced]
theorem run_sub_some {P : Program} {a b r : Nat} (h : Ieee.double.sub a b = some r) (t : TypeId) (w : World) : (binOp .sub t (.float .f64 a) (.float .f64 b)).run P w = .ok (.float .f64 r) w := run_float_arith w .sub t .f64 a b r h
theorem run_mul_none {P : Program} {a b : Nat} (h : Ieee.double.mul a b = none) (t : TypeId) (w : World) : (binOp .mul t (.float .f64 a) (.float .f64 b)).run P w = .ok (.float .f64 (nanAt w a b)) w.drew := by
  have h' : FloatKind.f64.format.mul a b = none := h
  simp [binOp, Op.floatArith, h', nanAt, choose, Sem.run, Question.forced]
theorem run_mul_some {P : Program} {a b r : Nat} (h : Ieee.double.mul a b = some r) (t : TypeId) (w : World) : (binOp .mul t (.float .f64 a) (.float .f64 b)).run P w = .ok (.float .f64 r) w := run_float_arith w .mul t .f64 a b r h
theorem run_div_none {P : Program} {a b : Nat} (h : Ieee.double.div a b = none) (t : TypeId) (w : World) : (binOp .quo t (.float .f64 a) (.float .f64 b)).run P w = .ok (.float .f64 (nanAt w a b)) w.drew := by
  have h' : FloatKind.f64.format.div a b = none := h
  simp [binOp, Op.floatArith, h', nanAt, choose, Sem.run, Question.forced]
theorem run_div_some {P : Program} {a b r : Nat} (h : Ieee.double.div a b = some r) (t : TypeId) (w : World) : (binOp .quo t (.float .f64 a) (.float .f64 b)).run P w = .ok (.float .f64 r) w := run_float_arith w .quo t .f64 a b r h

theorem Tab.drewN {w : World} (h : Tab w) (n : Nat) : Tab (w.drewN n) := ⟨h.c0, h.c1, h.c2, h.c3⟩
theorem Tab.drew {w : World} (h : Tab w) : Tab w.drew := ⟨h.c0, h.c1, h.c2, h.c3⟩

set_option maxRecDepth 100000 in
theorem signed_any (b : Nat) (w : World) (ht : Tab w) :
    Calls Tryz.prog 95 #[.float .f64 b] w fun e w' => e = .returned (.bool (sgnB b)) ∧ ∃ n, w' = w.drewN n := by
  have h3 := ht.c3
  go_enter Tryz.func95, Tryz.ntmps95
  go_wp2_with fail
  go_quiet (fail)
  go_wp2
  go_ret
  exact ⟨rfl, _, rfl⟩

set_option maxRecDepth 100000 in
theorem before_any (a b : Nat) (w : World) (ht : Tab w) :
    Calls Tryz.prog 76 #[.float .f64 a, .float .f64 b] w fun e w' => e = .returned (.bool (befB a b)) ∧ ∃ n, w' = w.drewN n := by
  have hq : ∃ n, w = w.drewN n := ⟨0, rfl⟩
  cases ha : nanB a <;> cases hb : nanB b
  case false.false =>
    cases he : eqB a b
    · have he' := eq_walk he
      have hl : befB a b = ltB a b := by simp [befB, ha, hb, he]
      have Hl := Lib.hid hl; clear hl
      go_enter Tryz.func76, Tryz.ntmps76
      go_wp2_with (go_at_call 65; refine (isNaN_any _ _).mono ?_; rintro e w' ⟨rfl, rfl⟩)
      go_ret
      exact ⟨by rw [Hl.out]; rfl, hq⟩
    · have he' := eq_walk he
      cases hs : sgnB a
      · have hl : befB a b = false := by simp [befB, ha, hb, he, hs]
        have Hl := Lib.hid hl; clear hl
        go_enter Tryz.func76, Tryz.ntmps76
        go_wp2_with (first | (go_at_call 65; refine (isNaN_any _ _).mono ?_; rintro e w' ⟨rfl, rfl⟩) | (go_at_call 95; refine (signed_any _ _ ht).mono ?_; rintro e w' ⟨rfl, n, rfl⟩))
        go_ret
        exact ⟨by rw [Hl.out]; rfl, _, rfl⟩
      · have hl : befB a b = !sgnB b := by simp [befB, ha, hb, he, hs]
        have Hl := Lib.hid hl; clear hl
        go_enter Tryz.func76, Tryz.ntmps76
        go_wp2_with (first | (go_at_call 65; refine (isNaN_any _ _).mono ?_; rintro e w' ⟨rfl, rfl⟩) | (go_at_call_of 95 (Value.float .f64 a); refine (signed_any _ _ (by exact ht)).mono ?_; rintro e w' ⟨rfl, n, rfl⟩) | (go_at_call_of 95 (Value.float .f64 b); refine (signed_any _ _ (by exact ht.drewN _)).mono ?_; rintro e w' ⟨rfl, n, rfl⟩))
        go_ret
        exact ⟨by rw [Hl.out]; rfl, _, rfl⟩
  all_goals
    have hl : befB a b = (nanB a && !nanB b) := by simp [befB, ha, hb]
    rw [ha, hb] at hl
    have Hl := Lib.hid hl; clear hl
    go_enter Tryz.func76, Tryz.ntmps76
    go_wp2_with (go_at_call 65; refine (isNaN_any _ _).mono ?_; rintro e w' ⟨rfl, rfl⟩)
    go_ret
    exact ⟨by rw [Hl.out]; rfl, hq⟩

end Go.Proofs.YtllhkegefinlbaaGreatDoor.Fv
