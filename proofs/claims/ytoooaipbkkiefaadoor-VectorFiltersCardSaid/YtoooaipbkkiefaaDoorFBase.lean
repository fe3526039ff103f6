/- The contracts of package fval's functions and of the reference's, one by one: what each answers, by the bits of its operands. -/
import Derived.Test.YtoooaipbkkiefaaDoorProg
import Derived.Test.YtoooaipbkkiefaaDoorFKey
import Derived.WalkKit
import Derived.WalkLawsBesides
import Derived.Handy
namespace Go.Proofs.YtoooaipbkkiefaaDoor.Fv
open Go.RowKit

def kNaN : Int := 9221120237041090561
def kStale : Int := 9218868437227405314
def kInf : Int := 9218868437227405312
def kSign : Int := 9223372036854775808

@[go_sem] theorem run_from (n : Int) (w : World) : (callFunc 63 #[.int .u64 n]).run Tryd.prog w = .ok (.value (.float .f64 n.toNat)) w := by
  rw [run_callFunc_extern Tryd.func63 (by kernel_rfl) (by kernel_rfl) (by kernel_rfl) (e := Extern.MathFloatBits.float64frombits) (by kernel_rfl)]; rfl
@[go_sem] theorem run_bits (b : Nat) (w : World) : (callFunc 71 #[.float .f64 b]).run Tryd.prog w = .ok (.value (.int .u64 b)) w := by
  rw [run_callFunc_extern Tryd.func71 (by kernel_rfl) (by kernel_rfl) (by kernel_rfl) (e := Extern.MathFloatBits.float64bits) (by kernel_rfl)]; rfl

/-- the cells of the program's table of bits -/
structure Tab (w : World) : Prop where
  c0 : w.cell? ⟨1, 0, none⟩ = some (.int .u64 kNaN)
  c1 : w.cell? ⟨1, 1, none⟩ = some (.int .u64 kStale)
  c2 : w.cell? ⟨1, 2, none⟩ = some (.int .u64 kInf)
  c3 : w.cell? ⟨1, 3, none⟩ = some (.int .u64 kSign)

/-- is it no NaN, as the walk says it -/
def nanB (b : Nat) : Bool := FloatKind.f64.format.order b b != some .eq
/-- one NaN in place of all -/
def canon (b : Nat) : Nat := if nanB b then kNaN.toNat else b

set_option maxHeartbeats 400000 in
theorem isNaN_any (b : Nat) (w : World) :
    Calls Tryd.prog 62 #[.float .f64 b] w fun e w' => e = .returned (.bool (nanB b)) ∧ w = w' := by
  go_enter Tryd.func62, Tryd.ntmps62
  go_wp2
  go_ret
  exact ⟨rfl, rfl⟩

set_option maxHeartbeats 400000 in
set_option maxRecDepth 100000 in
theorem canon_any (b : Nat) (w : World) (ht : Tab w) :
    Calls Tryd.prog 29 #[.float .f64 b] w fun e w' => e = .returned (.float .f64 (canon b)) ∧ w = w' := by
  have h0 := ht.c0
  cases hn : nanB b
  all_goals
    have Hc : canon b = canon b := rfl
    simp only [canon, hn] at Hc
    go_enter Tryd.func29, Tryd.ntmps29
    go_wp2_with (go_at_call 62; refine (isNaN_any _ _).mono ?_; rintro e w' ⟨rfl, rfl⟩)
    go_ret
    exact ⟨by simp [canon, hn], rfl⟩
end Go.Proofs.YtoooaipbkkiefaaDoor.Fv
