/- The walk of FvalHolds. -/
import Derived.Test.YtoooaipbkkiefaaDoorFKnownAll
import Derived.Test.YtoooaipbkkiefaaDoorFMath
namespace Go.Proofs.YtoooaipbkkiefaaDoor.Fv
open Go.RowKit
set_option maxHeartbeats 1000000
set_option maxRecDepth 100000

theorem nan_walk {a : Nat} {c : Bool} (h : nanB a = c) : (FloatKind.f64.format.order a a != some .eq) = c := h
theorem h_eq (a b : Nat) (w : World) : Calls Tryd.prog 46 #[.int .i64 5, .float .f64 a, .float .f64 b] w fun e w' => e = .returned (.bool (eqB a b)) ∧ w = w' := holds_any 5 a b w
theorem h_ne (a b : Nat) (w : World) : Calls Tryd.prog 46 #[.int .i64 6, .float .f64 a, .float .f64 b] w fun e w' => e = .returned (.bool (!eqB a b)) ∧ w = w' := holds_any 6 a b w
theorem h_gt (a b : Nat) (w : World) : Calls Tryd.prog 46 #[.int .i64 7, .float .f64 a, .float .f64 b] w fun e w' => e = .returned (.bool (gtB a b)) ∧ w = w' := holds_any 7 a b w
theorem h_lt (a b : Nat) (w : World) : Calls Tryd.prog 46 #[.int .i64 8, .float .f64 a, .float .f64 b] w fun e w' => e = .returned (.bool (ltB a b)) ∧ w = w' := holds_any 8 a b w
theorem h_ge (a b : Nat) (w : World) : Calls Tryd.prog 46 #[.int .i64 9, .float .f64 a, .float .f64 b] w fun e w' => e = .returned (.bool (gtB a b || eqB a b)) ∧ w = w' := holds_any 9 a b w
theorem h_le (a b : Nat) (w : World) : Calls Tryd.prog 46 #[.int .i64 10, .float .f64 a, .float .f64 b] w fun e w' => e = .returned (.bool (ltB a b || eqB a b)) ∧ w = w' := holds_any 10 a b w

end Go.Proofs.YtoooaipbkkiefaaDoor.Fv
