/- What the laws' first test runs, the second part: Text of 2.5, Parse of 1e3, the whole test. -/
import Derived.Test.YtoooaipbkkiefaaDoorFKnown
import Derived.Deep.DeepMust
namespace Go.Proofs.YtoooaipbkkiefaaDoor.Fv
open Go.RowKit
set_option maxHeartbeats 1000000
set_option maxRecDepth 100000
attribute [local go_sem] bits IntKind.bits IntKind.wrap_u64 IntKind.wrap_u32'
theorem drew_drewN (w : World) (n : Nat) : w.drew.drewN n = w.drewN (n + 1) := by
  show ({ w with drawn := w.drawn + 1 + n } : World) = { w with drawn := w.drawn + (n + 1) }
  rw [Nat.add_assoc, Nat.add_comm 1 n]
theorem grown_drewN {W w : World} (h : Grown W w) (n : Nat) : Grown W (w.drewN n) := h
end Go.Proofs.YtoooaipbkkiefaaDoor.Fv
