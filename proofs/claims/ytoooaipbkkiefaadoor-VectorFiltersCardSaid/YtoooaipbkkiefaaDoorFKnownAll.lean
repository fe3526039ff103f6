/- The laws' first test: it answers true. -/
import Derived.Test.YtoooaipbkkiefaaDoorFKnownTwo
import Derived.Test.YtoooaipbkkiefaaDoorFSum
namespace Go.Proofs.YtoooaipbkkiefaaDoor.Fv
open Go.RowKit
set_option maxHeartbeats 1000000
set_option maxRecDepth 100000

theorem grown_trans {a b c : World} (h : Grown a b) (g : Grown b c) : Grown a c :=
  ⟨World.keptBut_trans h.1 (World.keptBut_mono (fun _ f => f.elim) g.1), fun x => (g.2.1 x).trans (h.2.1 x), Nat.le_trans h.2.2 g.2.2⟩

theorem k_bits (w : World) (ht : Tab w) : Calls Tryd.prog 83 #[.float .f64 9218868437227405314] w fun e w' => e = .returned (.int .u64 9221120237041090561) ∧ w = w' := by
  have h1 : canon 9218868437227405314 = 9221120237041090561 := by decide +kernel
  refine (bits_any _ w ht).mono fun e w' ⟨h, g⟩ => ⟨?_, g⟩
  rw [h, h1]; rfl
theorem k_canon (w : World) (ht : Tab w) : Calls Tryd.prog 29 #[.float .f64 9218868437227405314] w fun e w' => e = .returned (.float .f64 9221120237041090561) ∧ w = w' := by
  have h1 : canon 9218868437227405314 = 9221120237041090561 := by decide +kernel
  refine (canon_any _ w ht).mono fun e w' ⟨h, g⟩ => ⟨?_, g⟩
  rw [h, h1]
end Go.Proofs.YtoooaipbkkiefaaDoor.Fv
