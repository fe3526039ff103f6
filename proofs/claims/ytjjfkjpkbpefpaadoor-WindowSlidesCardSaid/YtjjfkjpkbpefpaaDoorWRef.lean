/- The reference's Turn, Plus, Mag; the laws' helpers. -/
import Derived.Test.YtjjfkjpkbpefpaaDoorWSum
namespace Go.Proofs.YtjjfkjpkbpefpaaDoor
open Go.RowKit
set_option maxRecDepth 100000
set_option maxHeartbeats 2000000

theorem rmag_any (r i : Nat) (w : World) :
    Calls Tryd.prog 35 #[.float .f64 r, .float .f64 i] w fun e w' => e = .returned (.float .f64 (magV r i)) ∧ ∃ n, w' = w.drewN n := by
  go_enter Tryd.func35, Tryd.ntmps35
  go_wp2_with (go_at_call 37; refine (rcanon_any _ _).mono ?_; rintro e w' ⟨rfl, rfl⟩)
  go_ret
  exact ⟨by rw [magV_c]; rfl, _, rfl⟩
/-- one turn more -/
def tn : Nat → Nat × Nat → Nat × Nat
  | 0, p => p
  | k + 1, p => tn k (cneg p.2, p.1)
theorem same_refl (a : Nat) : sameB a a = true := by unfold sameB; simp
end Go.Proofs.YtjjfkjpkbpefpaaDoor
