/- The walk of FvalOrder. -/
import Derived.Test.YtndbcbmkmafieaaGreatDoorKnownAll
import Derived.Test.YtndbcbmkmafieaaGreatDoorOrdMath
namespace Go.Proofs.YtndbcbmkmafieaaGreatDoor
open Go.RowKit
set_option maxHeartbeats 1000000
set_option maxRecDepth 100000

theorem lawOrder_core {k : Nat × Nat × Nat} (a b c : Nat) (w : World) (hk : Kn k w) (haa : befB a a = false)
    (h : (befB a b = true ∧ befB b a = false ∧ sameB a b = false) ∨ (befB a b = false ∧ befB b a = true ∧ sameB a b = false) ∨ (befB a b = false ∧ befB b a = false ∧ sameB a b = true))
    (hbc : befB b c = false ∨ (befB b c = true ∧ befB a c = true) ∨ befB a b = false) :
    Calls Tryz.prog 4 #[.int .u64 a, .int .u64 b, .int .u64 c] w fun e w' => e = .returned (.bool true) ∧ Grown w w' := by
  rcases h with ⟨h1, h2, h3⟩ | ⟨h1, h2, h3⟩ | ⟨h1, h2, h3⟩ <;> rcases hbc with h4 | ⟨h4, h5⟩ | h6
  case inl.inr.inr => rw [h1] at h6; cases h6
  all_goals
    try clear h6
  all_goals
    go_enter Tryz.func4, Tryz.ntmps4
    go_wp2_with (first | (go_at_call 9; go_must (refine (known_any (b := k) _ hk).mono ?_); rintro e w1 ⟨rfl, hg⟩) | (go_at_call 23; go_must (refine (before_any _ _ _ ?_).mono ?_); (first | exact (hk.keep (Keep.grown hg)).tab | exact (hk.keep (Keep.grown hg)).tab.drewN _); rintro e w' ⟨rfl, n, rfl⟩) | (go_at_call 22; go_must (refine (same_any _ _ _ ?_).mono ?_); (first | exact (hk.keep (Keep.grown hg)).tab | exact (hk.keep (Keep.grown hg)).tab.drewN _); rintro e w' ⟨rfl, rfl⟩))
    go_ret
    exact ⟨by first | rfl | (show Ending.returned (Value.bool (befB a c)) = _; rw [h5]), by first | exact hg | exact grown_drewN hg _⟩

theorem lawOrder_any {k : Nat × Nat × Nat} (a b c : Nat) (w : World) (hk : Kn k w) (ha : a < 2 ^ 64) (hb : b < 2 ^ 64) (hc : c < 2 ^ 64) :
    Calls Tryz.prog 4 #[.int .u64 a, .int .u64 b, .int .u64 c] w fun e w' => e = .returned (.bool true) ∧ Grown w w' := by
  refine lawOrder_core a b c w hk ?_ ?_ ?_
  · rw [befB_tk a a ha ha]; simp
  · rw [befB_tk a b ha hb, befB_tk b a hb ha, sameB_tk a b ha hb]
    simp only [decide_eq_true_eq, decide_eq_false_iff_not]
    omega
  · rw [befB_tk a b ha hb, befB_tk b c hb hc, befB_tk a c ha hc]
    simp only [decide_eq_true_eq, decide_eq_false_iff_not]
    omega
end Go.Proofs.YtndbcbmkmafieaaGreatDoor
