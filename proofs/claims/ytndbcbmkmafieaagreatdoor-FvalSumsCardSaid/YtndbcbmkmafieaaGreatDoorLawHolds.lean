/- The walk of FvalHolds. -/
import Derived.Test.YtndbcbmkmafieaaGreatDoorKnownAll
import Derived.Test.YtndbcbmkmafieaaGreatDoorMath
namespace Go.Proofs.YtndbcbmkmafieaaGreatDoor
open Go.RowKit
set_option maxHeartbeats 1000000
set_option maxRecDepth 100000

theorem nan_walk {a : Nat} {c : Bool} (h : nanB a = c) : (FloatKind.f64.format.order a a != some .eq) = c := h
theorem h_eq (a b : Nat) (w : World) : Calls Tryz.prog 16 #[.int .i64 5, .float .f64 a, .float .f64 b] w fun e w' => e = .returned (.bool (eqB a b)) ∧ w = w' := holds_any 5 a b w
theorem h_ne (a b : Nat) (w : World) : Calls Tryz.prog 16 #[.int .i64 6, .float .f64 a, .float .f64 b] w fun e w' => e = .returned (.bool (!eqB a b)) ∧ w = w' := holds_any 6 a b w
theorem h_gt (a b : Nat) (w : World) : Calls Tryz.prog 16 #[.int .i64 7, .float .f64 a, .float .f64 b] w fun e w' => e = .returned (.bool (gtB a b)) ∧ w = w' := holds_any 7 a b w
theorem h_lt (a b : Nat) (w : World) : Calls Tryz.prog 16 #[.int .i64 8, .float .f64 a, .float .f64 b] w fun e w' => e = .returned (.bool (ltB a b)) ∧ w = w' := holds_any 8 a b w
theorem h_ge (a b : Nat) (w : World) : Calls Tryz.prog 16 #[.int .i64 9, .float .f64 a, .float .f64 b] w fun e w' => e = .returned (.bool (gtB a b || eqB a b)) ∧ w = w' := holds_any 9 a b w
theorem h_le (a b : Nat) (w : World) : Calls Tryz.prog 16 #[.int .i64 10, .float .f64 a, .float .f64 b] w fun e w' => e = .returned (.bool (ltB a b || eqB a b)) ∧ w = w' := holds_any 10 a b w

theorem lawHolds_nan {k : Nat × Nat × Nat} (a b : Nat) (w : World) (hk : Kn k w) (h : nanB a = true ∨ nanB b = true) :
    Calls Tryz.prog 8 #[.int .u64 a, .int .u64 b] w fun e w' => e = .returned (.bool true) ∧ Grown w w' := by
  obtain ⟨e1, e2, e3⟩ := nan_cmp h
  cases ha : nanB a <;> cases hb : nanB b
  case false.false => simp [ha, hb] at h
  all_goals
    clear h
    have ha' := nan_walk ha
    have hb' := nan_walk hb
    go_enter Tryz.func8, Tryz.ntmps8
    go_wp2_with (first | (go_at_call 9; go_must (refine (known_any (b := k) _ hk).mono ?_); rintro e w1 ⟨rfl, hg⟩) | (go_at_call_of 16 (Value.int .i64 5); refine (h_eq _ _ _).mono ?_; rintro e w' ⟨rfl, rfl⟩) | (go_at_call_of 16 (Value.int .i64 6); refine (h_ne _ _ _).mono ?_; rintro e w' ⟨rfl, rfl⟩) | (go_at_call_of 16 (Value.int .i64 7); refine (h_gt _ _ _).mono ?_; rintro e w' ⟨rfl, rfl⟩) | (go_at_call_of 16 (Value.int .i64 8); refine (h_lt _ _ _).mono ?_; rintro e w' ⟨rfl, rfl⟩) | (go_at_call_of 16 (Value.int .i64 9); refine (h_ge _ _ _).mono ?_; rintro e w' ⟨rfl, rfl⟩) | (go_at_call_of 16 (Value.int .i64 10); refine (h_le _ _ _).mono ?_; rintro e w' ⟨rfl, rfl⟩))
    go_ret
    exact ⟨rfl, hg⟩

theorem lawHolds_num {k : Nat × Nat × Nat} (a b : Nat) (w : World) (hk : Kn k w) (ha : nanB a = false) (hb : nanB b = false) :
    Calls Tryz.prog 8 #[.int .u64 a, .int .u64 b] w fun e w' => e = .returned (.bool true) ∧ Grown w w' := by
  have ha' := nan_walk ha
  have hb' := nan_walk hb
  rcases tri ha hb with ⟨e1, e2, e3⟩ | ⟨e1, e2, e3⟩ | ⟨e1, e2, e3⟩
  all_goals
    go_enter Tryz.func8, Tryz.ntmps8
    go_wp2_with (first | (go_at_call 9; go_must (refine (known_any (b := k) _ hk).mono ?_); rintro e w1 ⟨rfl, hg⟩) | (go_at_call_of 16 (Value.int .i64 5); refine (h_eq _ _ _).mono ?_; rintro e w' ⟨rfl, rfl⟩) | (go_at_call_of 16 (Value.int .i64 6); refine (h_ne _ _ _).mono ?_; rintro e w' ⟨rfl, rfl⟩) | (go_at_call_of 16 (Value.int .i64 7); refine (h_gt _ _ _).mono ?_; rintro e w' ⟨rfl, rfl⟩) | (go_at_call_of 16 (Value.int .i64 8); refine (h_lt _ _ _).mono ?_; rintro e w' ⟨rfl, rfl⟩) | (go_at_call_of 16 (Value.int .i64 9); refine (h_ge _ _ _).mono ?_; rintro e w' ⟨rfl, rfl⟩) | (go_at_call_of 16 (Value.int .i64 10); refine (h_le _ _ _).mono ?_; rintro e w' ⟨rfl, rfl⟩))
    refine wp_loop_rounds 4 ?_
    rw [rounds_succ]
    go_wp2
    rw [rounds_succ]
    go_wp2
    rw [rounds_succ]
    go_wp2
    rw [rounds_succ]
    go_wp2_with (first | (go_at_call_of 16 (Value.int .i64 6); refine (h_ne _ _ _).mono ?_; rintro e w' ⟨rfl, rfl⟩) | (go_at_call_of 16 (Value.int .i64 9); refine (h_ge _ _ _).mono ?_; rintro e w' ⟨rfl, rfl⟩) | (go_at_call_of 16 (Value.int .i64 10); refine (h_le _ _ _).mono ?_; rintro e w' ⟨rfl, rfl⟩))
    go_ret
    exact ⟨rfl, grown_trans hg ((Grown.refl _).alloc _ _)⟩

theorem lawHolds_any {k : Nat × Nat × Nat} (a b : Nat) (w : World) (hk : Kn k w) :
    Calls Tryz.prog 8 #[.int .u64 a, .int .u64 b] w fun e w' => e = .returned (.bool true) ∧ Grown w w' := by
  cases ha : nanB a
  · cases hb : nanB b
    · exact lawHolds_num a b w hk ha hb
    · exact lawHolds_nan a b w hk (.inr hb)
  · exact lawHolds_nan a b w hk (.inl ha)
end Go.Proofs.YtndbcbmkmafieaaGreatDoor
