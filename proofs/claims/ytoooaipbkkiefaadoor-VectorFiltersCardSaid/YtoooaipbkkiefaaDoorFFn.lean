/- The contract of package fval's Fn. -/
import Derived.Test.YtoooaipbkkiefaaDoorFOpTwo
namespace Go.Proofs.YtoooaipbkkiefaaDoor.Fv
open Go.RowKit

set_option maxRecDepth 100000 in
theorem fn_absN (v arg : Nat) (w : World) (ht : Tab w) :
    Calls Tryd.prog 38 #[.int .i64 1, .float .f64 v, .float .f64 arg] w fun e w' => e = .returned (.tuple #[.float .f64 (fnV 1 v arg), .bool true]) ∧ ∃ n, w' = w.drewN n := by
  have h3 := ht.c3
  have hv : fnV 1 v arg = canon (absN v) := by simp [fnV]
  have Hv := Lib.hid hv; clear hv
  go_enter Tryd.func38, Tryd.ntmps38
  go_wp2_with fail
  go_quiet (fail)
  go_wp2_with (go_at_call 29; refine (canon_any _ _ (by exact ht.drewN _)).mono ?_; rintro e w' ⟨rfl, rfl⟩)
  go_ret2
  exact ⟨by rw [Hv.out]; rfl, _, rfl⟩

set_option maxRecDepth 100000 in
theorem fn_negN (v arg : Nat) (w : World) (ht : Tab w) :
    Calls Tryd.prog 38 #[.int .i64 2, .float .f64 v, .float .f64 arg] w fun e w' => e = .returned (.tuple #[.float .f64 (fnV 2 v arg), .bool true]) ∧ ∃ n, w' = w.drewN n := by
  have h3 := ht.c3
  have hv : fnV 2 v arg = canon (negN v) := by simp [fnV]
  have Hv := Lib.hid hv; clear hv
  go_enter Tryd.func38, Tryd.ntmps38
  go_wp2_with fail
  go_quiet (fail)
  go_wp2_with (go_at_call 29; refine (canon_any _ _ (by exact ht.drewN _)).mono ?_; rintro e w' ⟨rfl, rfl⟩)
  go_ret2
  exact ⟨by rw [Hv.out]; rfl, _, rfl⟩

set_option maxRecDepth 100000 in
theorem fn_sgn (v arg : Nat) (w : World) (ht : Tab w) :
    Calls Tryd.prog 38 #[.int .i64 3, .float .f64 v, .float .f64 arg] w fun e w' => e = .returned (.tuple #[.float .f64 (fnV 3 v arg), .bool true]) ∧ ∃ n, w' = w.drewN n := by
  have hv : fnV 3 v arg = canon (sgV v) := by simp [fnV, sgV]
  have Hv := Lib.hid hv; clear hv
  have hq : ∃ n, w = w.drewN n := ⟨0, rfl⟩
  go_enter Tryd.func38, Tryd.ntmps38
  go_wp2_with (first | (go_at_call 72; refine (signum_any _ _).mono ?_; rintro e w' ⟨rfl, rfl⟩) | (go_at_call 29; refine (canon_any _ _ (by exact ht)).mono ?_; rintro e w' ⟨rfl, rfl⟩))
  go_ret2
  exact ⟨by rw [Hv.out]; rfl, hq⟩

set_option maxRecDepth 100000 in
theorem fn_min (v arg : Nat) (w : World) (ht : Tab w) :
    Calls Tryd.prog 38 #[.int .i64 4, .float .f64 v, .float .f64 arg] w fun e w' => e = .returned (.tuple #[.float .f64 (fnV 4 v arg), .bool true]) ∧ ∃ n, w' = w.drewN n := by
  have hq : ∃ n, w = w.drewN n := ⟨0, rfl⟩
  cases hl : ltB v arg <;> cases hn : nanB arg
  all_goals
    have hl' := lt_walk hl
    have hv : fnV 4 v arg = canon (if (ltB v arg || nanB arg) = true then arg else v) := by simp [fnV]
    rw [hl, hn] at hv
    have Hv := Lib.hid hv; clear hv hl
    go_enter Tryd.func38, Tryd.ntmps38
    go_wp2_with (first | (go_at_call 62; refine (isNaN_any _ _).mono ?_; rintro e w' ⟨rfl, rfl⟩) | (go_at_call 29; refine (canon_any _ _ (by exact ht)).mono ?_; rintro e w' ⟨rfl, rfl⟩))
    go_ret2
    exact ⟨by rw [Hv.out]; rfl, hq⟩

set_option maxRecDepth 100000 in
theorem fn_max (v arg : Nat) (w : World) (ht : Tab w) :
    Calls Tryd.prog 38 #[.int .i64 5, .float .f64 v, .float .f64 arg] w fun e w' => e = .returned (.tuple #[.float .f64 (fnV 5 v arg), .bool true]) ∧ ∃ n, w' = w.drewN n := by
  have hq : ∃ n, w = w.drewN n := ⟨0, rfl⟩
  cases hl : gtB v arg <;> cases hn : nanB arg
  all_goals
    have hl' := gt_walk hl
    have hv : fnV 5 v arg = canon (if (gtB v arg || nanB arg) = true then arg else v) := by simp [fnV]
    rw [hl, hn] at hv
    have Hv := Lib.hid hv; clear hv hl
    go_enter Tryd.func38, Tryd.ntmps38
    go_wp2_with (first | (go_at_call 62; refine (isNaN_any _ _).mono ?_; rintro e w' ⟨rfl, rfl⟩) | (go_at_call 29; refine (canon_any _ _ (by exact ht)).mono ?_; rintro e w' ⟨rfl, rfl⟩))
    go_ret2
    exact ⟨by rw [Hv.out]; rfl, hq⟩

set_option maxRecDepth 100000 in
theorem fn_none (fn : Int) (v arg : Nat) (w : World) (h : ¬ (1 ≤ fn ∧ fn ≤ 5)) :
    Calls Tryd.prog 38 #[.int .i64 fn, .float .f64 v, .float .f64 arg] w fun e w' => e = .returned (.tuple #[.float .f64 (fnV fn v arg), .bool false]) ∧ ∃ n, w' = w.drewN n := by
  have hv : fnV fn v arg = 0 := by
    unfold fnV; rw [if_neg (by omega), if_neg (by omega), if_neg (by omega), if_neg (by omega), if_neg (by omega)]
  have Hv := Lib.hid hv; clear hv
  have hq : ∃ n, w = w.drewN n := ⟨0, rfl⟩
  have h1 : ¬ fn = 1 := by omega
  have h2 : ¬ fn = 2 := by omega
  have h3 : ¬ fn = 3 := by omega
  have h4 : ¬ fn = 4 := by omega
  have h5 : ¬ fn = 5 := by omega
  clear h
  go_enter Tryd.func38, Tryd.ntmps38
  go_wp2_with fail
  go_ret2
  exact ⟨by rw [Hv.out]; rfl, hq⟩

theorem fn_any (fn : Int) (v arg : Nat) (w : World) (ht : Tab w) :
    Calls Tryd.prog 38 #[.int .i64 fn, .float .f64 v, .float .f64 arg] w fun e w' => e = .returned (.tuple #[.float .f64 (fnV fn v arg), .bool (fnOk fn)]) ∧ ∃ n, w' = w.drewN n := by
  by_cases h : 1 ≤ fn ∧ fn ≤ 5
  · have ho : fnOk fn = true := by simp [fnOk]; exact h
    rw [ho]
    rcases (by omega : fn = 1 ∨ fn = 2 ∨ fn = 3 ∨ fn = 4 ∨ fn = 5) with rfl | rfl | rfl | rfl | rfl
    · exact fn_absN v arg w ht
    · exact fn_negN v arg w ht
    · exact fn_sgn v arg w ht
    · exact fn_min v arg w ht
    · exact fn_max v arg w ht
  · have ho : fnOk fn = false := by simp [fnOk]; omega
    rw [ho]
    exact fn_none fn v arg w h
end Go.Proofs.YtoooaipbkkiefaaDoor.Fv
