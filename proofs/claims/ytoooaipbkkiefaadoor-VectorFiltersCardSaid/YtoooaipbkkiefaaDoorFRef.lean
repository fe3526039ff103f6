/- The contracts of the reference's functions of values: they answer as the program's. -/
import Derived.Test.YtoooaipbkkiefaaDoorFSignMath
import Derived.Test.YtoooaipbkkiefaaDoorFLawHolds
namespace Go.Proofs.YtoooaipbkkiefaaDoor.Fv
open Go.RowKit
set_option maxHeartbeats 1000000
set_option maxRecDepth 100000

theorem add_nan_right {b : Nat} (v : Nat) (h : nanB b = true) : Ieee.double.add v b = none := by
  rw [nanB_key] at h
  have hr : 0x7FF0000000000000 < Flo.rung b := by simpa [Flo.isNan] using h
  rcases Flo.shape b with ⟨m, p, _, hx, _⟩ | ⟨hx, _⟩ | ⟨_, hrx⟩
  · omega
  · omega
  · unfold Ieee.Format.add
    rw [hrx]
    cases Ieee.double.read v <;> rfl
theorem rcanon_any (b : Nat) (w : World) :
    Calls Tryd.prog 36 #[.float .f64 b] w fun e w' => e = .returned (.float .f64 (canon b)) ∧ w = w' := by
  cases hn : nanB b
  all_goals
    have hn' := nan_walk hn
    have hv : canon b = canon b := rfl
    conv at hv => rhs; simp only [canon, hn, Bool.false_eq_true, if_false, if_true]
    have Hv := Lib.hid hv; clear hv hn
    go_enter Tryd.func36, Tryd.ntmps36
    go_wp2
    go_ret
    exact ⟨by rw [Hv.out]; rfl, rfl⟩
theorem rbits_any (b : Nat) (w : World) :
    Calls Tryd.prog 95 #[.float .f64 b] w fun e w' => e = .returned (.int .u64 (canon b)) ∧ w = w' := by
  go_enter Tryd.func95, Tryd.ntmps95
  go_wp2_with (go_at_call 36; refine (rcanon_any _ _).mono ?_; rintro e w' ⟨rfl, rfl⟩)
  go_ret
  exact ⟨rfl, rfl⟩
theorem rsame_any (a b : Nat) (w : World) :
    Calls Tryd.prog 70 #[.float .f64 a, .float .f64 b] w fun e w' => e = .returned (.bool (sameB a b)) ∧ w = w' := by
  go_enter Tryd.func70, Tryd.ntmps70
  go_wp2_with (go_at_call 95; refine (rbits_any _ _).mono ?_; rintro e w' ⟨rfl, rfl⟩)
  go_ret
  exact ⟨rfl, rfl⟩
theorem sgn_shift (b : Nat) (h : b < 2 ^ 64) : ((b : Int) / 9223372036854775808 == 1) = Flo.sgn b := by
  unfold Flo.sgn
  rw [Bool.eq_iff_iff, beq_iff_eq, beq_iff_eq]
  omega
theorem rholds_any (op : Int) (a b : Nat) (w : World) :
    Calls Tryd.prog 49 #[.int .i64 op, .float .f64 a, .float .f64 b] w fun e w' => e = .returned (.bool (holdsB op a b)) ∧ w = w' := by
  go_enter Tryd.func49, Tryd.ntmps49
  go_wp2
  all_goals
    go_ret
    refine ⟨?_, rfl⟩
    simp_all [holdsB, eqB, gtB, ltB, bne]
set_option maxRecDepth 100000 in
theorem rop_add (a b : Nat) (w : World) :
    Calls Tryd.prog 50 #[.int .i64 1, .float .f64 a, .float .f64 b] w fun e w' => e = .returned (.tuple #[.float .f64 (opV 1 a b), .bool true]) ∧ ∃ n, w' = w.drewN n := by
  cases h : Ieee.double.add a b with
  | none =>
    have hv : opV 1 a b = canon (nanAt w a b) := by rw [nanAt_canon]; simp [opV, h, canonO]
    have Hv := Lib.hid hv; clear hv
    have hr := fun t w => run_add_none (P := Tryd.prog) h t w
    clear h
    go_enter Tryd.func50, Tryd.ntmps50
    go_wp2_with (go_at_call 36; refine (rcanon_any _ _).mono ?_; rintro e w' ⟨rfl, rfl⟩)
    go_ret2
    exact ⟨by rw [Hv.out]; rfl, 1, rfl⟩
  | some r =>
    have hv : opV 1 a b = canon r := by simp [opV, h, canonO]
    have Hv := Lib.hid hv; clear hv
    have hr := fun t w => run_add_some (P := Tryd.prog) h t w
    clear h
    go_enter Tryd.func50, Tryd.ntmps50
    go_wp2_with (go_at_call 36; refine (rcanon_any _ _).mono ?_; rintro e w' ⟨rfl, rfl⟩)
    go_ret2
    exact ⟨by rw [Hv.out]; rfl, 0, rfl⟩

set_option maxRecDepth 100000 in
theorem rop_sub (a b : Nat) (w : World) :
    Calls Tryd.prog 50 #[.int .i64 2, .float .f64 a, .float .f64 b] w fun e w' => e = .returned (.tuple #[.float .f64 (opV 2 a b), .bool true]) ∧ ∃ n, w' = w.drewN n := by
  cases h : Ieee.double.sub a b with
  | none =>
    have hv : opV 2 a b = canon (nanAt w a b) := by rw [nanAt_canon]; simp [opV, h, canonO]
    have Hv := Lib.hid hv; clear hv
    have hr := fun t w => run_sub_none (P := Tryd.prog) h t w
    clear h
    go_enter Tryd.func50, Tryd.ntmps50
    go_wp2_with (go_at_call 36; refine (rcanon_any _ _).mono ?_; rintro e w' ⟨rfl, rfl⟩)
    go_ret2
    exact ⟨by rw [Hv.out]; rfl, 1, rfl⟩
  | some r =>
    have hv : opV 2 a b = canon r := by simp [opV, h, canonO]
    have Hv := Lib.hid hv; clear hv
    have hr := fun t w => run_sub_some (P := Tryd.prog) h t w
    clear h
    go_enter Tryd.func50, Tryd.ntmps50
    go_wp2_with (go_at_call 36; refine (rcanon_any _ _).mono ?_; rintro e w' ⟨rfl, rfl⟩)
    go_ret2
    exact ⟨by rw [Hv.out]; rfl, 0, rfl⟩

set_option maxRecDepth 100000 in
theorem rop_mul (a b : Nat) (w : World) :
    Calls Tryd.prog 50 #[.int .i64 3, .float .f64 a, .float .f64 b] w fun e w' => e = .returned (.tuple #[.float .f64 (opV 3 a b), .bool true]) ∧ ∃ n, w' = w.drewN n := by
  cases h : Ieee.double.mul a b with
  | none =>
    have hv : opV 3 a b = canon (nanAt w a b) := by rw [nanAt_canon]; simp [opV, h, canonO]
    have Hv := Lib.hid hv; clear hv
    have hr := fun t w => run_mul_none (P := Tryd.prog) h t w
    clear h
    go_enter Tryd.func50, Tryd.ntmps50
    go_wp2_with (go_at_call 36; refine (rcanon_any _ _).mono ?_; rintro e w' ⟨rfl, rfl⟩)
    go_ret2
    exact ⟨by rw [Hv.out]; rfl, 1, rfl⟩
  | some r =>
    have hv : opV 3 a b = canon r := by simp [opV, h, canonO]
    have Hv := Lib.hid hv; clear hv
    have hr := fun t w => run_mul_some (P := Tryd.prog) h t w
    clear h
    go_enter Tryd.func50, Tryd.ntmps50
    go_wp2_with (go_at_call 36; refine (rcanon_any _ _).mono ?_; rintro e w' ⟨rfl, rfl⟩)
    go_ret2
    exact ⟨by rw [Hv.out]; rfl, 0, rfl⟩

set_option maxRecDepth 100000 in
theorem rop_div (a b : Nat) (w : World) :
    Calls Tryd.prog 50 #[.int .i64 4, .float .f64 a, .float .f64 b] w fun e w' => e = .returned (.tuple #[.float .f64 (opV 4 a b), .bool true]) ∧ ∃ n, w' = w.drewN n := by
  cases h : Ieee.double.div a b with
  | none =>
    have hv : opV 4 a b = canon (nanAt w a b) := by rw [nanAt_canon]; simp [opV, h, canonO]
    have Hv := Lib.hid hv; clear hv
    have hr := fun t w => run_div_none (P := Tryd.prog) h t w
    clear h
    go_enter Tryd.func50, Tryd.ntmps50
    go_wp2_with (go_at_call 36; refine (rcanon_any _ _).mono ?_; rintro e w' ⟨rfl, rfl⟩)
    go_ret2
    exact ⟨by rw [Hv.out]; rfl, 1, rfl⟩
  | some r =>
    have hv : opV 4 a b = canon r := by simp [opV, h, canonO]
    have Hv := Lib.hid hv; clear hv
    have hr := fun t w => run_div_some (P := Tryd.prog) h t w
    clear h
    go_enter Tryd.func50, Tryd.ntmps50
    go_wp2_with (go_at_call 36; refine (rcanon_any _ _).mono ?_; rintro e w' ⟨rfl, rfl⟩)
    go_ret2
    exact ⟨by rw [Hv.out]; rfl, 0, rfl⟩

set_option maxRecDepth 100000 in
theorem rop_cmp (op : Int) (a b : Nat) (w : World) (h : 5 ≤ op ∧ op ≤ 10) :
    Calls Tryd.prog 50 #[.int .i64 op, .float .f64 a, .float .f64 b] w fun e w' => e = .returned (.tuple #[.float .f64 (opV op a b), .bool true]) ∧ ∃ n, w' = w.drewN n := by
  have hc : cmpOp op = true := by simp [cmpOp]; exact h
  have hv : opV op a b = if holdsB op a b then one else 0 := by
    unfold opV; rw [if_neg (by omega), if_neg (by omega), if_neg (by omega), if_neg (by omega), if_pos hc]
  have Hv := Lib.hid hv; clear hv hc
  have hq : ∃ n, w = w.drewN n := ⟨0, rfl⟩
  cases hb : holdsB op a b
  all_goals
    rcases holds_rng h with rfl | rfl | rfl | rfl | rfl | rfl
    all_goals
      go_enter Tryd.func50, Tryd.ntmps50
      go_wp2_with (go_at_call 49; refine (rholds_any _ _ _ _).mono ?_; rintro e w' ⟨rfl, rfl⟩)
      go_ret2
      exact ⟨by rw [Hv.out, hb]; rfl, hq⟩

set_option maxRecDepth 100000 in
theorem rop_none (op : Int) (a b : Nat) (w : World) (h : ¬ (1 ≤ op ∧ op ≤ 10)) :
    Calls Tryd.prog 50 #[.int .i64 op, .float .f64 a, .float .f64 b] w fun e w' => e = .returned (.tuple #[.float .f64 (opV op a b), .bool false]) ∧ ∃ n, w' = w.drewN n := by
  have hc : cmpOp op = false := by simp [cmpOp]; omega
  have hv : opV op a b = 0 := by
    unfold opV; rw [if_neg (by omega), if_neg (by omega), if_neg (by omega), if_neg (by omega), hc]; rfl
  have Hv := Lib.hid hv; clear hv hc
  have hq : ∃ n, w = w.drewN n := ⟨0, rfl⟩
  have h1 : ¬ op = 1 := by omega
  have h2 : ¬ op = 2 := by omega
  have h3 : ¬ op = 3 := by omega
  have h4 : ¬ op = 4 := by omega
  have h5 : ¬ op = 5 := by omega
  have h6 : ¬ op = 6 := by omega
  have h7 : ¬ op = 7 := by omega
  have h8 : ¬ op = 8 := by omega
  have h9 : ¬ op = 9 := by omega
  have h10 : ¬ op = 10 := by omega
  clear h
  go_enter Tryd.func50, Tryd.ntmps50
  go_wp2_with fail
  all_goals
    go_ret2
    exact ⟨by rw [Hv.out]; rfl, hq⟩

theorem rop_any (op : Int) (a b : Nat) (w : World) :
    Calls Tryd.prog 50 #[.int .i64 op, .float .f64 a, .float .f64 b] w fun e w' => e = .returned (.tuple #[.float .f64 (opV op a b), .bool (opOk op)]) ∧ ∃ n, w' = w.drewN n := by
  by_cases h : 1 ≤ op ∧ op ≤ 10
  · have ho : opOk op = true := by simp [opOk]; exact h
    rw [ho]
    by_cases h5 : 5 ≤ op
    · exact rop_cmp op a b w ⟨h5, h.2⟩
    · rcases (by omega : op = 1 ∨ op = 2 ∨ op = 3 ∨ op = 4) with rfl | rfl | rfl | rfl
      · exact rop_add a b w
      · exact rop_sub a b w
      · exact rop_mul a b w
      · exact rop_div a b w
  · have ho : opOk op = false := by simp [opOk]; omega
    rw [ho]
    exact rop_none op a b w h


theorem rabs_any (v : Nat) (w : World) :
    Calls Tryd.prog 75 #[.float .f64 v] w fun e w' => e = .returned (.float .f64 (absN v)) ∧ w = w' := by
  go_enter Tryd.func75, Tryd.ntmps75
  go_wp2
  go_ret
  exact ⟨rfl, rfl⟩
theorem rfn_abs (v arg : Nat) (w : World) :
    Calls Tryd.prog 41 #[.int .i64 1, .float .f64 v, .float .f64 arg] w fun e w' => e = .returned (.tuple #[.float .f64 (fnV 1 v arg), .bool true]) ∧ ∃ n, w' = w.drewN n := by
  have hv : fnV 1 v arg = canon (absN v) := by simp [fnV]
  have Hv := Lib.hid hv; clear hv
  go_enter Tryd.func41, Tryd.ntmps41
  go_wp2_with (first | (go_at_call 75; refine (rabs_any _ _).mono ?_; rintro e w' ⟨rfl, rfl⟩) | (go_at_call 36; refine (rcanon_any _ _).mono ?_; rintro e w' ⟨rfl, rfl⟩))
  go_ret2
  exact ⟨by rw [Hv.out]; rfl, 0, rfl⟩
theorem rfn_neg (v arg : Nat) (w : World) :
    Calls Tryd.prog 41 #[.int .i64 2, .float .f64 v, .float .f64 arg] w fun e w' => e = .returned (.tuple #[.float .f64 (fnV 2 v arg), .bool true]) ∧ ∃ n, w' = w.drewN n := by
  have hv : fnV 2 v arg = canon (negN v) := by simp [fnV]
  have Hv := Lib.hid hv; clear hv
  go_enter Tryd.func41, Tryd.ntmps41
  go_wp2_with (go_at_call 36; refine (rcanon_any _ _).mono ?_; rintro e w' ⟨rfl, rfl⟩)
  go_ret2
  exact ⟨by rw [Hv.out]; rfl, 0, rfl⟩
theorem rfn_sgn (v arg : Nat) (w : World) :
    Calls Tryd.prog 41 #[.int .i64 3, .float .f64 v, .float .f64 arg] w fun e w' => e = .returned (.tuple #[.float .f64 (fnV 3 v arg), .bool true]) ∧ ∃ n, w' = w.drewN n := by
  have hv : fnV 3 v arg = canon (if gtB v 0 = true then one else if ltB v 0 = true then mone else v) := by simp [fnV]
  cases hg : gtB v 0 <;> cases hl : ltB v 0
  all_goals
    have hg' := gt0_walk hg
    have hl' := lt0_walk hl
    rw [hg, hl] at hv
    simp only [Bool.false_eq_true, if_false, if_true, show canon one = one by decide +kernel, show canon mone = mone by decide +kernel] at hv
    have Hv := Lib.hid hv; clear hv hg hl
    go_enter Tryd.func41, Tryd.ntmps41
    go_wp2_with (go_at_call 36; refine (rcanon_any _ _).mono ?_; rintro e w' ⟨rfl, rfl⟩)
    go_ret2
    exact ⟨by rw [Hv.out]; rfl, 0, rfl⟩

theorem rfn_min (v arg : Nat) (w : World) :
    Calls Tryd.prog 41 #[.int .i64 4, .float .f64 v, .float .f64 arg] w fun e w' => e = .returned (.tuple #[.float .f64 (fnV 4 v arg), .bool true]) ∧ ∃ n, w' = w.drewN n := by
  have hv : fnV 4 v arg = canon (if (ltB v arg || nanB arg) = true then arg else v) := by simp [fnV]
  by_cases hnn : nanB v = true ∨ nanB arg = true
  · have hx : fnV 4 v arg = kNaN.toNat := by
      obtain ⟨_, e2, e3⟩ := nan_cmp hnn
      rw [hv]
      cases ha : nanB arg
      · rw [e2]
        simp only [Bool.or_self, Bool.false_eq_true, if_false]
        exact canon_nan (hnn.resolve_right (by rw [ha]; simp))
      · simp only [Bool.or_true, if_true]
        exact canon_nan ha
    have ha : Ieee.double.add v arg = none := by
      rcases hnn with h | h
      · exact add_nan arg h
      · exact add_nan_right v h
    have hr := fun t w => run_add_none (P := Tryd.prog) ha t w
    have Hv := Lib.hid hx; clear hv hx ha
    cases h1 : nanB v <;> cases h2 : nanB arg
    case false.false => simp [h1, h2] at hnn
    all_goals
      clear hnn
      have h1' := nan_walk h1
      have h2' := nan_walk h2
      clear h1 h2
      go_enter Tryd.func41, Tryd.ntmps41
      go_wp2_with (go_at_call 36; refine (rcanon_any _ _).mono ?_; rintro e w' ⟨rfl, rfl⟩)
      go_ret2
      exact ⟨by rw [Hv.out, ← nanAt_canon w v arg]; rfl, 1, rfl⟩
  · have h1 : nanB v = false := by cases h : nanB v; rfl; exact absurd (.inl h) hnn
    have h2 : nanB arg = false := by cases h : nanB arg; rfl; exact absurd (.inr h) hnn
    clear hnn
    cases hl : ltB v arg
    all_goals
      have hl' := lt_walk hl
      have h1' := nan_walk h1
      have h2' := nan_walk h2
      rw [hl, h2] at hv
      simp only [Bool.or_self, Bool.or_false, Bool.false_eq_true, if_false, if_true, canon_num h1, canon_num h2] at hv
      have Hv := Lib.hid hv; clear hv hl h1 h2
      go_enter Tryd.func41, Tryd.ntmps41
      go_wp2
      go_ret2
      exact ⟨by rw [Hv.out]; rfl, 0, rfl⟩

theorem rfn_max (v arg : Nat) (w : World) :
    Calls Tryd.prog 41 #[.int .i64 5, .float .f64 v, .float .f64 arg] w fun e w' => e = .returned (.tuple #[.float .f64 (fnV 5 v arg), .bool true]) ∧ ∃ n, w' = w.drewN n := by
  have hv : fnV 5 v arg = canon (if (gtB v arg || nanB arg) = true then arg else v) := by simp [fnV]
  by_cases hnn : nanB v = true ∨ nanB arg = true
  · have hx : fnV 5 v arg = kNaN.toNat := by
      obtain ⟨_, e2, e3⟩ := nan_cmp hnn
      rw [hv]
      cases ha : nanB arg
      · rw [e3]
        simp only [Bool.or_self, Bool.false_eq_true, if_false]
        exact canon_nan (hnn.resolve_right (by rw [ha]; simp))
      · simp only [Bool.or_true, if_true]
        exact canon_nan ha
    have ha : Ieee.double.add v arg = none := by
      rcases hnn with h | h
      · exact add_nan arg h
      · exact add_nan_right v h
    have hr := fun t w => run_add_none (P := Tryd.prog) ha t w
    have Hv := Lib.hid hx; clear hv hx ha
    cases h1 : nanB v <;> cases h2 : nanB arg
    case false.false => simp [h1, h2] at hnn
    all_goals
      clear hnn
      have h1' := nan_walk h1
      have h2' := nan_walk h2
      clear h1 h2
      go_enter Tryd.func41, Tryd.ntmps41
      go_wp2_with (go_at_call 36; refine (rcanon_any _ _).mono ?_; rintro e w' ⟨rfl, rfl⟩)
      go_ret2
      exact ⟨by rw [Hv.out, ← nanAt_canon w v arg]; rfl, 1, rfl⟩
  · have h1 : nanB v = false := by cases h : nanB v; rfl; exact absurd (.inl h) hnn
    have h2 : nanB arg = false := by cases h : nanB arg; rfl; exact absurd (.inr h) hnn
    clear hnn
    cases hl : gtB v arg
    all_goals
      have hl' := gt_walk hl
      have h1' := nan_walk h1
      have h2' := nan_walk h2
      rw [hl, h2] at hv
      simp only [Bool.or_self, Bool.or_false, Bool.false_eq_true, if_false, if_true, canon_num h1, canon_num h2] at hv
      have Hv := Lib.hid hv; clear hv hl h1 h2
      go_enter Tryd.func41, Tryd.ntmps41
      go_wp2
      go_ret2
      exact ⟨by rw [Hv.out]; rfl, 0, rfl⟩

theorem rfn_none (fn : Int) (v arg : Nat) (w : World) (h : ¬ (1 ≤ fn ∧ fn ≤ 5)) :
    Calls Tryd.prog 41 #[.int .i64 fn, .float .f64 v, .float .f64 arg] w fun e w' => e = .returned (.tuple #[.float .f64 (fnV fn v arg), .bool false]) ∧ ∃ n, w' = w.drewN n := by
  have hv : fnV fn v arg = 0 := by
    unfold fnV; rw [if_neg (by omega), if_neg (by omega), if_neg (by omega), if_neg (by omega), if_neg (by omega)]
  have Hv := Lib.hid hv; clear hv
  have hq : ∃ n, w = w.drewN n := ⟨0, rfl⟩
  have h1 : ¬ fn = 1 := by omega
  have h2 : ¬ fn = 2 := by omega
  have h3 : ¬ fn = 3 := by omega
  have h4 : ¬ fn = 4 := by omega
  have h5 : ¬ fn = 5 := by omega
  clear h
  go_enter Tryd.func41, Tryd.ntmps41
  go_wp2_with fail
  go_ret2
  exact ⟨by rw [Hv.out]; rfl, hq⟩
theorem rfn_any (fn : Int) (v arg : Nat) (w : World) :
    Calls Tryd.prog 41 #[.int .i64 fn, .float .f64 v, .float .f64 arg] w fun e w' => e = .returned (.tuple #[.float .f64 (fnV fn v arg), .bool (fnOk fn)]) ∧ ∃ n, w' = w.drewN n := by
  by_cases h : 1 ≤ fn ∧ fn ≤ 5
  · have ho : fnOk fn = true := by simp [fnOk]; exact h
    rw [ho]
    rcases (by omega : fn = 1 ∨ fn = 2 ∨ fn = 3 ∨ fn = 4 ∨ fn = 5) with rfl | rfl | rfl | rfl | rfl
    · exact rfn_abs v arg w
    · exact rfn_neg v arg w
    · exact rfn_sgn v arg w
    · exact rfn_min v arg w
    · exact rfn_max v arg w
  · have ho : fnOk fn = false := by simp [fnOk]; omega
    rw [ho]
    exact rfn_none fn v arg w h
end Go.Proofs.YtoooaipbkkiefaaDoor.Fv
