/- The contracts of package fval's operators and functions of values. -/
import Derived.Test.YtoooaipbkkiefaaDoorFOps
namespace Go.Proofs.YtoooaipbkkiefaaDoor.Fv
open Go.RowKit

set_option maxRecDepth 100000 in
theorem op_add (a b : Nat) (w : World) (ht : Tab w) :
    Calls Tryd.prog 48 #[.int .i64 1, .float .f64 a, .float .f64 b] w fun e w' => e = .returned (.tuple #[.float .f64 (opV 1 a b), .bool true]) ∧ ∃ n, w' = w.drewN n := by
  cases h : Ieee.double.add a b with
  | none =>
    have hv : opV 1 a b = canon (nanAt w a b) := by rw [nanAt_canon]; simp [opV, h, canonO]
    have Hv := Lib.hid hv; clear hv
    have hr := fun t w => run_add_none (P := Tryd.prog) h t w
    clear h
    go_enter Tryd.func48, Tryd.ntmps48
    go_wp2_with (go_at_call 29; refine (canon_any _ _ (by exact ht.drew)).mono ?_; rintro e w' ⟨rfl, rfl⟩)
    go_ret2
    exact ⟨by rw [Hv.out]; rfl, 1, rfl⟩
  | some r =>
    have hv : opV 1 a b = canon r := by simp [opV, h, canonO]
    have Hv := Lib.hid hv; clear hv
    have hr := fun t w => run_add_some (P := Tryd.prog) h t w
    clear h
    go_enter Tryd.func48, Tryd.ntmps48
    go_wp2_with (go_at_call 29; refine (canon_any _ _ ht).mono ?_; rintro e w' ⟨rfl, rfl⟩)
    go_ret2
    exact ⟨by rw [Hv.out]; rfl, 0, rfl⟩

set_option maxRecDepth 100000 in
theorem op_sub (a b : Nat) (w : World) (ht : Tab w) :
    Calls Tryd.prog 48 #[.int .i64 2, .float .f64 a, .float .f64 b] w fun e w' => e = .returned (.tuple #[.float .f64 (opV 2 a b), .bool true]) ∧ ∃ n, w' = w.drewN n := by
  cases h : Ieee.double.sub a b with
  | none =>
    have hv : opV 2 a b = canon (nanAt w a b) := by rw [nanAt_canon]; simp [opV, h, canonO]
    have Hv := Lib.hid hv; clear hv
    have hr := fun t w => run_sub_none (P := Tryd.prog) h t w
    clear h
    go_enter Tryd.func48, Tryd.ntmps48
    go_wp2_with (go_at_call 29; refine (canon_any _ _ (by exact ht.drew)).mono ?_; rintro e w' ⟨rfl, rfl⟩)
    go_ret2
    exact ⟨by rw [Hv.out]; rfl, 1, rfl⟩
  | some r =>
    have hv : opV 2 a b = canon r := by simp [opV, h, canonO]
    have Hv := Lib.hid hv; clear hv
    have hr := fun t w => run_sub_some (P := Tryd.prog) h t w
    clear h
    go_enter Tryd.func48, Tryd.ntmps48
    go_wp2_with (go_at_call 29; refine (canon_any _ _ ht).mono ?_; rintro e w' ⟨rfl, rfl⟩)
    go_ret2
    exact ⟨by rw [Hv.out]; rfl, 0, rfl⟩

set_option maxRecDepth 100000 in
theorem op_mul (a b : Nat) (w : World) (ht : Tab w) :
    Calls Tryd.prog 48 #[.int .i64 3, .float .f64 a, .float .f64 b] w fun e w' => e = .returned (.tuple #[.float .f64 (opV 3 a b), .bool true]) ∧ ∃ n, w' = w.drewN n := by
  cases h : Ieee.double.mul a b with
  | none =>
    have hv : opV 3 a b = canon (nanAt w a b) := by rw [nanAt_canon]; simp [opV, h, canonO]
    have Hv := Lib.hid hv; clear hv
    have hr := fun t w => run_mul_none (P := Tryd.prog) h t w
    clear h
    go_enter Tryd.func48, Tryd.ntmps48
    go_wp2_with (go_at_call 29; refine (canon_any _ _ (by exact ht.drew)).mono ?_; rintro e w' ⟨rfl, rfl⟩)
    go_ret2
    exact ⟨by rw [Hv.out]; rfl, 1, rfl⟩
  | some r =>
    have hv : opV 3 a b = canon r := by simp [opV, h, canonO]
    have Hv := Lib.hid hv; clear hv
    have hr := fun t w => run_mul_some (P := Tryd.prog) h t w
    clear h
    go_enter Tryd.func48, Tryd.ntmps48
    go_wp2_with (go_at_call 29; refine (canon_any _ _ ht).mono ?_; rintro e w' ⟨rfl, rfl⟩)
    go_ret2
    exact ⟨by rw [Hv.out]; rfl, 0, rfl⟩

set_option maxRecDepth 100000 in
theorem op_div (a b : Nat) (w : World) (ht : Tab w) :
    Calls Tryd.prog 48 #[.int .i64 4, .float .f64 a, .float .f64 b] w fun e w' => e = .returned (.tuple #[.float .f64 (opV 4 a b), .bool true]) ∧ ∃ n, w' = w.drewN n := by
  cases h : Ieee.double.div a b with
  | none =>
    have hv : opV 4 a b = canon (nanAt w a b) := by rw [nanAt_canon]; simp [opV, h, canonO]
    have Hv := Lib.hid hv; clear hv
    have hr := fun t w => run_div_none (P := Tryd.prog) h t w
    clear h
    go_enter Tryd.func48, Tryd.ntmps48
    go_wp2_with (go_at_call 29; refine (canon_any _ _ (by exact ht.drew)).mono ?_; rintro e w' ⟨rfl, rfl⟩)
    go_ret2
    exact ⟨by rw [Hv.out]; rfl, 1, rfl⟩
  | some r =>
    have hv : opV 4 a b = canon r := by simp [opV, h, canonO]
    have Hv := Lib.hid hv; clear hv
    have hr := fun t w => run_div_some (P := Tryd.prog) h t w
    clear h
    go_enter Tryd.func48, Tryd.ntmps48
    go_wp2_with (go_at_call 29; refine (canon_any _ _ ht).mono ?_; rintro e w' ⟨rfl, rfl⟩)
    go_ret2
    exact ⟨by rw [Hv.out]; rfl, 0, rfl⟩

theorem holds_rng {op : Int} (h : 5 ≤ op ∧ op ≤ 10) : op = 5 ∨ op = 6 ∨ op = 7 ∨ op = 8 ∨ op = 9 ∨ op = 10 := by omega

set_option maxRecDepth 100000 in
theorem op_cmp (op : Int) (a b : Nat) (w : World) (h : 5 ≤ op ∧ op ≤ 10) :
    Calls Tryd.prog 48 #[.int .i64 op, .float .f64 a, .float .f64 b] w fun e w' => e = .returned (.tuple #[.float .f64 (opV op a b), .bool true]) ∧ ∃ n, w' = w.drewN n := by
  have hc : cmpOp op = true := by simp [cmpOp]; exact h
  have hv : opV op a b = if holdsB op a b then one else 0 := by
    unfold opV; rw [if_neg (by omega), if_neg (by omega), if_neg (by omega), if_neg (by omega), if_pos hc]
  have Hv := Lib.hid hv; clear hv hc
  have hq : ∃ n, w = w.drewN n := ⟨0, rfl⟩
  cases hb : holdsB op a b
  all_goals
    rcases holds_rng h with rfl | rfl | rfl | rfl | rfl | rfl
    all_goals
      go_enter Tryd.func48, Tryd.ntmps48
      go_wp2_with (go_at_call 46; refine (holds_any _ _ _ _).mono ?_; rintro e w' ⟨rfl, rfl⟩)
      go_ret2
      exact ⟨by rw [Hv.out, hb]; rfl, hq⟩

set_option maxRecDepth 100000 in
theorem op_none (op : Int) (a b : Nat) (w : World) (h : ¬ (1 ≤ op ∧ op ≤ 10)) :
    Calls Tryd.prog 48 #[.int .i64 op, .float .f64 a, .float .f64 b] w fun e w' => e = .returned (.tuple #[.float .f64 (opV op a b), .bool false]) ∧ ∃ n, w' = w.drewN n := by
  have hc : cmpOp op = false := by simp [cmpOp]; omega
  have hv : opV op a b = 0 := by
    unfold opV; rw [if_neg (by omega), if_neg (by omega), if_neg (by omega), if_neg (by omega), hc]; rfl
  have Hv := Lib.hid hv; clear hv hc
  have hq : ∃ n, w = w.drewN n := ⟨0, rfl⟩
  have h1 : ¬ op = 1 := by omega
  have h2 : ¬ op = 2 := by omega
  have h3 : ¬ op = 3 := by omega
  have h4 : ¬ op = 4 := by omega
  have h5 : ¬ op = 5 := by omega
  have h6 : ¬ op = 6 := by omega
  have h7 : ¬ op = 7 := by omega
  have h8 : ¬ op = 8 := by omega
  have h9 : ¬ op = 9 := by omega
  have h10 : ¬ op = 10 := by omega
  clear h
  go_enter Tryd.func48, Tryd.ntmps48
  go_wp2_with fail
  go_ret2
  exact ⟨by rw [Hv.out]; rfl, hq⟩

theorem op_any (op : Int) (a b : Nat) (w : World) (ht : Tab w) :
    Calls Tryd.prog 48 #[.int .i64 op, .float .f64 a, .float .f64 b] w fun e w' => e = .returned (.tuple #[.float .f64 (opV op a b), .bool (opOk op)]) ∧ ∃ n, w' = w.drewN n := by
  by_cases h : 1 ≤ op ∧ op ≤ 10
  · have ho : opOk op = true := by simp [opOk]; exact h
    rw [ho]
    by_cases h5 : 5 ≤ op
    · exact op_cmp op a b w ⟨h5, h.2⟩
    · rcases (by omega : op = 1 ∨ op = 2 ∨ op = 3 ∨ op = 4) with rfl | rfl | rfl | rfl
      · exact op_add a b w ht
      · exact op_sub a b w ht
      · exact op_mul a b w ht
      · exact op_div a b w ht
  · have ho : opOk op = false := by simp [opOk]; omega
    rw [ho]
    exact op_none op a b w h

/-- a comparison with 0, as the walk says it -/
theorem gt0_walk {a : Nat} {c : Bool} (h : gtB a 0 = c) : (FloatKind.f64.format.order a 0 == some .gt) = c := h
theorem lt0_walk {a : Nat} {c : Bool} (h : ltB a 0 = c) : (FloatKind.f64.format.order a 0 == some .lt) = c := h
def sgV (v : Nat) : Nat := if gtB v 0 then one else if ltB v 0 then mone else v

set_option maxRecDepth 100000 in
theorem signum_any (v : Nat) (w : World) :
    Calls Tryd.prog 72 #[.float .f64 v] w fun e w' => e = .returned (.float .f64 (sgV v)) ∧ w = w' := by
  cases hg : gtB v 0 <;> cases hl : ltB v 0
  all_goals
    have hg' := gt0_walk hg
    have hl' := lt0_walk hl
    have hv : sgV v = sgV v := rfl
    conv at hv => rhs; simp [sgV, hg, hl]
    have Hv := Lib.hid hv; clear hv hg hl
    go_enter Tryd.func72, Tryd.ntmps72
    go_wp2
    go_ret
    exact ⟨by rw [Hv.out]; rfl, rfl⟩

end Go.Proofs.YtoooaipbkkiefaaDoor.Fv
