/- stamp.Duration. -/
import Derived.Test.YthjfmfacnknpfaaDoorFr
import Derived.Test.YthjfmfacnknpfaaDoorGridTwo
import Derived.Deep.QuietTactic
import Derived.BigQuiet
namespace Go.Proofs.YthjfmfacnknpfaaDoor
open Go.RowKit

/-- the table of units -/
def TabU (w : World) : Prop := ∀ j, j < 5 → w.cell? ⟨0, 2 * j, none⟩ = some (.string ⟨(unitName j).toArray⟩) ∧ w.cell? ⟨0, 2 * j + 1, none⟩ = some (.int .i64 (unitSize j : Nat))

theorem isDigit_any (c : UInt8) (w : World) :
    Calls Tryd.prog 34 #[.int .u8 c.toNat] w fun e w' => e = .returned (.bool (dgt c)) ∧ w = w' := by
  have h2 : dgt c = (decide (48 ≤ c.toNat) && decide (c.toNat ≤ 57)) := rfl
  have H2 := Lib.hid h2; clear h2
  cases ha : decide (48 ≤ c.toNat) <;> cases hb : decide (c.toNat ≤ 57)
  all_goals
    have ha' : decide ((48 : Int) ≤ c.toNat) = decide (48 ≤ c.toNat) := by simp; omega
    have hb' : decide ((c.toNat : Int) ≤ 57) = decide (c.toNat ≤ 57) := by simp; omega
    rw [ha] at ha'
    rw [hb] at hb'
    go_enter Tryd.func34, Tryd.ntmps34
    go_wp2
    go_ret
    exact ⟨by rw [H2.out, ha, hb]; rfl, rfl⟩

def tms (c j : Nat) : Nat := if c > 1125899906842624 / unitSize j then 1125899906842625 else c * unitSize j
theorem times_lit (c j z q : Nat) (hz : unitSize j = z) (hq : 1125899906842624 / z = q) (w : World)
    (hlo : c ≤ q → Calls Tryd.prog 35 #[.int .i64 c, .int .i64 z] w fun e w' => e = .returned (.int .i64 (c * z : Nat)) ∧ w = w')
    (hhi : q < c → Calls Tryd.prog 35 #[.int .i64 c, .int .i64 z] w fun e w' => e = .returned (.int .i64 (1125899906842625 : Nat)) ∧ w = w') :
    Calls Tryd.prog 35 #[.int .i64 c, .int .i64 (unitSize j : Nat)] w fun e w' => e = .returned (.int .i64 (tms c j : Nat)) ∧ w = w' := by
  unfold tms
  rw [hz, hq]
  by_cases h : c > q
  · rw [if_pos h]; exact hhi h
  · rw [if_neg h]; exact hlo (by omega)
theorem times_any (c j : Nat) (hj : j < 5) (w : World) :
    Calls Tryd.prog 35 #[.int .i64 c, .int .i64 (unitSize j : Nat)] w fun e w' => e = .returned (.int .i64 (tms c j : Nat)) ∧ w = w' := by
  rcases (by omega : j = 0 ∨ j = 1 ∨ j = 2 ∨ j = 3 ∨ j = 4) with rfl | rfl | rfl | rfl | rfl
  · refine times_lit c 0 86400000 13031248 rfl (by decide) w (fun h => ?_) (fun h => ?_)
    · clear hj
      go_enter Tryd.func35, Tryd.ntmps35
      go_wp2
      go_ret
      exact ⟨by simp, rfl⟩
    · clear hj
      go_enter Tryd.func35, Tryd.ntmps35
      go_wp2
      go_ret
      exact ⟨rfl, rfl⟩
  · refine times_lit c 1 3600000 312749974 rfl (by decide) w (fun h => ?_) (fun h => ?_)
    · clear hj
      go_enter Tryd.func35, Tryd.ntmps35
      go_wp2
      go_ret
      exact ⟨by simp, rfl⟩
    · clear hj
      go_enter Tryd.func35, Tryd.ntmps35
      go_wp2
      go_ret
      exact ⟨rfl, rfl⟩
  · refine times_lit c 2 60000 18764998447 rfl (by decide) w (fun h => ?_) (fun h => ?_)
    · clear hj
      go_enter Tryd.func35, Tryd.ntmps35
      go_wp2
      go_ret
      exact ⟨by simp, rfl⟩
    · clear hj
      go_enter Tryd.func35, Tryd.ntmps35
      go_wp2
      go_ret
      exact ⟨rfl, rfl⟩
  · refine times_lit c 3 1000 1125899906842 rfl (by decide) w (fun h => ?_) (fun h => ?_)
    · clear hj
      go_enter Tryd.func35, Tryd.ntmps35
      go_wp2
      go_ret
      exact ⟨by simp, rfl⟩
    · clear hj
      go_enter Tryd.func35, Tryd.ntmps35
      go_wp2
      go_ret
      exact ⟨rfl, rfl⟩
  · refine times_lit c 4 1 1125899906842624 rfl (by decide) w (fun h => ?_) (fun h => ?_)
    · clear hj
      go_enter Tryd.func35, Tryd.ntmps35
      go_wp2
      go_ret
      exact ⟨by simp, rfl⟩
    · clear hj
      go_enter Tryd.func35, Tryd.ntmps35
      go_wp2
      go_ret
      exact ⟨rfl, rfl⟩
end Go.Proofs.YthjfmfacnknpfaaDoor
