/- kept; the type of an operator's answer. -/
import Derived.Test.YtikaamonmaohjaaGreatDoorISize
namespace Go.Proofs.YtikaamonmaohjaaGreatDoor.Ir
open Go.RowKit
set_option maxRecDepth 100000
set_option maxHeartbeats 1000000

def kpI (b : Bool) (v : Int) : Int := if b then v else 0
theorem kept_any (b : Bool) (v : Int) (w : World) : Calls Tryz.prog 44 #[.bool b, .int .i64 v] w fun e w' => e = .returned (.int .i64 (kpI b v)) ∧ w = w' := by
  cases b
  all_goals
    go_enter Tryz.func44, Tryz.ntmps44
    go_wp2
    go_ret
    exact ⟨rfl, rfl⟩
/-- the type of what an operator makes of two types (0: none) -/
def binT (fn card xh : Int) (flag : Bool) (a b : Int) : Int :=
  if flag = true ∧ ¬ (5 ≤ fn ∧ fn ≤ 10) then 0
  else if a = 2 ∧ b = 2 then (if fn ≤ 10 ∨ card = 0 then 2 else 0)
  else if xh ≠ 0 ∨ card ≠ 0 then 0
  else if a = 1 ∧ b = 1 then (if fn ≤ 10 ∧ ((5 ≤ fn ∧ fn ≤ 10) ↔ flag = true) then 1 else 0)
  else if fn ≤ 10 ∨ (fn = 14 ∧ a = 2) then 2 else 0
end Go.Proofs.YtikaamonmaohjaaGreatDoor.Ir
