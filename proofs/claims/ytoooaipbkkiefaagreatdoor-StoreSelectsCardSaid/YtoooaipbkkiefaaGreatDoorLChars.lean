/- Layer 3's bytes and names: the program's and the reference's. -/
import Derived.Test.YtoooaipbkkiefaaGreatDoorProg
import Derived.Test.YtoooaipbkkiefaaGreatDoorLLabMath
import Derived.WalkKit
import Derived.WalkLawsBesides
import Derived.Handy
import Derived.Lib.Hide
import Derived.IntWalk
import Derived.Outline
namespace Go.Proofs.YtoooaipbkkiefaaGreatDoor
open Go.RowKit
set_option maxRecDepth 100000

def ltrI (c : Int) : Bool := decide (65 ≤ c ∧ c ≤ 90 ∨ 97 ≤ c ∧ c ≤ 122 ∨ c = 95)
def digI (c : Int) : Bool := decide (48 ≤ c ∧ c ≤ 57)
def prnI (c : Int) : Bool := decide (32 ≤ c ∧ c < 127)
theorem letB_I (c : UInt8) : letB c = ltrI (c.toNat : Int) := by unfold letB ltrI; rw [decide_eq_decide]; omega
theorem digB_I (c : UInt8) : digB c = digI (c.toNat : Int) := by unfold digB digI; rw [decide_eq_decide]; omega
theorem dig_cases (c : Int) : (c < 48 ∧ digI c = false) ∨ (48 ≤ c ∧ c ≤ 57 ∧ digI c = true) ∨ (57 < c ∧ digI c = false) := by
  unfold digI; simp only [decide_eq_true_eq, decide_eq_false_iff_not]; omega
theorem prn_cases (c : Int) : (c < 32 ∧ prnI c = false) ∨ (32 ≤ c ∧ c < 127 ∧ prnI c = true) ∨ (127 ≤ c ∧ prnI c = false) := by
  unfold prnI; simp only [decide_eq_true_eq, decide_eq_false_iff_not]; omega
theorem let_cases (c : Int) : (c < 65 ∧ ltrI c = false) ∨ (65 ≤ c ∧ c ≤ 90 ∧ ltrI c = true) ∨ (90 < c ∧ c < 95 ∧ ltrI c = false) ∨ (c = 95 ∧ ltrI c = true) ∨ (95 < c ∧ c < 97 ∧ ltrI c = false) ∨ (97 ≤ c ∧ c ≤ 122 ∧ ltrI c = true) ∨ (122 < c ∧ ltrI c = false) := by
  unfold ltrI; simp only [decide_eq_true_eq, decide_eq_false_iff_not]; omega

theorem isDigit_any (c : Int) (w : World) :
    Calls Tryz.prog 123 #[.int .u8 c] w fun e w' => e = .returned (.bool (digI c)) ∧ w = w' := by
  rcases dig_cases c with ⟨h1, h⟩ | ⟨h1, h2, h⟩ | ⟨h1, h⟩
  all_goals
    have H := Lib.hid h; clear h
    go_enter Tryz.func123, Tryz.ntmps123
    go_wp2
    go_ret
    exact ⟨by rw [H.out]; first | rfl | (simp; omega), rfl⟩
theorem rDigit_any (c : Int) (w : World) :
    Calls Tryz.prog 59 #[.int .u8 c] w fun e w' => e = .returned (.bool (digI c)) ∧ w = w' := by
  rcases dig_cases c with ⟨h1, h⟩ | ⟨h1, h2, h⟩ | ⟨h1, h⟩
  all_goals
    have H := Lib.hid h; clear h
    go_enter Tryz.func59, Tryz.ntmps59
    go_wp2
    go_ret
    exact ⟨by rw [H.out]; first | rfl | (simp; omega), rfl⟩
theorem isLetter_any (c : Int) (w : World) :
    Calls Tryz.prog 124 #[.int .u8 c] w fun e w' => e = .returned (.bool (ltrI c)) ∧ w = w' := by
  rcases let_cases c with ⟨h1, h⟩ | ⟨h1, h2, h⟩ | ⟨h1, h2, h⟩ | ⟨rfl, h⟩ | ⟨h1, h2, h⟩ | ⟨h1, h2, h⟩ | ⟨h1, h⟩
  all_goals
    have H := Lib.hid h; clear h
    go_enter Tryz.func124, Tryz.ntmps124
    go_wp2
    go_ret
    exact ⟨by rw [H.out]; first | rfl | (simp; omega), rfl⟩
theorem lb_letter_any (c : Int) (w : World) :
    Calls Tryz.prog 58 #[.int .u8 c] w fun e w' => e = .returned (.bool (ltrI c)) ∧ w = w' := by
  rcases let_cases c with ⟨h1, h⟩ | ⟨h1, h2, h⟩ | ⟨h1, h2, h⟩ | ⟨rfl, h⟩ | ⟨h1, h2, h⟩ | ⟨h1, h2, h⟩ | ⟨h1, h⟩
  all_goals
    have H := Lib.hid h; clear h
    go_enter Tryz.func58, Tryz.ntmps58
    go_wp2
    go_ret
    exact ⟨by rw [H.out]; first | rfl | (simp; omega), rfl⟩
end Go.Proofs.YtoooaipbkkiefaaGreatDoor
