/- Layer 2's numbers: the contracts of Plus, Minus, Align, Within and of the reference's, by whole numbers. -/
import Derived.Test.YthjfmfacnknpfaaDoorProg
import Derived.WalkKit
import Derived.WalkLawsBesides
import Derived.Handy
import Derived.Lib.Hide
import Derived.IntWalk
namespace Go.Proofs.YthjfmfacnknpfaaDoor
open Go.RowKit

def inB (t : Int) : Bool := decide (-1125899906842624 ≤ t ∧ t ≤ 1125899906842624)
def lenB (t : Int) : Bool := decide (1 ≤ t ∧ t ≤ 1125899906842624)
theorem inB_t {t : Int} (h : inB t = true) : -1125899906842624 ≤ t ∧ t ≤ 1125899906842624 := by simpa [inB] using h
theorem inB_f {t : Int} (h : inB t = false) : t < -1125899906842624 ∨ 1125899906842624 < t := by
  have : ¬ (-1125899906842624 ≤ t ∧ t ≤ 1125899906842624) := by simpa [inB] using h
  omega
theorem lenB_t {t : Int} (h : lenB t = true) : 1 ≤ t ∧ t ≤ 1125899906842624 := by simpa [lenB] using h
theorem lenB_f {t : Int} (h : lenB t = false) : t < 1 ∨ 1125899906842624 < t := by
  have : ¬ (1 ≤ t ∧ t ≤ 1125899906842624) := by simpa [lenB] using h
  omega

theorem isTime_any (t : Int) (w : World) :
    Calls Tryd.prog 27 #[.int .i64 t] w fun e w' => e = .returned (.bool (inB t)) ∧ w = w' := by
  have h2 : inB t = (decide (-1125899906842624 ≤ t) && decide (t ≤ 1125899906842624)) := by simp [inB]
  have H2 := Lib.hid h2; clear h2
  cases ha : decide (-1125899906842624 ≤ t) <;> cases hb : decide (t ≤ 1125899906842624)
  all_goals
    go_enter Tryd.func27, Tryd.ntmps27
    go_wp2
    go_ret
    exact ⟨by rw [H2.out, ha, hb]; rfl, rfl⟩
theorem isLength_any (t : Int) (w : World) :
    Calls Tryd.prog 30 #[.int .i64 t] w fun e w' => e = .returned (.bool (lenB t)) ∧ w = w' := by
  have h2 : lenB t = (decide (1 ≤ t) && decide (t ≤ 1125899906842624)) := by simp [lenB]
  have H2 := Lib.hid h2; clear h2
  cases ha : decide (1 ≤ t) <;> cases hb : decide (t ≤ 1125899906842624)
  all_goals
    go_enter Tryd.func30, Tryd.ntmps30
    go_wp2
    go_ret
    exact ⟨by rw [H2.out, ha, hb]; rfl, rfl⟩
theorem in_any (t : Int) (w : World) :
    Calls Tryd.prog 29 #[.int .i64 t] w fun e w' => e = .returned (.bool (inB t)) ∧ w = w' := by
  have h2 : inB t = (decide (-1125899906842624 ≤ t) && decide (t ≤ 1125899906842624)) := by simp [inB]
  have H2 := Lib.hid h2; clear h2
  cases ha : decide (-1125899906842624 ≤ t) <;> cases hb : decide (t ≤ 1125899906842624)
  all_goals
    go_enter Tryd.func29, Tryd.ntmps29
    go_wp2
    go_ret
    exact ⟨by rw [H2.out, ha, hb]; rfl, rfl⟩
/-- a time, or none -/
def tmV (t : Int) : Int := if inB t then t else 0
def tmE (t : Int) : Int := if inB t then 0 else 1
theorem timed_any (t : Int) (w : World) :
    Calls Tryd.prog 28 #[.int .i64 t] w fun e w' => e = .returned (.tuple #[.int .i64 (tmV t), .int .i64 (tmE t)]) ∧ w = w' := by
  cases ha : inB t
  all_goals
    go_enter Tryd.func28, Tryd.ntmps28
    go_wp2_with (go_at_call 27; refine (isTime_any _ _).mono ?_; rintro e w' ⟨rfl, rfl⟩)
    go_ret2
    exact ⟨by simp [tmV, tmE, ha], rfl⟩

/-- what Plus tells, by the sum -/
def opV (a b t : Int) : Int := if inB a && inB b && inB t then t else 0
def opE (a b t : Int) : Int := if inB a && inB b && inB t then 0 else 1

theorem plus_any (a b : Int) (w : World) :
    Calls Tryd.prog 9 #[.int .i64 a, .int .i64 b] w fun e w' => e = .returned (.tuple #[.int .i64 (opV a b (a + b)), .int .i64 (opE a b (a + b))]) ∧ w = w' := by
  cases ha : inB a <;> cases hb : inB b
  case true.true =>
    have hv : opV a b (a + b) = tmV (a + b) := by simp [opV, tmV, ha, hb]
    have he : opE a b (a + b) = tmE (a + b) := by simp [opE, tmE, ha, hb]
    have Hv := Lib.hid hv; clear hv
    have He := Lib.hid he; clear he
    obtain ⟨a1, a2⟩ := inB_t ha
    obtain ⟨b1, b2⟩ := inB_t hb
    go_enter Tryd.func9, Tryd.ntmps9
    go_wp2_with (first | (go_at_call 27; refine (isTime_any _ _).mono ?_; rintro e w' ⟨rfl, rfl⟩) | (go_at_call 28; refine (timed_any _ _).mono ?_; rintro e w' ⟨rfl, rfl⟩))
    go_ret2
    exact ⟨by rw [Hv.out, He.out]; rfl, rfl⟩
  all_goals
    have hv : opV a b (a + b) = 0 := by simp [opV, ha, hb]
    have he : opE a b (a + b) = 1 := by simp [opE, ha, hb]
    have Hv := Lib.hid hv; clear hv
    have He := Lib.hid he; clear he
    go_enter Tryd.func9, Tryd.ntmps9
    go_wp2_with (go_at_call 27; refine (isTime_any _ _).mono ?_; rintro e w' ⟨rfl, rfl⟩)
    go_ret2
    exact ⟨by rw [Hv.out, He.out]; rfl, rfl⟩
theorem ref_plus_any (a b : Int) (w : World) :
    Calls Tryd.prog 10 #[.int .i64 a, .int .i64 b] w fun e w' => e = .returned (.tuple #[.int .i64 (opV a b (a + b)), .int .i64 (opE a b (a + b))]) ∧ w = w' := by
  cases ha : inB a <;> cases hb : inB b
  case true.true =>
    obtain ⟨a1, a2⟩ := inB_t ha
    obtain ⟨b1, b2⟩ := inB_t hb
    cases hc : inB (a + b)
    all_goals
      have hv : opV a b (a + b) = opV a b (a + b) := rfl
      have he : opE a b (a + b) = opE a b (a + b) := rfl
      simp only [opV, ha, hb, hc] at hv
      simp only [opE, ha, hb, hc] at he
      have Hv := Lib.hid hv; clear hv
      have He := Lib.hid he; clear he
      go_enter Tryd.func10, Tryd.ntmps10
      go_wp2_with (go_at_call 29; refine (in_any _ _).mono ?_; rintro e w' ⟨rfl, rfl⟩)
      go_ret2
      exact ⟨by simp [opV, opE, ha, hb, hc], rfl⟩
  all_goals
    have hv : opV a b (a + b) = 0 := by simp [opV, ha, hb]
    have he : opE a b (a + b) = 1 := by simp [opE, ha, hb]
    have Hv := Lib.hid hv; clear hv
    have He := Lib.hid he; clear he
    go_enter Tryd.func10, Tryd.ntmps10
    go_wp2_with (go_at_call 29; refine (in_any _ _).mono ?_; rintro e w' ⟨rfl, rfl⟩)
    go_ret2
    exact ⟨by rw [Hv.out, He.out]; rfl, rfl⟩

theorem minus_any (a b : Int) (w : World) :
    Calls Tryd.prog 11 #[.int .i64 a, .int .i64 b] w fun e w' => e = .returned (.tuple #[.int .i64 (opV a b (a - b)), .int .i64 (opE a b (a - b))]) ∧ w = w' := by
  cases ha : inB a <;> cases hb : inB b
  case true.true =>
    have hv : opV a b (a - b) = tmV (a - b) := by simp [opV, tmV, ha, hb]
    have he : opE a b (a - b) = tmE (a - b) := by simp [opE, tmE, ha, hb]
    have Hv := Lib.hid hv; clear hv
    have He := Lib.hid he; clear he
    obtain ⟨a1, a2⟩ := inB_t ha
    obtain ⟨b1, b2⟩ := inB_t hb
    go_enter Tryd.func11, Tryd.ntmps11
    go_wp2_with (first | (go_at_call 27; refine (isTime_any _ _).mono ?_; rintro e w' ⟨rfl, rfl⟩) | (go_at_call 28; refine (timed_any _ _).mono ?_; rintro e w' ⟨rfl, rfl⟩))
    go_ret2
    exact ⟨by rw [Hv.out, He.out]; rfl, rfl⟩
  all_goals
    have hv : opV a b (a - b) = 0 := by simp [opV, ha, hb]
    have he : opE a b (a - b) = 1 := by simp [opE, ha, hb]
    have Hv := Lib.hid hv; clear hv
    have He := Lib.hid he; clear he
    go_enter Tryd.func11, Tryd.ntmps11
    go_wp2_with (go_at_call 27; refine (isTime_any _ _).mono ?_; rintro e w' ⟨rfl, rfl⟩)
    go_ret2
    exact ⟨by rw [Hv.out, He.out]; rfl, rfl⟩
theorem ref_minus_any (a b : Int) (w : World) :
    Calls Tryd.prog 12 #[.int .i64 a, .int .i64 b] w fun e w' => e = .returned (.tuple #[.int .i64 (opV a b (a - b)), .int .i64 (opE a b (a - b))]) ∧ w = w' := by
  cases ha : inB a <;> cases hb : inB b
  case true.true =>
    obtain ⟨a1, a2⟩ := inB_t ha
    obtain ⟨b1, b2⟩ := inB_t hb
    cases hc : inB (a - b)
    all_goals
      have hv : opV a b (a - b) = opV a b (a - b) := rfl
      have he : opE a b (a - b) = opE a b (a - b) := rfl
      simp only [opV, ha, hb, hc] at hv
      simp only [opE, ha, hb, hc] at he
      have Hv := Lib.hid hv; clear hv
      have He := Lib.hid he; clear he
      go_enter Tryd.func12, Tryd.ntmps12
      go_wp2_with (go_at_call 29; refine (in_any _ _).mono ?_; rintro e w' ⟨rfl, rfl⟩)
      go_ret2
      exact ⟨by simp [opV, opE, ha, hb, hc], rfl⟩
  all_goals
    have hv : opV a b (a - b) = 0 := by simp [opV, ha, hb]
    have he : opE a b (a - b) = 1 := by simp [opE, ha, hb]
    have Hv := Lib.hid hv; clear hv
    have He := Lib.hid he; clear he
    go_enter Tryd.func12, Tryd.ntmps12
    go_wp2_with (go_at_call 29; refine (in_any _ _).mono ?_; rintro e w' ⟨rfl, rfl⟩)
    go_ret2
    exact ⟨by rw [Hv.out, He.out]; rfl, rfl⟩
end Go.Proofs.YthjfmfacnknpfaaDoor
