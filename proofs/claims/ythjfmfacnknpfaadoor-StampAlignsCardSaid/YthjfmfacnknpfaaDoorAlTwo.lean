/- Layer 2: the reference's Align; Within, of the program and of the reference. -/
import Derived.Test.YthjfmfacnknpfaaDoorAl
namespace Go.Proofs.YthjfmfacnknpfaaDoor
open Go.RowKit

theorem ref_align_in (a b : Int) (w : World) (ha : inB a = true) (hb : lenB b = true) :
    Calls Tryd.prog 14 #[.int .i64 a, .int .i64 b] w fun e w' => e = .returned (.tuple #[.int .i64 (alV a b), .int .i64 (alE a b)]) ∧ w = w' := by
  obtain ⟨a1, a2⟩ := inB_t ha
  obtain ⟨b1, b2⟩ := lenB_t hb
  have hd := dn_bd a b b1
  have h1 : decide (b < 1) = false := by simp; omega
  have h2 : decide (1125899906842624 < b) = false := by simp; omega
  cases hc : decide (dn a b < -1125899906842624)
  · have hi : inB (dn a b) = true := by simp at hc; simp [inB]; omega
    have hv : alV a b = dn a b := by simp [alV, ha, hb, hi]
    have he : alE a b = 0 := by simp [alE, ha, hb, hi]
    have Hv := Lib.hid hv; clear hv
    have He := Lib.hid he; clear he
    clear hd hi a1 a2 b1 b2
    go_enter Tryd.func14, Tryd.ntmps14
    go_wp2_with (first | (go_at_call 29; refine (in_any _ _).mono ?_; rintro e w' ⟨rfl, rfl⟩) | (go_at_call 31; refine (down_any _ _ _ ha hb).mono ?_; rintro e w' ⟨rfl, rfl⟩))
    go_ret2
    exact ⟨by rw [Hv.out, He.out]; rfl, rfl⟩
  · have hi : inB (dn a b) = false := by simp at hc; simp [inB]; omega
    have hv : alV a b = 0 := by simp [alV, ha, hb, hi]
    have he : alE a b = 1 := by simp [alE, ha, hb, hi]
    have Hv := Lib.hid hv; clear hv
    have He := Lib.hid he; clear he
    clear hd hi a1 a2 b1 b2
    go_enter Tryd.func14, Tryd.ntmps14
    go_wp2_with (first | (go_at_call 29; refine (in_any _ _).mono ?_; rintro e w' ⟨rfl, rfl⟩) | (go_at_call 31; refine (down_any _ _ _ ha hb).mono ?_; rintro e w' ⟨rfl, rfl⟩))
    go_ret2
    exact ⟨by rw [Hv.out, He.out]; rfl, rfl⟩
theorem ref_align_any (a b : Int) (w : World) :
    Calls Tryd.prog 14 #[.int .i64 a, .int .i64 b] w fun e w' => e = .returned (.tuple #[.int .i64 (alV a b), .int .i64 (alE a b)]) ∧ w = w' := by
  cases ha : inB a <;> cases hb : lenB b
  case true.true => exact ref_align_in a b w ha hb
  case true.false =>
    have hv : alV a b = 0 := by simp [alV, hb]
    have he : alE a b = 1 := by simp [alE, hb]
    have Hv := Lib.hid hv; clear hv
    have He := Lib.hid he; clear he
    rcases lenB_f hb with h | h
    · have h1 : decide (b < 1) = true := by simp; omega
      clear h hb
      go_enter Tryd.func14, Tryd.ntmps14
      go_wp2_with (go_at_call 29; refine (in_any _ _).mono ?_; rintro e w' ⟨rfl, rfl⟩)
      go_ret2
      exact ⟨by rw [Hv.out, He.out]; rfl, rfl⟩
    · have h1 : decide (b < 1) = false := by simp; omega
      have h2 : decide (1125899906842624 < b) = true := by simp; omega
      clear h hb
      go_enter Tryd.func14, Tryd.ntmps14
      go_wp2_with (go_at_call 29; refine (in_any _ _).mono ?_; rintro e w' ⟨rfl, rfl⟩)
      go_ret2
      exact ⟨by rw [Hv.out, He.out]; rfl, rfl⟩
  all_goals
    have hv : alV a b = 0 := by simp [alV, ha]
    have he : alE a b = 1 := by simp [alE, ha]
    have Hv := Lib.hid hv; clear hv
    have He := Lib.hid he; clear he hb
    go_enter Tryd.func14, Tryd.ntmps14
    go_wp2_with (go_at_call 29; refine (in_any _ _).mono ?_; rintro e w' ⟨rfl, rfl⟩)
    go_ret2
    exact ⟨by rw [Hv.out, He.out]; rfl, rfl⟩

/-- a less b, cut -/
def ctV (a b : Int) : Int := if a - b > 1125899906842624 then 1125899906842624 else if a - b < -1125899906842624 then -1125899906842624 else a - b
def dsV (a b : Int) : Int := if b - a > 1125899906842624 then 1125899906842624 else b - a
def isI (a : Int) : Prop := -9223372036854775808 ≤ a ∧ a ≤ 9223372036854775807
theorem u64_diff (a b : Int) (ha : isI a) (hb : isI b) (h : a ≤ b) : IntKind.u64.wrap (IntKind.u64.wrap b - IntKind.u64.wrap a) = b - a := by
  unfold isI at ha hb
  simp only [IntKind.wrap, IntKind.bits, IntKind.signed]
  simp
  omega
theorem distance_any (a b : Int) (w : World) (ha : isI a) (hb : isI b) (h : a ≤ b) :
    Calls Tryd.prog 41 #[.int .i64 a, .int .i64 b] w fun e w' => e = .returned (.int .i64 (dsV a b)) ∧ w = w' := by
  have hd := u64_diff a b ha hb h
  have h0 : 0 ≤ b - a := by omega
  clear ha hb h
  by_cases hc : 1125899906842624 < b - a
  · have hv : dsV a b = 1125899906842624 := by unfold dsV; rw [if_pos (by omega)]
    have Hv := Lib.hid hv; clear hv
    go_enter Tryd.func41, Tryd.ntmps41
    go_wp2
    go_ret
    exact ⟨by rw [Hv.out]; rfl, rfl⟩
  · have hv : dsV a b = b - a := by unfold dsV; rw [if_neg (by omega)]
    have Hv := Lib.hid hv; clear hv
    have hc' : b - a ≤ 1125899906842624 := by omega
    clear hc
    go_enter Tryd.func41, Tryd.ntmps41
    go_wp2
    go_ret
    exact ⟨by rw [Hv.out]; rfl, rfl⟩
theorem dsV_bd (a b : Int) (h : a ≤ b) : 0 ≤ dsV a b ∧ dsV a b ≤ 1125899906842624 := by
  unfold dsV
  by_cases hc : b - a > 1125899906842624
  · rw [if_pos hc]; omega
  · rw [if_neg hc]; omega
theorem less_any (a b : Int) (w : World) (ha : isI a) (hb : isI b) :
    Calls Tryd.prog 32 #[.int .i64 a, .int .i64 b] w fun e w' => e = .returned (.int .i64 (ctV a b)) ∧ w = w' := by
  by_cases h : a < b
  · have hv : ctV a b = - dsV a b := by
      unfold ctV dsV
      by_cases hc : b - a > 1125899906842624
      · rw [if_neg (by omega), if_pos (by omega), if_pos hc]
      · rw [if_neg (by omega), if_neg (by omega), if_neg hc]; omega
    have Hv := Lib.hid hv; clear hv
    obtain ⟨k1, k2⟩ := dsV_bd a b (by omega)
    go_enter Tryd.func32, Tryd.ntmps32
    go_wp2_with (go_at_call 41; refine (distance_any _ _ _ ha hb (by omega)).mono ?_; rintro e w' ⟨rfl, rfl⟩)
    go_ret
    exact ⟨by rw [Hv.out]; rfl, rfl⟩
  · have hv : ctV a b = dsV b a := by
      unfold ctV dsV
      by_cases hc : a - b > 1125899906842624
      · rw [if_pos (by omega), if_pos (by omega)]
      · rw [if_neg (by omega), if_neg (by omega), if_neg hc]
    have Hv := Lib.hid hv; clear hv
    go_enter Tryd.func32, Tryd.ntmps32
    go_wp2_with (go_at_call 41; refine (distance_any _ _ _ hb ha (by omega)).mono ?_; rintro e w' ⟨rfl, rfl⟩)
    go_ret
    exact ⟨by rw [Hv.out]; rfl, rfl⟩
theorem within_any (a b c : Int) (w : World) (ha : isI a) (hb : isI b) (hc : isI c) :
    Calls Tryd.prog 15 #[.int .i64 a, .int .i64 b, .int .i64 c] w fun e w' => e = .returned (.tuple #[.int .i64 (ctV a b), .int .i64 (ctV a c)]) ∧ w = w' := by
  go_enter Tryd.func15, Tryd.ntmps15
  go_wp2_with fail
  refine (less_any _ _ _ ha hb).mono ?_
  rintro e w' ⟨rfl, rfl⟩
  go_wp2_with fail
  refine (less_any _ _ _ ha hc).mono ?_
  rintro e w' ⟨rfl, rfl⟩
  go_wp2
  go_ret2
  exact ⟨rfl, rfl⟩

theorem cut_any (a b : Int) (w : World) (ha : isI a) (hb : isI b) :
    Calls Tryd.prog 33 #[.int .i64 a, .int .i64 b] w fun e w' => e = .returned (.int .i64 (ctV a b)) ∧ w = w' := by
  obtain ⟨a1, a2⟩ := ha
  obtain ⟨b1, b2⟩ := hb
  by_cases hn : b < 0
  · have hp : ¬ 0 < b := by omega
    have dn : decide (b < 0) = true := by simpa using hn
    have dp : decide (0 < b) = false := by simpa using hp
    by_cases h1 : 1125899906842624 + b < a
    · have d1 : decide (1125899906842624 + b < a) = true := by simpa using h1
      have hv : ctV a b = 1125899906842624 := by unfold ctV; rw [if_pos (by omega)]
      have Hv := Lib.hid hv; clear hv
      go_enter Tryd.func33, Tryd.ntmps33
      go_wp2
      go_ret
      exact ⟨by rw [Hv.out]; rfl, rfl⟩
    · have d1 : decide (1125899906842624 + b < a) = false := by simpa using h1
      have h2 : a - b ≤ 1125899906842624 := by omega
      by_cases h3 : a - b < -1125899906842624
      · have hv : ctV a b = -1125899906842624 := by unfold ctV; rw [if_neg (by omega), if_pos h3]
        have Hv := Lib.hid hv; clear hv
        go_enter Tryd.func33, Tryd.ntmps33
        go_wp2
        go_ret
        exact ⟨by rw [Hv.out]; rfl, rfl⟩
      · have hv : ctV a b = a - b := by unfold ctV; rw [if_neg (by omega), if_neg h3]
        have Hv := Lib.hid hv; clear hv
        go_enter Tryd.func33, Tryd.ntmps33
        go_wp2
        go_ret
        exact ⟨by rw [Hv.out]; rfl, rfl⟩
  · have dn : decide (b < 0) = false := by simpa using hn
    by_cases hp : 0 < b
    · have dp : decide (0 < b) = true := by simpa using hp
      by_cases h1 : a < -1125899906842624 + b
      · have d1 : decide (a < -1125899906842624 + b) = true := by simpa using h1
        have hv : ctV a b = -1125899906842624 := by unfold ctV; rw [if_neg (by omega), if_pos (by omega)]
        have Hv := Lib.hid hv; clear hv
        go_enter Tryd.func33, Tryd.ntmps33
        go_wp2
        go_ret
        exact ⟨by rw [Hv.out]; rfl, rfl⟩
      · have d1 : decide (a < -1125899906842624 + b) = false := by simpa using h1
        have h2 : -1125899906842624 ≤ a - b := by omega
        by_cases h3 : 1125899906842624 < a - b
        · have hv : ctV a b = 1125899906842624 := by unfold ctV; rw [if_pos h3]
          have Hv := Lib.hid hv; clear hv
          go_enter Tryd.func33, Tryd.ntmps33
          go_wp2
          go_ret
          exact ⟨by rw [Hv.out]; rfl, rfl⟩
        · have hv : ctV a b = a - b := by unfold ctV; rw [if_neg (by omega), if_neg (by omega)]
          have Hv := Lib.hid hv; clear hv
          go_enter Tryd.func33, Tryd.ntmps33
          go_wp2
          go_ret
          exact ⟨by rw [Hv.out]; rfl, rfl⟩
    · have h0 : b = 0 := by omega
      subst h0
      have dp : decide ((0 : Int) < 0) = false := by decide
      rcases (by omega : 1125899906842624 < a ∨ a < -1125899906842624 ∨ (-1125899906842624 ≤ a ∧ a ≤ 1125899906842624)) with h | h | ⟨h, h'⟩
      · have hv : ctV a 0 = 1125899906842624 := by unfold ctV; rw [if_pos (by omega)]
        have Hv := Lib.hid hv; clear hv
        go_enter Tryd.func33, Tryd.ntmps33
        go_wp2
        go_ret
        exact ⟨by rw [Hv.out]; rfl, rfl⟩
      · have hv : ctV a 0 = -1125899906842624 := by unfold ctV; rw [if_neg (by omega), if_pos (by omega)]
        have Hv := Lib.hid hv; clear hv
        go_enter Tryd.func33, Tryd.ntmps33
        go_wp2
        go_ret
        exact ⟨by rw [Hv.out]; rfl, rfl⟩
      · have hv : ctV a 0 = a := by unfold ctV; rw [if_neg (by omega), if_neg (by omega)]; omega
        have Hv := Lib.hid hv; clear hv
        go_enter Tryd.func33, Tryd.ntmps33
        go_wp2
        go_ret
        exact ⟨by rw [Hv.out]; rfl, rfl⟩
theorem ref_within_any (a b c : Int) (w : World) (ha : isI a) (hb : isI b) (hc : isI c) :
    Calls Tryd.prog 16 #[.int .i64 a, .int .i64 b, .int .i64 c] w fun e w' => e = .returned (.tuple #[.int .i64 (ctV a b), .int .i64 (ctV a c)]) ∧ w = w' := by
  go_enter Tryd.func16, Tryd.ntmps16
  go_wp2_with fail
  refine (cut_any _ _ _ ha hb).mono ?_
  rintro e w' ⟨rfl, rfl⟩
  go_wp2_with fail
  refine (cut_any _ _ _ ha hc).mono ?_
  rintro e w' ⟨rfl, rfl⟩
  go_wp2
  go_ret2
  exact ⟨rfl, rfl⟩
end Go.Proofs.YthjfmfacnknpfaaDoor
