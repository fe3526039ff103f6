/- Layer 3's names: Name, of the program and of the reference. -/
import Derived.Test.YtihiklmomhhdbaaDoorProg
import Derived.Test.YtihiklmomhhdbaaDoorLabMath
import Derived.WalkKit
import Derived.WalkLawsBesides
import Derived.Handy
import Derived.Lib.Hide
import Derived.IntWalk
import Derived.Outline
namespace Go.Proofs.YtihiklmomhhdbaaDoor
open Go.RowKit
set_option maxRecDepth 100000

def ltrI (c : Int) : Bool := decide (65 ≤ c ∧ c ≤ 90 ∨ 97 ≤ c ∧ c ≤ 122 ∨ c = 95)
def digI (c : Int) : Bool := decide (48 ≤ c ∧ c ≤ 57)
def prnI (c : Int) : Bool := decide (32 ≤ c ∧ c < 127)
theorem letB_I (c : UInt8) : letB c = ltrI (c.toNat : Int) := by unfold letB ltrI; rw [decide_eq_decide]; omega
theorem digB_I (c : UInt8) : digB c = digI (c.toNat : Int) := by unfold digB digI; rw [decide_eq_decide]; omega
theorem dig_cases (c : Int) : (c < 48 ∧ digI c = false) ∨ (48 ≤ c ∧ c ≤ 57 ∧ digI c = true) ∨ (57 < c ∧ digI c = false) := by
  unfold digI; simp only [decide_eq_true_eq, decide_eq_false_iff_not]; omega
theorem prn_cases (c : Int) : (c < 32 ∧ prnI c = false) ∨ (32 ≤ c ∧ c < 127 ∧ prnI c = true) ∨ (127 ≤ c ∧ prnI c = false) := by
  unfold prnI; simp only [decide_eq_true_eq, decide_eq_false_iff_not]; omega
theorem let_cases (c : Int) : (c < 65 ∧ ltrI c = false) ∨ (65 ≤ c ∧ c ≤ 90 ∧ ltrI c = true) ∨ (90 < c ∧ c < 95 ∧ ltrI c = false) ∨ (c = 95 ∧ ltrI c = true) ∨ (95 < c ∧ c < 97 ∧ ltrI c = false) ∨ (97 ≤ c ∧ c ≤ 122 ∧ ltrI c = true) ∨ (122 < c ∧ ltrI c = false) := by
  unfold ltrI; simp only [decide_eq_true_eq, decide_eq_false_iff_not]; omega

theorem isDigit_any (c : Int) (w : World) :
    Calls Tryd.prog 45 #[.int .u8 c] w fun e w' => e = .returned (.bool (digI c)) ∧ w = w' := by
  rcases dig_cases c with ⟨h1, h⟩ | ⟨h1, h2, h⟩ | ⟨h1, h⟩
  all_goals
    have H := Lib.hid h; clear h
    go_enter Tryd.func45, Tryd.ntmps45
    go_wp2
    go_ret
    exact ⟨by rw [H.out]; first | rfl | (simp; omega), rfl⟩
theorem isLetter_any (c : Int) (w : World) :
    Calls Tryd.prog 46 #[.int .u8 c] w fun e w' => e = .returned (.bool (ltrI c)) ∧ w = w' := by
  rcases let_cases c with ⟨h1, h⟩ | ⟨h1, h2, h⟩ | ⟨h1, h2, h⟩ | ⟨rfl, h⟩ | ⟨h1, h2, h⟩ | ⟨h1, h2, h⟩ | ⟨h1, h⟩
  all_goals
    have H := Lib.hid h; clear h
    go_enter Tryd.func46, Tryd.ntmps46
    go_wp2
    go_ret
    exact ⟨by rw [H.out]; first | rfl | (simp; omega), rfl⟩
end Go.Proofs.YtihiklmomhhdbaaDoor
namespace Go.Proofs.YtihiklmomhhdbaaDoor
open Go.RowKit
set_option maxRecDepth 100000

def chOK (c : UInt8) : Bool := letB c || digB c
def allOK (l : List UInt8) : Bool := l.all chOK
theorem drop_byte (s : ByteArray) (k : Nat) (h : k < s.size) : s.data.toList.drop k = s[k] :: s.data.toList.drop (k + 1) := by
  rw [List.drop_eq_getElem_cons (by simpa using h)]; rfl
theorem allOK_step (s : ByteArray) (k : Nat) (h : k < s.size) : allOK (s.data.toList.drop k) = ((ltrI s[k].toNat || digI s[k].toNat) && allOK (s.data.toList.drop (k + 1))) := by
  rw [drop_byte s k h]; unfold allOK chOK; rw [List.all_cons, letB_I, digB_I]
theorem allOK_end (s : ByteArray) : allOK (s.data.toList.drop s.size) = true := by
  rw [List.drop_of_length_le (by simp)]; rfl
theorem nameB_0 {s : ByteArray} (h : s.size = 0) : nameB s = false := by
  have : s.data.toList = [] := List.eq_nil_of_length_eq_zero (by simpa using h)
  unfold nameB; rw [this]; rfl
theorem nameB_big {s : ByteArray} (h : 64 < s.size) : nameB s = false := by
  unfold nameB
  have hl : 64 < s.data.toList.length := by simpa using h
  cases e : s.data.toList with
  | nil => rfl
  | cons c r => rw [e] at hl; simp only [List.length_cons] at hl; simp only [nameL, Bool.and_eq_false_iff]; left; left; simp; omega
theorem nameB_ltr {s : ByteArray} (h : 0 < s.size) (h2 : s.size ≤ 64) (c : ltrI s[0].toNat = true) : nameB s = allOK (s.data.toList.drop 1) := by
  have e := drop_byte s 0 h
  rw [List.drop_zero] at e
  have hl : s.data.toList.length ≤ 64 := by simpa using h2
  unfold nameB allOK chOK
  rw [e] at hl ⊢
  simp only [List.length_cons] at hl
  simp only [nameL, letB_I, c, decide_eq_true hl, Bool.true_and]
  rfl
theorem nameB_no {s : ByteArray} (h : 0 < s.size) (c : ltrI s[0].toNat = false) : nameB s = false := by
  have e := drop_byte s 0 h
  rw [List.drop_zero] at e
  unfold nameB
  rw [e]
  simp [nameL, letB_I, c]
theorem ltr_dig {c : Int} (h : ltrI c = true) : digI c = false := by unfold ltrI at h; unfold digI; simp at *; omega
theorem nameB_p {s : ByteArray} (h : 0 < s.size) (h2 : s.size ≤ 64) (c : digI s[0].toNat = false) : nameB s = allOK (s.data.toList.drop 0) := by
  rw [allOK_step s 0 h, c, Bool.or_false]
  cases hc : ltrI s[0].toNat
  · rw [nameB_no h hc]; rfl
  · rw [nameB_ltr h h2 hc]; rfl
theorem nameB_d {s : ByteArray} (h : 0 < s.size) (c : digI s[0].toNat = true) : nameB s = false := by
  refine nameB_no h ?_
  cases hc : ltrI s[0].toNat
  · rfl
  · rw [ltr_dig hc] at c; cases c
/-- a text that is none, or not: as the walk asks -/
theorem ne_facts {s : ByteArray} (h : 0 < s.size) : (¬ s.toList = []) ∧ (s.toList.isEmpty = false) ∧ ((!s.toList.isEmpty) = true) := by
  have : ¬ s.toList = [] := by
    rw [Lib.toList_data]; intro e
    have : s.data.toList.length = 0 := by rw [e]; rfl
    have : s.size = 0 := by simpa using this
    omega
  exact ⟨this, by simpa using this, by simpa using this⟩
theorem empty_eq {s : ByteArray} (h : s.size = 0) : s = ⟨#[]⟩ := by
  apply ByteArray.ext; apply Array.eq_empty_of_size_eq_zero; exact h

theorem name_any (s : ByteArray) (w : World) (hs : s.size ≤ maxLen) :
    Calls Tryd.prog 27 #[.string s] w fun e w' => e = .returned (.bool (nameB s)) ∧ w = w' := by
  unfold maxLen at hs
  by_cases h0 : s.size = 0
  · have H := Lib.hid (nameB_0 h0)
    obtain rfl := empty_eq h0
    clear h0 hs
    go_enter Tryd.func27, Tryd.ntmps27
    go_wp2
    go_ret
    exact ⟨by rw [H.out]; rfl, rfl⟩
  have h0 : 0 < s.size := by omega
  obtain ⟨n1, n2, n3⟩ := ne_facts h0
  by_cases h1 : 64 < s.size
  · have H := Lib.hid (nameB_big h1)
    go_enter Tryd.func27, Tryd.ntmps27
    go_wp2
    go_ret
    exact ⟨by rw [H.out]; rfl, rfl⟩
  have h1 : s.size ≤ 64 := by omega
  cases hd : digI s[0].toNat
  case true =>
    have H := Lib.hid (nameB_d h0 hd)
    go_enter Tryd.func27, Tryd.ntmps27
    go_wp2_with (go_at_call 45; refine (isDigit_any _ _).mono ?_; rintro e w' ⟨rfl, rfl⟩)
    go_ret
    exact ⟨by rw [H.out]; rfl, rfl⟩
  have H := Lib.hid (nameB_p h0 h1 hd)
  go_enter Tryd.func27, Tryd.ntmps27
  go_wp2_with (go_at_call 45; refine (isDigit_any _ _).mono ?_; rintro e w' ⟨rfl, rfl⟩)
  clear hd
  go_loop [18] (fun i => ∃ k : Nat, k ≤ s.size ∧ i = .int .i64 k ∧ Hid (nameB s = allOK (s.data.toList.drop k))) (fun i => s.size - (intOf i).toNat)
  case atStart => exact ⟨0, Nat.zero_le _, rfl, H⟩
  case round =>
    obtain ⟨k, hk, rfl, HR⟩ := hrel
    by_cases hlt : k < s.size
    · have HS := Lib.hid (allOK_step s k hlt)
      cases c1 : ltrI s[k].toNat <;> cases c2 : digI s[k].toNat
      case false.false =>
        go_wp2_with (first | (go_at_call 46; refine (isLetter_any _ _).mono ?_; rintro e w' ⟨rfl, rfl⟩) | (go_at_call 45; refine (isDigit_any _ _).mono ?_; rintro e w' ⟨rfl, rfl⟩))
        go_ret
        exact ⟨by rw [HR.out, HS.out, c1, c2]; rfl, rfl⟩
      all_goals
        have HN : Hid (nameB s = allOK (s.data.toList.drop (k + 1))) := Lib.hid (by rw [HR.out, HS.out, c1, c2]; rfl)
        go_wp2_with (first | (go_at_call 46; refine (isLetter_any _ _).mono ?_; rintro e w' ⟨rfl, rfl⟩) | (go_at_call 45; refine (isDigit_any _ _).mono ?_; rintro e w' ⟨rfl, rfl⟩))
        go_round
        case rel => exact ⟨k + 1, by omega, by go_num, HN⟩
        case measure => simp [intOf]; omega
    · obtain rfl : k = s.size := by omega
      have HE := Lib.hid (allOK_end s)
      go_wp2
      go_ret
      exact ⟨by rw [HR.out, HE.out]; rfl, rfl⟩

end Go.Proofs.YtihiklmomhhdbaaDoor
