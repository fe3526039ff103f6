/- Lists of labels in memory; what stays as it was. -/
import Derived.Test.YtllhkegefinlbaaGreatDoorProg
import Derived.Test.YtllhkegefinlbaaGreatDoorLabMath
import Derived.WalkKit
import Derived.WalkLawsBesides
import Derived.Handy
import Derived.Lib.Hide
import Derived.IntWalk
import Derived.Outline
import Derived.Deep.DeepMust
import Derived.Deep.RegionWith
import Derived.Below
import Derived.Deep.Draws
import Derived.Deep.QuietTactic
import Derived.BigQuiet
import Derived.Laws.OwnMore
import Derived.Laws.AppendOwn
namespace Go.Proofs.YtllhkegefinlbaaGreatDoor
open Go.RowKit
set_option maxRecDepth 100000

def ltrI (c : Int) : Bool := decide (65 ≤ c ∧ c ≤ 90 ∨ 97 ≤ c ∧ c ≤ 122 ∨ c = 95)
def digI (c : Int) : Bool := decide (48 ≤ c ∧ c ≤ 57)
def prnI (c : Int) : Bool := decide (32 ≤ c ∧ c < 127)
theorem letB_I (c : UInt8) : letB c = ltrI (c.toNat : Int) := by unfold letB ltrI; rw [decide_eq_decide]; omega
theorem digB_I (c : UInt8) : digB c = digI (c.toNat : Int) := by unfold digB digI; rw [decide_eq_decide]; omega
theorem dig_cases (c : Int) : (c < 48 ∧ digI c = false) ∨ (48 ≤ c ∧ c ≤ 57 ∧ digI c = true) ∨ (57 < c ∧ digI c = false) := by
  unfold digI; simp only [decide_eq_true_eq, decide_eq_false_iff_not]; omega
theorem prn_cases (c : Int) : (c < 32 ∧ prnI c = false) ∨ (32 ≤ c ∧ c < 127 ∧ prnI c = true) ∨ (127 ≤ c ∧ prnI c = false) := by
  unfold prnI; simp only [decide_eq_true_eq, decide_eq_false_iff_not]; omega
theorem let_cases (c : Int) : (c < 65 ∧ ltrI c = false) ∨ (65 ≤ c ∧ c ≤ 90 ∧ ltrI c = true) ∨ (90 < c ∧ c < 95 ∧ ltrI c = false) ∨ (c = 95 ∧ ltrI c = true) ∨ (95 < c ∧ c < 97 ∧ ltrI c = false) ∨ (97 ≤ c ∧ c ≤ 122 ∧ ltrI c = true) ∨ (122 < c ∧ ltrI c = false) := by
  unfold ltrI; simp only [decide_eq_true_eq, decide_eq_false_iff_not]; omega

theorem isDigit_any (c : Int) (w : World) :
    Calls Tryz.prog 60 #[.int .u8 c] w fun e w' => e = .returned (.bool (digI c)) ∧ w = w' := by
  rcases dig_cases c with ⟨h1, h⟩ | ⟨h1, h2, h⟩ | ⟨h1, h⟩
  all_goals
    have H := Lib.hid h; clear h
    go_enter Tryz.func60, Tryz.ntmps60
    go_wp2
    go_ret
    exact ⟨by rw [H.out]; first | rfl | (simp; omega), rfl⟩
theorem rDigit_any (c : Int) (w : World) :
    Calls Tryz.prog 64 #[.int .u8 c] w fun e w' => e = .returned (.bool (digI c)) ∧ w = w' := by
  rcases dig_cases c with ⟨h1, h⟩ | ⟨h1, h2, h⟩ | ⟨h1, h⟩
  all_goals
    have H := Lib.hid h; clear h
    go_enter Tryz.func64, Tryz.ntmps64
    go_wp2
    go_ret
    exact ⟨by rw [H.out]; first | rfl | (simp; omega), rfl⟩
theorem isLetter_any (c : Int) (w : World) :
    Calls Tryz.prog 61 #[.int .u8 c] w fun e w' => e = .returned (.bool (ltrI c)) ∧ w = w' := by
  rcases let_cases c with ⟨h1, h⟩ | ⟨h1, h2, h⟩ | ⟨h1, h2, h⟩ | ⟨rfl, h⟩ | ⟨h1, h2, h⟩ | ⟨h1, h2, h⟩ | ⟨h1, h⟩
  all_goals
    have H := Lib.hid h; clear h
    go_enter Tryz.func61, Tryz.ntmps61
    go_wp2
    go_ret
    exact ⟨by rw [H.out]; first | rfl | (simp; omega), rfl⟩
theorem letter_any (c : Int) (w : World) :
    Calls Tryz.prog 63 #[.int .u8 c] w fun e w' => e = .returned (.bool (ltrI c)) ∧ w = w' := by
  rcases let_cases c with ⟨h1, h⟩ | ⟨h1, h2, h⟩ | ⟨h1, h2, h⟩ | ⟨rfl, h⟩ | ⟨h1, h2, h⟩ | ⟨h1, h2, h⟩ | ⟨h1, h⟩
  all_goals
    have H := Lib.hid h; clear h
    go_enter Tryz.func63, Tryz.ntmps63
    go_wp2
    go_ret
    exact ⟨by rw [H.out]; first | rfl | (simp; omega), rfl⟩
end Go.Proofs.YtllhkegefinlbaaGreatDoor
namespace Go.Proofs.YtllhkegefinlbaaGreatDoor
open Go.RowKit
set_option maxRecDepth 100000

def chOK (c : UInt8) : Bool := letB c || digB c
def allOK (l : List UInt8) : Bool := l.all chOK
theorem drop_byte (s : ByteArray) (k : Nat) (h : k < s.size) : s.data.toList.drop k = s[k] :: s.data.toList.drop (k + 1) := by
  rw [List.drop_eq_getElem_cons (by simpa using h)]; rfl
theorem allOK_step (s : ByteArray) (k : Nat) (h : k < s.size) : allOK (s.data.toList.drop k) = ((ltrI s[k].toNat || digI s[k].toNat) && allOK (s.data.toList.drop (k + 1))) := by
  rw [drop_byte s k h]; unfold allOK chOK; rw [List.all_cons, letB_I, digB_I]
theorem allOK_end (s : ByteArray) : allOK (s.data.toList.drop s.size) = true := by
  rw [List.drop_of_length_le (by simp)]; rfl
theorem nameB_0 {s : ByteArray} (h : s.size = 0) : nameB s = false := by
  have : s.data.toList = [] := List.eq_nil_of_length_eq_zero (by simpa using h)
  unfold nameB; rw [this]; rfl
theorem nameB_big {s : ByteArray} (h : 64 < s.size) : nameB s = false := by
  unfold nameB
  have hl : 64 < s.data.toList.length := by simpa using h
  cases e : s.data.toList with
  | nil => rfl
  | cons c r => rw [e] at hl; simp only [List.length_cons] at hl; simp only [nameL, Bool.and_eq_false_iff]; left; left; simp; omega
theorem nameB_ltr {s : ByteArray} (h : 0 < s.size) (h2 : s.size ≤ 64) (c : ltrI s[0].toNat = true) : nameB s = allOK (s.data.toList.drop 1) := by
  have e := drop_byte s 0 h
  rw [List.drop_zero] at e
  have hl : s.data.toList.length ≤ 64 := by simpa using h2
  unfold nameB allOK chOK
  rw [e] at hl ⊢
  simp only [List.length_cons] at hl
  simp only [nameL, letB_I, c, decide_eq_true hl, Bool.true_and]
  rfl
theorem nameB_no {s : ByteArray} (h : 0 < s.size) (c : ltrI s[0].toNat = false) : nameB s = false := by
  have e := drop_byte s 0 h
  rw [List.drop_zero] at e
  unfold nameB
  rw [e]
  simp [nameL, letB_I, c]
theorem ltr_dig {c : Int} (h : ltrI c = true) : digI c = false := by unfold ltrI at h; unfold digI; simp at *; omega
theorem nameB_p {s : ByteArray} (h : 0 < s.size) (h2 : s.size ≤ 64) (c : digI s[0].toNat = false) : nameB s = allOK (s.data.toList.drop 0) := by
  rw [allOK_step s 0 h, c, Bool.or_false]
  cases hc : ltrI s[0].toNat
  · rw [nameB_no h hc]; rfl
  · rw [nameB_ltr h h2 hc]; rfl
theorem nameB_d {s : ByteArray} (h : 0 < s.size) (c : digI s[0].toNat = true) : nameB s = false := by
  refine nameB_no h ?_
  cases hc : ltrI s[0].toNat
  · rfl
  · rw [ltr_dig hc] at c; cases c
/-- a text that is none, or not: as the walk asks -/
theorem ne_facts {s : ByteArray} (h : 0 < s.size) : (¬ s.toList = []) ∧ (s.toList.isEmpty = false) ∧ ((!s.toList.isEmpty) = true) := by
  have : ¬ s.toList = [] := by
    rw [Lib.toList_data]; intro e
    have : s.data.toList.length = 0 := by rw [e]; rfl
    have : s.size = 0 := by simpa using this
    omega
  exact ⟨this, by simpa using this, by simpa using this⟩
theorem empty_eq {s : ByteArray} (h : s.size = 0) : s = ⟨#[]⟩ := by
  apply ByteArray.ext; apply Array.eq_empty_of_size_eq_zero; exact h

theorem name_any (s : ByteArray) (w : World) (hs : s.size ≤ maxLen) :
    Calls Tryz.prog 29 #[.string s] w fun e w' => e = .returned (.bool (nameB s)) ∧ w = w' := by
  unfold maxLen at hs
  by_cases h0 : s.size = 0
  · have H := Lib.hid (nameB_0 h0)
    obtain rfl := empty_eq h0
    clear h0 hs
    go_enter Tryz.func29, Tryz.ntmps29
    go_wp2
    go_ret
    exact ⟨by rw [H.out]; rfl, rfl⟩
  have h0 : 0 < s.size := by omega
  obtain ⟨n1, n2, n3⟩ := ne_facts h0
  by_cases h1 : 64 < s.size
  · have H := Lib.hid (nameB_big h1)
    go_enter Tryz.func29, Tryz.ntmps29
    go_wp2
    go_ret
    exact ⟨by rw [H.out]; rfl, rfl⟩
  have h1 : s.size ≤ 64 := by omega
  cases hd : digI s[0].toNat
  case true =>
    have H := Lib.hid (nameB_d h0 hd)
    go_enter Tryz.func29, Tryz.ntmps29
    go_wp2_with (go_at_call 60; refine (isDigit_any _ _).mono ?_; rintro e w' ⟨rfl, rfl⟩)
    go_ret
    exact ⟨by rw [H.out]; rfl, rfl⟩
  have H := Lib.hid (nameB_p h0 h1 hd)
  go_enter Tryz.func29, Tryz.ntmps29
  go_wp2_with (go_at_call 60; refine (isDigit_any _ _).mono ?_; rintro e w' ⟨rfl, rfl⟩)
  clear hd
  go_loop [18] (fun i => ∃ k : Nat, k ≤ s.size ∧ i = .int .i64 k ∧ Hid (nameB s = allOK (s.data.toList.drop k))) (fun i => s.size - (intOf i).toNat)
  case atStart => exact ⟨0, Nat.zero_le _, rfl, H⟩
  case round =>
    obtain ⟨k, hk, rfl, HR⟩ := hrel
    by_cases hlt : k < s.size
    · have HS := Lib.hid (allOK_step s k hlt)
      cases c1 : ltrI s[k].toNat <;> cases c2 : digI s[k].toNat
      case false.false =>
        go_wp2_with (first | (go_at_call 61; refine (isLetter_any _ _).mono ?_; rintro e w' ⟨rfl, rfl⟩) | (go_at_call 60; refine (isDigit_any _ _).mono ?_; rintro e w' ⟨rfl, rfl⟩))
        go_ret
        exact ⟨by rw [HR.out, HS.out, c1, c2]; rfl, rfl⟩
      all_goals
        have HN : Hid (nameB s = allOK (s.data.toList.drop (k + 1))) := Lib.hid (by rw [HR.out, HS.out, c1, c2]; rfl)
        go_wp2_with (first | (go_at_call 61; refine (isLetter_any _ _).mono ?_; rintro e w' ⟨rfl, rfl⟩) | (go_at_call 60; refine (isDigit_any _ _).mono ?_; rintro e w' ⟨rfl, rfl⟩))
        go_round
        case rel => exact ⟨k + 1, by omega, by go_num, HN⟩
        case measure => simp [intOf]; omega
    · obtain rfl : k = s.size := by omega
      have HE := Lib.hid (allOK_end s)
      go_wp2
      go_ret
      exact ⟨by rw [HR.out, HE.out]; rfl, rfl⟩

theorem rName_any (s : ByteArray) (w : World) (hs : s.size ≤ maxLen) :
    Calls Tryz.prog 31 #[.string s] w fun e w' => e = .returned (.bool (nameB s)) ∧ w = w' := by
  unfold maxLen at hs
  by_cases h0 : s.size = 0
  · have H := Lib.hid (nameB_0 h0)
    obtain rfl := empty_eq h0
    clear h0 hs
    go_enter Tryz.func31, Tryz.ntmps31
    go_wp2
    go_ret
    exact ⟨by rw [H.out]; rfl, rfl⟩
  have h0 : 0 < s.size := by omega
  obtain ⟨n1, n2, n3⟩ := ne_facts h0
  by_cases h1 : 64 < s.size
  · have H := Lib.hid (nameB_big h1)
    go_enter Tryz.func31, Tryz.ntmps31
    go_wp2
    go_ret
    exact ⟨by rw [H.out]; rfl, rfl⟩
  have h1 : s.size ≤ 64 := by omega
  cases hd : ltrI s[0].toNat
  case false =>
    have H := Lib.hid (nameB_no h0 hd)
    go_enter Tryz.func31, Tryz.ntmps31
    go_wp2_with (go_at_call 63; refine (letter_any _ _).mono ?_; rintro e w' ⟨rfl, rfl⟩)
    go_ret
    exact ⟨by rw [H.out]; rfl, rfl⟩
  have H := Lib.hid (nameB_ltr h0 h1 hd)
  go_enter Tryz.func31, Tryz.ntmps31
  go_wp2_with (go_at_call 63; refine (letter_any _ _).mono ?_; rintro e w' ⟨rfl, rfl⟩)
  clear hd
  go_loop [3] (fun i => ∃ k : Nat, k ≤ s.size ∧ i = .int .i64 k ∧ Hid (nameB s = allOK (s.data.toList.drop k))) (fun i => s.size - (intOf i).toNat)
  case atStart => exact ⟨1, by omega, rfl, H⟩
  case round =>
    obtain ⟨k, hk, rfl, HR⟩ := hrel
    by_cases hlt : k < s.size
    · have HS := Lib.hid (allOK_step s k hlt)
      cases c1 : ltrI s[k].toNat <;> cases c2 : digI s[k].toNat
      case false.false =>
        go_wp2_with (first | (go_at_call 63; refine (letter_any _ _).mono ?_; rintro e w' ⟨rfl, rfl⟩) | (go_at_call 64; refine (rDigit_any _ _).mono ?_; rintro e w' ⟨rfl, rfl⟩))
        go_ret
        exact ⟨by rw [HR.out, HS.out, c1, c2]; rfl, rfl⟩
      all_goals
        have HN : Hid (nameB s = allOK (s.data.toList.drop (k + 1))) := Lib.hid (by rw [HR.out, HS.out, c1, c2]; rfl)
        go_wp2_with (first | (go_at_call 63; refine (letter_any _ _).mono ?_; rintro e w' ⟨rfl, rfl⟩) | (go_at_call 64; refine (rDigit_any _ _).mono ?_; rintro e w' ⟨rfl, rfl⟩))
        go_round
        case rel => exact ⟨k + 1, by omega, by go_num, HN⟩
        case measure => simp [intOf]; omega
    · obtain rfl : k = s.size := by omega
      have HE := Lib.hid (allOK_end s)
      go_wp2
      go_ret
      exact ⟨by rw [HR.out, HE.out]; rfl, rfl⟩
end Go.Proofs.YtllhkegefinlbaaGreatDoor
namespace Go.Proofs.YtllhkegefinlbaaGreatDoor
open Go.RowKit

theorem below_drewN {B : Nat} {a w : World} (h : Below B a w) (n : Nat) : Below B a (w.drewN n) := ⟨h.os, h.tape, h.output, h.size, h.block⟩
/-- nothing that was there has changed -/
structure Gr (w w' : World) : Prop where
  b : Below w.heap.size w w'
theorem Gr.refl (w : World) : Gr w w := ⟨Below.refl _ _⟩
theorem Gr.alloc {w w' : World} (h : Gr w w') (c : Array Value) (t : TypeId) : Gr w (w'.alloc (.cells c t)) := ⟨h.b.alloc h.b.size _⟩
theorem Gr.setCell {w w' : World} (h : Gr w w') {a : Addr} (ha : w.heap.size ≤ a.block) (v : Value) : Gr w (w'.setCell a v) := ⟨h.b.setCell ha v⟩
theorem Gr.drewN {w w' : World} (h : Gr w w') (n : Nat) : Gr w (w'.drewN n) := ⟨below_drewN h.b n⟩
theorem Gr.drew {w w' : World} (h : Gr w w') : Gr w w'.drew := ⟨⟨h.b.os, h.b.tape, h.b.output, h.b.size, h.b.block⟩⟩
theorem Gr.trans {a b c : World} (h : Gr a b) (g : Gr b c) : Gr a c := ⟨h.b.trans (g.b.mono h.b.size)⟩
theorem Gr.cell {w w' : World} (g : Gr w w') {b o : Nat} {v : Value} (h : w.cell? ⟨b, o, none⟩ = some v) : w'.cell? ⟨b, o, none⟩ = some v :=
  (g.b.cell (p := ⟨b, o, none⟩) (World.block_lt_of_cell? w _ h)).trans h
theorem Gr.size {w w' : World} (g : Gr w w') : w.heap.size ≤ w'.heap.size := g.b.size

theorem quiet_left {P : Program} {f : FuncId} {args : Array Value} {w : World} {n : Nat} {v : Value}
    (h : Calls P f args (w.drewN n) fun e w' => e = .returned v ∧ w.drewN n = w') : Calls P f args (w.drewN n) fun e w'' => e = .returned v ∧ ∃ m, w'' = w.drewN m :=
  h.mono fun _ _ ⟨he, hm⟩ => ⟨he, n, hm.symm⟩
theorem quiet_add_left {P : Program} {f : FuncId} {args : Array Value} {w : World} {a n : Nat} {v : Value}
    (h : Calls P f args (w.drewN (a + n)) fun e w' => e = .returned v ∧ w.drewN (a + n) = w') :
    Calls P f args (w.drewN (a + n)) fun e w'' => e = .returned v ∧ ∃ m, w'' = w.drewN (a + m) :=
  h.mono fun _ _ ⟨he, hm⟩ => ⟨he, n, hm.symm⟩
/-- a slice of labels reads as a list -/
def LabsAt (W : World) (A : Option Addr) (l : List Lb) : Prop :=
  0 < l.length → ∃ b o, A = some ⟨b, o, none⟩ ∧ ∀ i x, l[i]? = some x → W.cell? ⟨b, o + i * 2, none⟩ = some (.string x.1) ∧ W.cell? ⟨b, o + i * 2 + 1, none⟩ = some (.string x.2)
/-- the texts are such as the model has -/
def Wd (l : List Lb) : Prop := ∀ x ∈ l, x.1.size ≤ maxLen ∧ x.2.size ≤ maxLen
theorem LabsAt.gr {W W' : World} {A : Option Addr} {l : List Lb} (h : LabsAt W A l) (g : Gr W W') : LabsAt W' A l := fun h0 => by
  obtain ⟨b, o, e, hc⟩ := h h0
  exact ⟨b, o, e, fun i x hx => ⟨g.cell (hc i x hx).1, g.cell (hc i x hx).2⟩⟩
theorem LabsAt.none_ (W : World) (A : Option Addr) : LabsAt W A [] := fun h => absurd h (by simp)
theorem LabsAt.at_ {W : World} {A : Option Addr} {l : List Lb} (h : LabsAt W A l) {k : Nat} (hk : k < l.length) :
    ∃ b o, A = some ⟨b, o, none⟩ ∧ W.cell? ⟨b, o + k * 2, none⟩ = some (.string (l[k]).1) ∧ W.cell? ⟨b, o + k * 2 + 1, none⟩ = some (.string (l[k]).2) ∧ b < W.heap.size := by
  obtain ⟨b, o, e, hc⟩ := h (by omega)
  obtain ⟨h1, h2⟩ := hc k _ (List.getElem?_eq_getElem hk)
  exact ⟨b, o, e, h1, h2, World.block_lt_of_cell? W _ h1⟩
theorem LabsAt.two {W : World} {A : Option Addr} {l : List Lb} (h : LabsAt W A l) {k j : Nat} (hk : k < l.length) (hj : j < l.length) :
    ∃ b o, A = some ⟨b, o, none⟩ ∧ W.cell? ⟨b, o + k * 2, none⟩ = some (.string (l[k]).1) ∧ W.cell? ⟨b, o + k * 2 + 1, none⟩ = some (.string (l[k]).2) ∧ W.cell? ⟨b, o + j * 2, none⟩ = some (.string (l[j]).1) ∧ W.cell? ⟨b, o + j * 2 + 1, none⟩ = some (.string (l[j]).2) ∧ b < W.heap.size := by
  obtain ⟨b, o, e, hc⟩ := h (by omega)
  obtain ⟨h1, h2⟩ := hc k _ (List.getElem?_eq_getElem hk)
  obtain ⟨h3, h4⟩ := hc j _ (List.getElem?_eq_getElem hj)
  exact ⟨b, o, e, h1, h2, h3, h4, World.block_lt_of_cell? W _ h1⟩

/-! right: step by step -/
def okUpTo (l : List Lb) (k : Nat) : Prop := ∀ i, i < k → okAt l i
theorem right_all {l : List Lb} (h : okUpTo l l.length) (h32 : l.length ≤ 32) : rightB l = true := rightB_t.2 ⟨h32, h⟩
theorem right_not {l : List Lb} {k : Nat} (hk : k < l.length) (h : ¬ okAt l k) : rightB l = false := rightB_f.2 fun hr => h (hr.2 k hk)
theorem right_big {l : List Lb} (h : 32 < l.length) : rightB l = false := rightB_f.2 fun hr => by have := hr.1; omega
theorem okUpTo_0 (l : List Lb) : okUpTo l 0 := fun i hi => absurd hi (by omega)
theorem okUpTo_s {l : List Lb} {k : Nat} (h : okUpTo l k) (g : okAt l k) : okUpTo l (k + 1) := fun i hi => by
  by_cases e : i = k
  · exact e ▸ g
  · exact h i (by omega)
/-- a label's own test -/
theorem okAt_n {l : List Lb} {k : Nat} (hk : k < l.length) (h : nameB (l[k]).1 = false) : ¬ okAt l k := by
  rintro ⟨x, hx, ho, _⟩
  rw [List.getElem?_eq_getElem hk] at hx; cases hx
  simp [okV, h] at ho
theorem okAt_v {l : List Lb} {k : Nat} (hk : k < l.length) (h : (l[k]).2.size = 0 ∨ 256 < (l[k]).2.size) : ¬ okAt l k := by
  rintro ⟨x, hx, ho, _⟩
  rw [List.getElem?_eq_getElem hk] at hx; cases hx
  simp [okV] at ho; omega
theorem okAt_l {l : List Lb} {k : Nat} (hk : k < l.length) (h0 : 0 < k) (h : ltS (l[k - 1]).1 (l[k]).1 = false) : ¬ okAt l k := by
  rintro ⟨x, hx, _, ho⟩
  rw [List.getElem?_eq_getElem hk] at hx; cases hx
  have := ho _ h0 (List.getElem?_eq_getElem (by omega))
  rw [h] at this; cases this
theorem okAt_y {l : List Lb} {k : Nat} (hk : k < l.length) (h1 : nameB (l[k]).1 = true) (h2 : 0 < (l[k]).2.size) (h3 : (l[k]).2.size ≤ 256) (h4 : k = 0 ∨ 0 < k ∧ ltS (l[k - 1]).1 (l[k]).1 = true) : okAt l k := by
  refine ⟨l[k], List.getElem?_eq_getElem hk, by simp [okV, h1]; omega, fun y h0 hy => ?_⟩
  rcases h4 with h4 | ⟨_, h4⟩
  · omega
  · rw [List.getElem?_eq_getElem (by omega)] at hy; cases hy; exact h4
end Go.Proofs.YtllhkegefinlbaaGreatDoor
