/- The walk of RegexRepeats. -/
import Derived.Test.YtnbanlakmalbhaaEscT
import Derived.Test.YtnbanlakmalbhaaLawNested
namespace Go.Proofs.Ytnbanlakmalbhaa
open Go.RowKit
set_option maxRecDepth 100000
set_option maxHeartbeats 8000000

theorem str_catS (l : List UInt8) (s : ByteArray) : Value.string (⟨l.toArray⟩ ++ s : ByteArray) = .string ⟨(l ++ s.data.toList).toArray⟩ := by
  have e : (⟨l.toArray⟩ ++ s : ByteArray) = ⟨(l ++ s.data.toList).toArray⟩ := by
    apply ByteArray.ext
    simp [ByteArray.data_append]
  rw [e]
theorem lawRep_out (s : ByteArray) (n : Int) (w : World) (h : ¬ (0 < s.size ∧ s.size ≤ 20 ∧ 0 ≤ n ∧ n ≤ 20)) :
    Calls Try.prog 6 #[.string s, .int .i64 n] w fun e w' => e = .returned (.bool true) ∧ Gr w w' := by
  have CK := Lib.hid (fun W => known_any W)
  have key : ((s.size : Int) == 0) = true ∨ (((s.size : Int) == 0) = false ∧ decide ((20 : Int) < (s.size : Int)) = true) ∨ (((s.size : Int) == 0) = false ∧ decide ((20 : Int) < (s.size : Int)) = false ∧ decide (n < 0) = true) ∨ (((s.size : Int) == 0) = false ∧ decide ((20 : Int) < (s.size : Int)) = false ∧ decide (n < 0) = false ∧ decide ((20 : Int) < n) = true) := by
    by_cases a0 : s.size = 0
    · exact .inl (beq_iff_eq.2 (by omega))
    · have e0 : ((s.size : Int) == 0) = false := beq_eq_false_iff_ne.2 (by omega)
      by_cases a1 : 20 < s.size
      · exact .inr (.inl ⟨e0, decide_eq_true (by omega)⟩)
      · have e1 : decide ((20 : Int) < (s.size : Int)) = false := decide_eq_false (by omega)
        by_cases a2 : n < 0
        · exact .inr (.inr (.inl ⟨e0, e1, decide_eq_true a2⟩))
        · exact .inr (.inr (.inr ⟨e0, e1, decide_eq_false a2, decide_eq_true (by omega)⟩))
  clear h
  rcases key with h | ⟨h1, h2⟩ | ⟨h1, h2, h3⟩ | ⟨h1, h2, h3, h4⟩
  all_goals
    go_enter Try.func6, Try.ntmps6
    go_wp2_with fail
    refine (CK.out _).mono ?_
    rintro e w1 ⟨rfl, hg1⟩
    go_wp2
    go_ret
    exact ⟨rfl, hg1⟩
def repText (s : ByteArray) (c : UInt8) : ByteArray := (⟨#[40]⟩ ++ ⟨(escS s.data.toList).toArray⟩ ++ ⟨#[41]⟩ ++ ⟨#[c]⟩ : ByteArray)
theorem repText_list (s : ByteArray) (c : UInt8) : (repText s c).data.toList = 40 :: (escS s.data.toList ++ [41, c]) := by
  unfold repText
  simp [ByteArray.data_append]
theorem repText_any (s : ByteArray) (hs : s.size ≤ 2000) (c : UInt8) (j : Nat) (hj : (c = 42 ∧ j = 3) ∨ (c = 43 ∧ j = 4) ∨ (c = 63 ∧ j = 5)) (W : World) :
    Calls Try.prog 10 #[.string (repText s c)] W fun e w' => Gr W w' ∧ ∃ P, e = .returned (.tuple #[.pointer (some ⟨P, 0, none⟩), .int .i64 0, .int .i64 0]) ∧ Pat w' P (repN j s.data.toList) := by
  have hl : s.data.toList.length = s.size := by simp
  refine tree_yes (by rw [repText_list]; exact rep_tree _ (by omega) c j hj) ?_ W
  have h1 := escS_len s.data.toList
  have : (repText s c).size = (repText s c).data.toList.length := by simp
  rw [this, repText_list]
  simp
  omega
theorem lawRep_in (s : ByteArray) (n : Nat) (w : World) (h1 : 0 < s.size) (h2 : s.size ≤ 20) (h3 : n ≤ 20) :
    Calls Try.prog 6 #[.string s, .int .i64 n] w fun e w' => e = .returned (.bool true) ∧ Gr w w' := by
  have CK := Lib.hid (fun W => known_any W)
  have CE := Lib.hid (fun W => escape_any s W (by omega))
  have C3 := Lib.hid (fun W => repText_any s (by omega) 42 3 (.inl ⟨rfl, rfl⟩) W)
  have C4 := Lib.hid (fun W => repText_any s (by omega) 43 4 (.inr (.inl ⟨rfl, rfl⟩)) W)
  have C5 := Lib.hid (fun W => repText_any s (by omega) 63 5 (.inr (.inr ⟨rfl, rfl⟩)) W)
  unfold repText at C3 C4 C5
  have hsl : s.data.toList.length = s.size := by simp
  have hel := escS_len s.data.toList
  rw [hsl] at hel
  have M3 := Lib.hid (fun hw => rep_star n s.data.toList hw)
  have M4 := Lib.hid (fun hw => rep_plus n s.data.toList (by omega) hw)
  have M5 := Lib.hid (fun hw => rep_opt n s.data.toList (by omega) hw)
  obtain ⟨N3, hN3⟩ : ∃ N, repN 3 s.data.toList = N := ⟨_, rfl⟩
  obtain ⟨N4, hN4⟩ : ∃ N, repN 4 s.data.toList = N := ⟨_, rfl⟩
  obtain ⟨N5, hN5⟩ : ∃ N, repN 5 s.data.toList = N := ⟨_, rfl⟩
  rw [hN3] at C3 M3
  rw [hN4] at C4 M4
  rw [hN5] at C5 M5
  clear hN3 hN4 hN5
  obtain ⟨E, hE⟩ : ∃ E, escS s.data.toList = E := ⟨_, rfl⟩
  rw [hE] at C3 C4 C5 CE hel
  clear hE
  have htl := times_len n s.data.toList
  rw [hsl] at htl
  have htl2 : n * s.size ≤ 20 * 20 := Nat.mul_le_mul h3 h2
  obtain ⟨T, hT⟩ : ∃ T, timesT n s.data.toList = T := ⟨_, rfl⟩
  have HT := Lib.hid hT
  rw [hT] at M3 M4 M5 htl
  clear hT
  have HSL := Lib.hid hsl
  clear hsl
  have n0 : ((s.size : Int) == 0) = false := beq_eq_false_iff_ne.2 (by omega)
  have n2 : ¬ (20 : Int) < (s.size : Int) := by omega
  have n3 : ¬ (n : Int) < 0 := by omega
  have n4 : ¬ (20 : Int) < (n : Int) := by omega
  have z1 : ¬ 9223372036854775807 < 1 + E.length := by omega
  have z2 : ¬ 9223372036854775807 < 1 + E.length + 1 := by omega
  have z3 : ¬ 9223372036854775807 < 1 + E.length + 1 + 1 := by omega
  go_enter Try.func6, Try.ntmps6
  go_wp2_with fail
  refine (CK.out _).mono ?_
  rintro e w1 ⟨rfl, hg1⟩
  go_wp2
  go_loopw [5, 6] (fun t i wr => ∃ (k : Nat) (l : List UInt8), i = .int .i64 k ∧ t = .string ⟨l.toArray⟩ ∧ k ≤ n ∧ Hid (l = timesT k s.data.toList) ∧ l.length = k * s.size ∧ Gr w wr) (fun _ i _ => n - (intOf i).toNat)
  case atStart => exact ⟨0, [], rfl, rfl, Nat.zero_le _, Lib.hid rfl, by simp, hg1⟩
  case round =>
    clear hg1 htl htl2
    obtain ⟨k, l, rfl, rfl, hk, HL, hl, hg⟩ := hrel
    have hm : k * s.size ≤ 20 * 20 := Nat.mul_le_mul (by omega) h2
    have z : ¬ 9223372036854775807 < l.length + s.size := by omega
    by_cases hlt : k < n
    · have b1 : (k : Int) < (n : Int) := by omega
      have HSL2 : Hid (l.length + s.size = (k + 1) * s.size) := Lib.hid (by rw [Nat.succ_mul, hl])
      clear hl hm
      go_wp2
      go_roundw
      case rel => exact ⟨k + 1, l ++ s.data.toList, by go_num, str_catS l s, by omega, Lib.hid (by rw [HL.out]; unfold timesT; rw [rep_flat]), by rw [List.length_append, HSL.out]; exact HSL2.out, hg⟩
      case measure => simp [intOf]; omega
    · have b1 : ¬ (k : Int) < (n : Int) := by omega
      have hlT : l = T := by rw [HL.out, show k = n by omega]; exact HT.out
      have HZ : Hid ((⟨l.toArray⟩ : ByteArray).size ≤ 1000000000000) := Lib.hid (by rw [lit_size]; omega)
      have X3 := Lib.hid (fun (P : Nat) W (h : Pat W P N3) => pm (x := true) h (Gr.refl W) ⟨l.toArray⟩ HZ.out (by rw [hlT]; exact M3.out h.w))
      have X4 := Lib.hid (fun (P : Nat) W (h : Pat W P N4) => pm (x := decide (0 < n)) h (Gr.refl W) ⟨l.toArray⟩ HZ.out (by rw [hlT]; exact M4.out h.w))
      have X5 := Lib.hid (fun (P : Nat) W (h : Pat W P N5) => pm (x := decide (n ≤ 1)) h (Gr.refl W) ⟨l.toArray⟩ HZ.out (by rw [hlT]; exact M5.out h.w))
      have HG := Lib.hid hg
      clear hlT HL hl hm HT M3 M4 M5 HZ hg
      go_wp2_with fail
      refine (CE.out _).mono ?_
      rintro e w2 ⟨rfl, g2⟩
      have G2 := Lib.hid (HG.out.trans g2)
      clear g2
      go_wp2_with fail
      refine (C3.out _).mono ?_
      rintro e w3 ⟨g3, P, rfl, hP⟩
      have G3 := Lib.hid (G2.out.trans g3)
      have HP := Lib.hid hP
      clear g3 hP
      go_wp2_with fail
      refine (C4.out _).mono ?_
      rintro e w4 ⟨g4, Q, rfl, hQ⟩
      have G4 := Lib.hid (G3.out.trans g4)
      have HP4 := Lib.hid (HP.out.gr g4)
      have HQ := Lib.hid hQ
      clear g4 hQ
      go_wp2_with fail
      refine (C5.out _).mono ?_
      rintro e w5 ⟨g5, O, rfl, hO⟩
      have G5 := Lib.hid (G4.out.trans g5)
      have HP5 := Lib.hid (HP4.out.gr g5)
      have HQ5 := Lib.hid (HQ.out.gr g5)
      have HO := Lib.hid hO
      clear g5 hO
      go_wp2_with fail
      refine (X3.out P _ HP5.out).mono ?_
      rintro e w6 ⟨rfl, g6⟩
      have G6 := Lib.hid (G5.out.trans g6)
      have HQ6 := Lib.hid (HQ5.out.gr g6)
      have HO6 := Lib.hid (HO.out.gr g6)
      clear g6
      have key : n = 0 ∨ n = 1 ∨ 2 ≤ n := by omega
      rcases key with hn | hn | hn
      · have Y4 : Hid (∀ P W (_ : Pat W P N4), Calls Try.prog 14 #[.pointer (some ⟨P, 0, none⟩), .string ⟨l.toArray⟩] W fun e w' => e = .returned (.bool false) ∧ Gr W w') := Lib.hid (by have := X4.out; rw [decide_eq_false (by omega)] at this; exact this)
        have Y5 : Hid (∀ P W (_ : Pat W P N5), Calls Try.prog 14 #[.pointer (some ⟨P, 0, none⟩), .string ⟨l.toArray⟩] W fun e w' => e = .returned (.bool true) ∧ Gr W w') := Lib.hid (by have := X5.out; rw [decide_eq_true (by omega)] at this; exact this)
        have m1 : decide ((0 : Int) < (n : Int)) = false := by simp; omega
        have m2 : decide ((n : Int) ≤ 1) = true := by simp; omega
        clear X4 X5
        go_wp2_with fail
        refine (Y4.out Q _ HQ6.out).mono ?_
        rintro e w7 ⟨rfl, g7⟩
        have G7 := Lib.hid (G6.out.trans g7)
        have HO7 := Lib.hid (HO6.out.gr g7)
        clear g7
        go_wp2_with fail
        refine (Y5.out O _ HO7.out).mono ?_
        rintro e w8 ⟨rfl, g8⟩
        go_wp2
        go_ret
        exact ⟨rfl, G7.out.trans g8⟩
      · have Y4 : Hid (∀ P W (_ : Pat W P N4), Calls Try.prog 14 #[.pointer (some ⟨P, 0, none⟩), .string ⟨l.toArray⟩] W fun e w' => e = .returned (.bool true) ∧ Gr W w') := Lib.hid (by have := X4.out; rw [decide_eq_true (by omega)] at this; exact this)
        have Y5 : Hid (∀ P W (_ : Pat W P N5), Calls Try.prog 14 #[.pointer (some ⟨P, 0, none⟩), .string ⟨l.toArray⟩] W fun e w' => e = .returned (.bool true) ∧ Gr W w') := Lib.hid (by have := X5.out; rw [decide_eq_true (by omega)] at this; exact this)
        have m1 : decide ((0 : Int) < (n : Int)) = true := by simp; omega
        have m2 : decide ((n : Int) ≤ 1) = true := by simp; omega
        clear X4 X5
        go_wp2_with fail
        refine (Y4.out Q _ HQ6.out).mono ?_
        rintro e w7 ⟨rfl, g7⟩
        have G7 := Lib.hid (G6.out.trans g7)
        have HO7 := Lib.hid (HO6.out.gr g7)
        clear g7
        go_wp2_with fail
        refine (Y5.out O _ HO7.out).mono ?_
        rintro e w8 ⟨rfl, g8⟩
        go_wp2
        go_ret
        exact ⟨rfl, G7.out.trans g8⟩
      · have Y4 : Hid (∀ P W (_ : Pat W P N4), Calls Try.prog 14 #[.pointer (some ⟨P, 0, none⟩), .string ⟨l.toArray⟩] W fun e w' => e = .returned (.bool true) ∧ Gr W w') := Lib.hid (by have := X4.out; rw [decide_eq_true (by omega)] at this; exact this)
        have Y5 : Hid (∀ P W (_ : Pat W P N5), Calls Try.prog 14 #[.pointer (some ⟨P, 0, none⟩), .string ⟨l.toArray⟩] W fun e w' => e = .returned (.bool false) ∧ Gr W w') := Lib.hid (by have := X5.out; rw [decide_eq_false (by omega)] at this; exact this)
        have m1 : decide ((0 : Int) < (n : Int)) = true := by simp; omega
        have m2 : decide ((n : Int) ≤ 1) = false := by simp; omega
        clear X4 X5
        go_wp2_with fail
        refine (Y4.out Q _ HQ6.out).mono ?_
        rintro e w7 ⟨rfl, g7⟩
        have G7 := Lib.hid (G6.out.trans g7)
        have HO7 := Lib.hid (HO6.out.gr g7)
        clear g7
        go_wp2_with fail
        refine (Y5.out O _ HO7.out).mono ?_
        rintro e w8 ⟨rfl, g8⟩
        go_wp2
        go_ret
        exact ⟨rfl, G7.out.trans g8⟩
theorem lawRep_any (s : ByteArray) (n : Int) (w : World) :
    Calls Try.prog 6 #[.string s, .int .i64 n] w fun e w' => e = .returned (.bool true) ∧ Gr w w' := by
  by_cases h : 0 < s.size ∧ s.size ≤ 20 ∧ 0 ≤ n ∧ n ≤ 20
  · obtain ⟨h1, h2, h3, h4⟩ := h
    obtain ⟨m, rfl⟩ := Int.eq_ofNat_of_zero_le h3
    exact lawRep_in s m w h1 h2 (by omega)
  · exact lawRep_out s n w h
end Go.Proofs.Ytnbanlakmalbhaa
