/- The walk of RegexEscapes. -/
import Derived.Test.YtnlfndhgdeapeaaRLit
import Derived.Test.YtnlfndhgdeapeaaEscT
namespace Go.Proofs.Ytnlfndhgdeapeaa
open Go.RowKit
set_option maxRecDepth 100000
set_option maxHeartbeats 8000000

theorem litV_pair (o : Option (List UInt8)) : ∃ (T : ByteArray) (b : Bool), litV o = .tuple #[.string T, .bool b] := by
  cases o with
  | none => exact ⟨_, _, rfl⟩
  | some t => exact ⟨_, _, rfl⟩
theorem bytes_back (s : ByteArray) : (⟨s.data.toList.toArray⟩ : ByteArray) = s := by
  apply ByteArray.ext
  simp
theorem lawEsc_out (s o p : ByteArray) (w : World) (h : ¬ (s.size ≤ 300 ∧ o.size ≤ 300 ∧ p.size ≤ 300)) :
    Calls Try.prog 3 #[.string s, .string o, .string p] w fun e w' => e = .returned (.bool true) ∧ Gr w w' := by
  have CK := Lib.hid (fun W => known_any W)
  have key : (300 : Int) < (s.size : Int) ∨ (¬ (300 : Int) < (s.size : Int) ∧ (300 : Int) < (o.size : Int)) ∨ (¬ (300 : Int) < (s.size : Int) ∧ ¬ (300 : Int) < (o.size : Int) ∧ (300 : Int) < (p.size : Int)) := by omega
  clear h
  rcases key with h1 | ⟨h1, h2⟩ | ⟨h1, h2, h3⟩
  all_goals
    go_enter Try.func3, Try.ntmps3
    go_wp2_with fail
    refine (CK.out _).mono ?_
    rintro e w1 ⟨rfl, hg1⟩
    go_wp2
    go_ret
    exact ⟨rfl, hg1⟩
theorem lawEsc_in (s o p : ByteArray) (w : World) (k1 : s.size ≤ 300) (k2 : o.size ≤ 300) (k3 : p.size ≤ 300) :
    Calls Try.prog 3 #[.string s, .string o, .string p] w fun e w' => e = .returned (.bool true) ∧ Gr w w' := by
  have hsl : s.data.toList.length = s.size := by simp
  have hel := escS_len s.data.toList
  rw [hsl] at hel
  have CK := Lib.hid (fun W => known_any W)
  have CE := Lib.hid (fun W => escape_any s W (by omega))
  have CR := Lib.hid (fun W => rEscape_any s W (by omega))
  obtain ⟨X, hX⟩ : ∃ X : ByteArray, (⟨(escS s.data.toList).toArray⟩ : ByteArray) = X := ⟨_, rfl⟩
  have hXl : X.data.toList = escS s.data.toList := by rw [← hX]
  have hXs : X.size ≤ 600 := by
    have : X.size = X.data.toList.length := by simp
    rw [this, hXl]; omega
  have CX : Hid (∀ W, Calls Try.prog 8 #[.string X] W fun e w' => Gr W w' ∧ ∃ P, e = .returned (.tuple #[.pointer (some ⟨P, 0, none⟩), .int .i64 0, .int .i64 0]) ∧ Pat w' P (escN s.data.toList)) := Lib.hid (fun W => tree_yes (by rw [hXl]; exact esc_tree _ (by omega)) (by omega) W)
  have CL : Hid (∀ W, Calls Try.prog 9 #[.string X] W fun e w' => e = .returned (.tuple #[.string s, .bool true]) ∧ Gr W w') := Lib.hid (fun W => by
    have h := literal_any X W (by omega)
    have hv : litV (some s.data.toList) = .tuple #[.string s, .bool true] := by
      show Value.tuple #[.string ⟨s.data.toList.toArray⟩, .bool true] = _
      rw [bytes_back]
    rw [hXl, lit_esc, hv] at h
    exact h)
  obtain ⟨T, b, hT⟩ := litV_pair (literalS p.data.toList)
  have CP : Hid (∀ W, Calls Try.prog 9 #[.string p] W fun e w' => e = .returned (.tuple #[.string T, .bool b]) ∧ Gr W w') := Lib.hid (fun W => by
    have h := literal_any p W (by omega)
    rw [hT] at h
    exact h)
  have CQ : Hid (∀ W, Calls Try.prog 10 #[.string p] W fun e w' => e = .returned (.tuple #[.string T, .bool b]) ∧ Gr W w') := Lib.hid (fun W => by
    have h := rLiteral_any p W (by omega)
    rw [hT] at h
    exact h)
  rw [hX] at CE CR
  clear hX hXl hXs hT hel
  obtain ⟨N, hN⟩ : ∃ N, escN s.data.toList = N := ⟨_, rfl⟩
  have M1 : Hid (Wf N → hits N s.data.toList = true) := Lib.hid (fun hw => hits_eq hw (by rw [← hN, esc_lang]; simp))
  have M2 : Hid (Wf N → hits N o.data.toList = decide (s = o)) := Lib.hid (fun hw => hits_eq hw (by
    rw [← hN, esc_lang, decide_eq_true_iff]
    constructor
    · intro h
      have := congrArg (fun l : List UInt8 => (⟨l.toArray⟩ : ByteArray)) h
      simp only [bytes_back] at this
      exact this.symm
    · rintro rfl; rfl))
  rw [hN] at CX
  clear hN hsl
  have X1 := Lib.hid (fun (P : Nat) W (h : Pat W P N) => pm (x := true) h (Gr.refl W) s (by omega) (M1.out h.w))
  have X2 := Lib.hid (fun (P : Nat) W (h : Pat W P N) => pm (x := decide (s = o)) h (Gr.refl W) o (by omega) (M2.out h.w))
  clear M1 M2
  have n1 : ¬ (300 : Int) < (s.size : Int) := by omega
  have n2 : ¬ (300 : Int) < (o.size : Int) := by omega
  have n3 : ¬ (300 : Int) < (p.size : Int) := by omega
  obtain ⟨D, hD⟩ : ∃ D, decide (s = o) = D := ⟨_, rfl⟩
  rw [hD] at X2
  have HD := Lib.hid hD
  clear hD
  go_enter Try.func3, Try.ntmps3
  go_wp2_with fail
  refine (CK.out _).mono ?_
  rintro e w1 ⟨rfl, g1⟩
  have G1 := Lib.hid g1
  clear g1
  go_wp2_with fail
  refine (CE.out _).mono ?_
  rintro e w2 ⟨rfl, g2⟩
  have G2 := Lib.hid (G1.out.trans g2)
  clear g2
  go_wp2_with fail
  refine (CX.out _).mono ?_
  rintro e w3 ⟨g3, P, rfl, hP⟩
  have G3 := Lib.hid (G2.out.trans g3)
  have HP := Lib.hid hP
  clear g3 hP
  go_wp2_with fail
  refine (CL.out _).mono ?_
  rintro e w4 ⟨rfl, g4⟩
  have G4 := Lib.hid (G3.out.trans g4)
  have HP4 := Lib.hid (HP.out.gr g4)
  clear g4
  go_wp2_with fail
  refine (CP.out _).mono ?_
  rintro e w5 ⟨rfl, g5⟩
  have G5 := Lib.hid (G4.out.trans g5)
  have HP5 := Lib.hid (HP4.out.gr g5)
  clear g5
  go_wp2_with fail
  refine (CQ.out _).mono ?_
  rintro e w6 ⟨rfl, g6⟩
  have G6 := Lib.hid (G5.out.trans g6)
  have HP6 := Lib.hid (HP5.out.gr g6)
  clear g6
  go_wp2_with fail
  refine (CR.out _).mono ?_
  rintro e w7 ⟨rfl, g7⟩
  have G7 := Lib.hid (G6.out.trans g7)
  have HP7 := Lib.hid (HP6.out.gr g7)
  clear g7
  go_wp2_with fail
  refine (X1.out P _ HP7.out).mono ?_
  rintro e w8 ⟨rfl, g8⟩
  have G8 := Lib.hid (G7.out.trans g8)
  have HP8 := Lib.hid (HP7.out.gr g8)
  clear g8
  go_wp2_with fail
  refine (X2.out P _ HP8.out).mono ?_
  rintro e w9 ⟨rfl, g9⟩
  have G9 := Lib.hid (G8.out.trans g9)
  clear g9
  go_wp2
  go_ret
  exact ⟨by
    have h : (s.toList == o.toList) = D := by
      rw [← HD.out, Bool.eq_iff_iff, beq_iff_eq, decide_eq_true_iff, Lib.toList_data, Lib.toList_data]
      constructor
      · intro h
        have := congrArg (fun l : List UInt8 => (⟨l.toArray⟩ : ByteArray)) h
        simpa only [bytes_back] using this
      · rintro rfl; rfl
    show Ending.returned (.bool (D == (s.toList == o.toList))) = _
    rw [h]
    simp, G9.out⟩
theorem lawEsc_any (s o p : ByteArray) (w : World) :
    Calls Try.prog 3 #[.string s, .string o, .string p] w fun e w' => e = .returned (.bool true) ∧ Gr w w' := by
  by_cases h : s.size ≤ 300 ∧ o.size ≤ 300 ∧ p.size ≤ 300
  · exact lawEsc_in s o p w h.1 h.2.1 h.2.2
  · exact lawEsc_out s o p w h
end Go.Proofs.Ytnlfndhgdeapeaa
