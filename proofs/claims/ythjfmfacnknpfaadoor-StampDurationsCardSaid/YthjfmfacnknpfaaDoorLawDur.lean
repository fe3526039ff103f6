/- The walk of StampDurations. -/
import Derived.Test.YthjfmfacnknpfaaDoorKnown
import Derived.Test.YthjfmfacnknpfaaDoorRefDurW
import Derived.Test.YthjfmfacnknpfaaDoorRefText
namespace Go.Proofs.YthjfmfacnknpfaaDoor
open Go.RowKit
set_option maxRecDepth 100000
set_option maxHeartbeats 1000000

theorem lawDur_long (s : ByteArray) (d : Int) (w : World) (hs : 2000 < s.size) (hk : KnU w) :
    Calls Tryd.prog 4 #[.string s, .int .i64 d] w fun e w' => e = .returned (.bool true) ∧ Gr w w' := by
  have HK := Lib.hid hk
  clear hk
  go_enter Tryd.func4, Tryd.ntmps4
  go_wp2_with (go_at_call 8; refine (known_any _ HK.out).mono ?_; rintro e w1 ⟨rfl, hg⟩)
  go_ret
  exact ⟨rfl, hg⟩
theorem lawDur_bad (s : ByteArray) (d : Int) (w : World) (hs : s.size ≤ 2000) (hl : lenB d = false) (hk : KnU w) :
    Calls Tryd.prog 4 #[.string s, .int .i64 d] w fun e w' => e = .returned (.bool true) ∧ Gr w w' := by
  have HK := Lib.hid hk
  have HL := Lib.hid hl
  have hm : s.size ≤ maxLen := by unfold maxLen; omega
  have HM := Lib.hid hm
  clear hk hl hm
  go_enter Tryd.func4, Tryd.ntmps4
  go_wp2_with (go_at_call 8; refine (known_any _ HK.out).mono ?_; rintro e w1 ⟨rfl, hg⟩)
  refine (duration_gr s _ HM.out (HK.out.gr hg).u).mono ?_
  rintro e w2 ⟨rfl, hg2⟩
  go_wp2_with fail
  refine (ref_duration_any s _ HM.out).mono ?_
  rintro e w3 ⟨rfl, hg3⟩
  go_wp2_with fail
  refine (text_bad d _ HL.out).mono ?_
  rintro e w4 ⟨rfl, hg4⟩
  go_wp2_with fail
  refine (ref_text_bad d _ HL.out).mono ?_
  rintro e w5 ⟨rfl, hg5⟩
  go_wp2
  go_ret
  exact ⟨rfl, (((hg.trans hg2).trans hg3).trans hg4).trans hg5⟩
theorem lawDur_ok (s : ByteArray) (d : Nat) (w : World) (hs : s.size ≤ 2000) (h1 : 1 ≤ d) (h2 : d ≤ 1125899906842624) (hk : KnU w) :
    Calls Tryd.prog 4 #[.string s, .int .i64 d] w fun e w' => e = .returned (.bool true) ∧ Gr w w' := by
  have HK := Lib.hid hk
  have hm : s.size ≤ maxLen := by unfold maxLen; omega
  have HM := Lib.hid hm
  have p6 : ∀ W, TabU W → Calls Tryd.prog 17 #[.string ⟨(textD d).toArray⟩] W fun e w' => e = .returned (.tuple #[.int .i64 d, .int .i64 0]) ∧ Gr W w' := fun W hW => by
    have hb := back_res d h1 h2
    have hz : (⟨(textD d).toArray⟩ : ByteArray).size ≤ maxLen := by rw [size_mk]; have := text_len d h2; unfold maxLen; omega
    refine (duration_gr ⟨(textD d).toArray⟩ W hz hW).mono fun e w' ⟨he, hg⟩ => ⟨?_, hg⟩
    rw [he]
    show Ending.returned (.tuple #[.int .i64 (resV (durO (textD d))), .int .i64 (resE (durO (textD d)))]) = _
    rw [hb.1, hb.2]
  have P6 := Lib.hid p6
  have H1 := Lib.hid h1; have H2 := Lib.hid h2
  clear hk hm p6 h1 h2
  go_enter Tryd.func4, Tryd.ntmps4
  go_wp2_with (go_at_call 8; refine (known_any _ HK.out).mono ?_; rintro e w1 ⟨rfl, hg⟩)
  refine (duration_gr s _ HM.out (HK.out.gr hg).u).mono ?_
  rintro e w2 ⟨rfl, hg2⟩
  go_wp2_with fail
  refine (ref_duration_any s _ HM.out).mono ?_
  rintro e w3 ⟨rfl, hg3⟩
  go_wp2_with fail
  refine (text_any d _ H1.out H2.out (((HK.out.gr hg).gr hg2).gr hg3)).mono ?_
  rintro e w4 ⟨rfl, hg4⟩
  go_wp2_with fail
  refine (ref_text_any d _ H1.out H2.out).mono ?_
  rintro e w5 ⟨rfl, hg5⟩
  go_wp2_with fail
  refine (P6.out _ (((((HK.out.gr hg).gr hg2).gr hg3).gr hg4).gr hg5).u).mono ?_
  rintro e w6 ⟨rfl, hg6⟩
  go_wp2
  go_ret
  exact ⟨rfl, ((((hg.trans hg2).trans hg3).trans hg4).trans hg5).trans hg6⟩
theorem lawDur_any (s : ByteArray) (d : Int) (w : World) (hk : KnU w) :
    Calls Tryd.prog 4 #[.string s, .int .i64 d] w fun e w' => e = .returned (.bool true) ∧ Gr w w' := by
  by_cases hs : 2000 < s.size
  · exact lawDur_long s d w hs hk
  · cases hl : lenB d
    · exact lawDur_bad s d w (by omega) hl hk
    · have h := lenB_t hl
      obtain ⟨n, rfl⟩ := Int.eq_ofNat_of_zero_le (by omega : 0 ≤ d)
      exact lawDur_ok s n w (by omega) (by omega) (by omega) hk
end Go.Proofs.YthjfmfacnknpfaaDoor
