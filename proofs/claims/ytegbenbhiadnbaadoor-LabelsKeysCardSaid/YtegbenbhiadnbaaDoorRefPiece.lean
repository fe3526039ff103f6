/- piece, the reference's. -/
import Derived.Test.YtegbenbhiadnbaaDoorPieceMath
import Derived.Test.YtegbenbhiadnbaaDoorStr2
namespace Go.Proofs.YtegbenbhiadnbaaDoor
open Go.RowKit Go.Sort
set_option maxRecDepth 100000
set_option maxHeartbeats 4000000

theorem str_mid (s : ByteArray) (a m : Nat) : (⟨((s.data.toList.drop a).take m).toArray⟩ : ByteArray) = s.extract a (a + m) := by
  apply bytes_ext
  rw [← Lib.toList_data, ← Lib.toList_data]
  simp [ByteArray.toList_eq, ByteArray.data_extract, Array.toList_extract]
  try rw [List.extract_eq_drop_take]
  try simp
attribute [local irreducible] wpQuiet
theorem digI_nat (c : Nat) : digI (c : Int) = decide (48 ≤ c ∧ c ≤ 57) := by
  unfold digI
  rw [Bool.eq_iff_iff]
  simp
  try omega
def PiecePost (s : ByteArray) (w : World) (e : Ending) (w' : World) : Prop :=
  Gr w w' ∧ ((∃ t r, s.data.toList = pieceK t ++ r ∧ e = .returned (.tuple #[.string ⟨t.toArray⟩, .int .i64 ((pieceK t).length : Int)])) ∨ (e = .returned (.tuple #[.string ⟨#[]⟩, .int .i64 (-1)]) ∧ ∀ t r, s.data.toList = pieceK t ++ r → 9999 < t.length ∨ t = []))
theorem PiecePost.no {s : ByteArray} {w w' : World} (g : Gr w w') (h : ∀ t r, s.data.toList = pieceK t ++ r → 9999 < t.length ∨ t = []) : PiecePost s w (.returned (.tuple #[.string ⟨#[]⟩, .int .i64 (-1)])) w' := ⟨g, .inr ⟨rfl, h⟩⟩
theorem rPiece_any (s : ByteArray) (w : World) (hs : s.size ≤ 68719476736) :
    Calls Tryd.prog 38 #[.string s] w (PiecePost s w) := by
  have hsl : s.data.toList.length = s.size := by simp
  have HSL := Lib.hid hsl
  clear hsl
  go_enter Tryd.func38, Tryd.ntmps38
  go_wp2
  go_loopw [4, 5] (fun n i wr => ∃ k m : Nat, k ≤ s.size ∧ k ≤ 4 ∧ i = .int .i64 k ∧ n = .int .i64 m ∧ m < 10 ^ k ∧ Hid (valD (s.data.toList.take k) = m) ∧ Hid (DgTo s.data.toList k) ∧ wr = w) (fun _ i _ => 4 - (intOf i).toNat)
  case atStart => exact ⟨0, 0, Nat.zero_le _, by omega, rfl, rfl, by decide, rfl, DgTo.zero _, rfl⟩
  case round =>
    obtain ⟨k, m, hk, hk4, rfl, rfl, hm, HV, HD, rfl⟩ := hrel
    have hm4 : m < 10000 := Nat.lt_of_lt_of_le hm (Nat.pow_le_pow_right (by omega) hk4 : 10 ^ k ≤ 10 ^ 4)
    by_cases hlt : k < s.size
    case neg =>
      obtain rfl : k = s.size := by omega
      have HN : Hid (∀ t r, s.data.toList = pieceK t ++ r → 9999 < t.length ∨ t = []) := Lib.hid (fun t r h => absurd h (no_1 HD.out (by rw [HSL.out]; exact Nat.le_refl _) t r))
      have CD := Lib.hid (gq (W := wr) fun W' _ => decimal_any m W' (by omega))
      go_wp2_with fail
      refine wp_region_quiet_below (by kernel_rfl) (by kernel_rfl) ?_
      repeat (quiet_step (exact CD.out _ _))
      refine wpQuiet_nil ?_
      intro _ hw'
      obtain ⟨⟨dq, osq⟩, hw''⟩ := hw'
      subst hw''
      have hg5 : Gr wr (Go.Sort.grow (redrawn wr dq) osq) := ⟨below_regrown wr dq osq⟩
      clear CD
      generalize Go.Sort.grow (redrawn wr dq) osq = w5 at *
      go_wp2
      go_ret2
      exact PiecePost.no hg5 HN.out
    have hlt' : k < s.data.toList.length := by rw [HSL.out]; exact hlt
    have ge : s.data.toList[k]'hlt' = s[k] := rfl
    have pk := s[k].toNat_lt
    obtain ⟨c, hc⟩ : ∃ c, s[k].toNat = c := ⟨_, rfl⟩
    have hdg := digI_nat c
    have f1 : (k : Int) < (s.size : Int) := by omega
    by_cases hd : (48 ≤ c ∧ c ≤ 57) ∧ k < 4
    · obtain ⟨⟨d1, d2⟩, d4⟩ := hd
      have HD2 := Lib.hid (HD.out.step hlt' (by rw [ge]; unfold isDg; omega))
      have HV2 : Hid (valD (s.data.toList.take (k + 1)) = 10 * m + (c - 48)) := Lib.hid (by rw [valD_step hlt', HV.out, ge, hc])
      have hmm : 10 * m + (c - 48) < 10 ^ (k + 1) := by rw [Nat.pow_succ]; omega
      rw [decide_eq_true ⟨d1, d2⟩] at hdg
      obtain ⟨d, hdc⟩ : ∃ d, c = d + 48 := ⟨c - 48, by omega⟩
      subst hdc
      rw [show d + 48 - 48 = d by omega] at HV2 hmm
      have f4 : (k : Int) < 4 := by omega
      have HMM := Lib.hid hmm
      have fd : ((d + 48 : Nat) : Int) - 48 = (d : Int) := by omega
      clear hm hmm
      go_wp2_with (go_at_call 51; refine (rDigit_any _ _).mono ?_; rintro e w' ⟨rfl, rfl⟩)
      go_roundw
      case rel => exact ⟨k + 1, 10 * m + d, by omega, by omega, by go_num, by go_num, HMM.out, HV2, HD2, by first | rfl | trivial⟩
      case measure => simp [intOf]; omega
    · have key : (digI (c : Int) = false) ∨ (digI (c : Int) = true ∧ decide ((k : Int) < 4) = false) := by
        rw [hdg]
        by_cases e : 48 ≤ c ∧ c ≤ 57
        · right; exact ⟨decide_eq_true e, by simp; omega⟩
        · left; exact decide_eq_false e
      clear hdg
      by_cases h58 : c = 58
      · subst h58
        have g : digI (58 : Int) = false := by decide
        have g2 : digI ((58 : Nat) : Int) = false := by decide
        have he58 : s.data.toList[k]'hlt' = 58 := by rw [ge, toNat_eq hc]; rfl
        have q1 : decide (s.size ≤ k) = false := by simp; omega
        have hext : (s.extract 0 k).toList = s.data.toList.take k := by rw [ByteArray.toList_eq]; simp [ByteArray.data_extract, Array.toList_extract]
        have IS := Lib.hid (fun t r (h : s.data.toList = pieceK t ++ r) => is_3 HD.out hlt' he58 h)
        have CD := Lib.hid (gq (W := wr) fun W' _ => decimal_any m W' (by omega))
        obtain ⟨D, hDD⟩ : ∃ D, Lib.decDigits m = D := ⟨_, rfl⟩
        rw [hDD] at CD
        clear key hd
        cases hq : (D == (s.extract 0 k).toList)
        · have HN := Lib.hid (fun t r (h : s.data.toList = pieceK t ++ r) => show 9999 < t.length ∨ t = [] by
            obtain ⟨e1, e2, _⟩ := IS.out t r h
            rw [HV.out] at e2
            rw [← e2, hDD] at e1
            rw [hext, e1] at hq
            simp at hq)
          clear hext he58
          go_wp2_with (go_at_call 51; refine (rDigit_any _ _).mono ?_; rintro e w' ⟨rfl, rfl⟩)
          refine wp_region_quiet_below (by kernel_rfl) (by kernel_rfl) ?_
          repeat (quiet_step (exact CD.out _ _))
          refine wpQuiet_nil ?_
          intro _ hw'
          obtain ⟨⟨dq, osq⟩, hw''⟩ := hw'
          subst hw''
          have hg5 : Gr wr (Go.Sort.grow (redrawn wr dq) osq) := ⟨below_regrown wr dq osq⟩
          clear CD
          generalize Go.Sort.grow (redrawn wr dq) osq = w5 at *
          go_wp2
          go_ret2
          exact PiecePost.no hg5 HN.out
        · have hD2 : Lib.decDigits m = s.data.toList.take k := by rw [hDD, ← hext]; simpa using hq
          obtain ⟨a, ha⟩ : ∃ a, s.size - k = a + 1 := ⟨s.size - k - 1, by omega⟩
          have hww : IntKind.i64.wrap (IntKind.i64.wrap ((s.size : Int) - (k : Int)) - 1) = (a : Int) := by rw [IntWalk.i64_in ((s.size : Int) - (k : Int)) (by omega), IntWalk.i64_in _ (by omega)]; omega
          by_cases hma : a < m
          · have HN := Lib.hid (fun t r (h : s.data.toList = pieceK t ++ r) => show 9999 < t.length ∨ t = [] by
              obtain ⟨_, e2, e3⟩ := IS.out t r h
              rw [HV.out] at e2
              rw [HSL.out] at e3
              omega)
            have q4 : decide (a < m) = true := by simpa using hma
            clear hext he58 hD2 ha
            go_wp2_with (go_at_call 51; refine (rDigit_any _ _).mono ?_; rintro e w' ⟨rfl, rfl⟩)
            refine wp_region_quiet_below (by kernel_rfl) (by kernel_rfl) ?_
            repeat (quiet_step (exact CD.out _ _))
            refine wpQuiet_nil ?_
            intro _ hw'
            obtain ⟨⟨dq, osq⟩, hw''⟩ := hw'
            subst hw''
            have hg5 : Gr wr (Go.Sort.grow (redrawn wr dq) osq) := ⟨below_regrown wr dq osq⟩
            clear CD
            generalize Go.Sort.grow (redrawn wr dq) osq = w5 at *
            go_wp2
            go_ret2
            exact PiecePost.no hg5 HN.out
          · have q4 : decide (a < m) = false := by simpa using hma
            have IP := Lib.hid (is_piece hlt' he58 hD2 (by rw [HSL.out]; omega))
            have hkm : k + 1 + m ≤ s.size := by omega
            clear hext he58 hD2
            go_wp2_with (go_at_call 51; refine (rDigit_any _ _).mono ?_; rintro e w' ⟨rfl, rfl⟩)
            refine wp_region_quiet_below (by kernel_rfl) (by kernel_rfl) ?_
            repeat (quiet_step (exact CD.out _ _))
            refine wpQuiet_nil ?_
            intro _ hw'
            obtain ⟨⟨dq, osq⟩, hw''⟩ := hw'
            subst hw''
            have hg5 : Gr wr (Go.Sort.grow (redrawn wr dq) osq) := ⟨below_regrown wr dq osq⟩
            clear CD
            generalize Go.Sort.grow (redrawn wr dq) osq = w5 at *
            clear hq q1 q4 hww g g2 hc
            have z1 : (k : Int) + 1 + (m : Int) ≤ (s.size : Int) := by omega
            have z2 : (0 : Int) ≤ (m : Int) := by omega
            have hss := run_str3 s k m hkm
            go_wp2
            go_ret2
            refine ⟨hg5, .inl ⟨(s.data.toList.drop (k + 1)).take m, s.data.toList.drop (k + 1 + m), IP.out.1, ?_⟩⟩
            rw [IP.out.2.2, show (⟨((s.data.toList.drop (k + 1)).take m).toArray⟩ : ByteArray) = s.extract (k + 1) (k + 1 + m) from str_mid s (k + 1) m]
            simp
      · have HN : Hid (∀ t r, s.data.toList = pieceK t ++ r → 9999 < t.length ∨ t = []) := Lib.hid (fun t r h => .inl (no_2 HD.out hlt' (by rw [ge]; intro e; rw [e] at hc; exact h58 (by rw [← hc]; rfl)) (fun e => by rw [ge]; unfold isDg; rw [hc]; exact fun g => hd ⟨g, e⟩) hk4 t r h))
        have g58 : ((c : Int) == 58) = false := by simp; omega
        have q1 : decide (s.size ≤ k) = false := by simp; omega
        have q2 : ((c : Int) != 58) = true := by simp; omega
        clear h58 hd
        rcases key with g | ⟨g, g2⟩
        all_goals
          have CD := Lib.hid (gq (W := wr) fun W' _ => decimal_any m W' (by omega))
          go_wp2_with (go_at_call 51; refine (rDigit_any _ _).mono ?_; rintro e w' ⟨rfl, rfl⟩)
          refine wp_region_quiet_below (by kernel_rfl) (by kernel_rfl) ?_
          repeat (quiet_step (exact CD.out _ _))
          refine wpQuiet_nil ?_
          intro _ hw'
          obtain ⟨⟨dq, osq⟩, hw''⟩ := hw'
          subst hw''
          have hg5 : Gr wr (Go.Sort.grow (redrawn wr dq) osq) := ⟨below_regrown wr dq osq⟩
          clear CD
          generalize Go.Sort.grow (redrawn wr dq) osq = w5 at *
          go_wp2
          go_ret2
          exact PiecePost.no hg5 HN.out
end Go.Proofs.YtegbenbhiadnbaaDoor
