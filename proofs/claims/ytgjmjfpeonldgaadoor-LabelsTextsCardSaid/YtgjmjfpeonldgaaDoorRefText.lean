/- Text, the reference's. -/
import Derived.Test.YtgjmjfpeonldgaaDoorRefQuote
import Derived.Test.YtgjmjfpeonldgaaDoorText
import Derived.Test.YtgjmjfpeonldgaaDoorCmp
namespace Go.Proofs.YtgjmjfpeonldgaaDoor
open Go.RowKit Go.Sort
set_option maxRecDepth 100000
set_option maxHeartbeats 4000000

theorem str_cat (a b : List UInt8) : (⟨a.toArray⟩ ++ ⟨b.toArray⟩ : ByteArray) = ⟨(a ++ b).toArray⟩ := by
  apply ByteArray.ext
  simp [ByteArray.data_append]
theorem str_eta (p : ByteArray) : p = ⟨p.data.toList.toArray⟩ := by cases p; simp
theorem str_tail (c : UInt8) (B : List UInt8) (n : Nat) (h : B.length + 1 ≤ n) : (⟨(c :: B).toArray⟩ : ByteArray).extract 1 n = ⟨B.toArray⟩ := by
  apply ByteArray.ext
  simp [ByteArray.data_extract]
  first | omega | exact List.take_of_length_le (by omega)
def tailL (l : List Lb) : List UInt8 := l.flatMap fun y => 44 :: pieceT y
theorem tailL_snoc (l : List Lb) (x : Lb) : tailL (l ++ [x]) = tailL l ++ (44 :: pieceT x) := by simp [tailL]
theorem tailL_len (l : List Lb) : (tailL l).length ≤ szT l := by
  unfold tailL
  induction l with
  | nil => simp [szT]
  | cons y r ih =>
    rw [List.flatMap_cons, List.length_append, List.length_cons]
    have h1 := pieceT_len y
    have h2 : szT (y :: r) = y.1.size + 4 * y.2.size + 4 + szT r := rfl
    omega
theorem tailL_body {l : List Lb} (h : l ≠ []) : tailL l = 44 :: bodyL l := by
  cases l with
  | nil => exact absurd rfl h
  | cons x r => simp [tailL, bodyL]
theorem hasN_nm (p : ByteArray) : hasN [nmB] p = (p.toList == [95, 95, 110, 97, 109, 101, 95, 95]) := by
  have e : nmB.toList = [95, 95, 110, 97, 109, 101, 95, 95] := by decide +kernel
  simp [hasN, e]

theorem rText_any (A : Option Addr) (l : List Lb) (c : Nat) (w : World) (h : LabsAt w A l) (hl : l.length ≤ 549755813888) (hsz : szT l ≤ 137438953472) :
    Calls Tryd.prog 39 #[.slice A l.length c] w fun e w' => e = .returned (.string ⟨(textL l).toArray⟩) ∧ Gr w w' := by
  have HL := Lib.hid h
  have CG := Lib.hid (rGet_any A l c nmB w h (by omega))
  have hgs := getL_size l nmB
  clear h
  obtain ⟨nm, hnm⟩ : ∃ nm, getL l nmB = nm := ⟨_, rfl⟩
  rw [hnm] at CG hgs
  have HNM := Lib.hid hnm
  clear hnm
  have CN := Lib.hid (fun W => rName_any nm W (by unfold maxLen; omega))
  cases en : nameB nm
  · have HT : Hid (textL l = [] ++ [123] ++ bodyL l ++ [125]) := Lib.hid (by unfold textL; rw [HNM.out, en]; rfl)
    rw [en] at CN
    clear en
    go_enter Tryd.func39, Tryd.ntmps39
    go_wp2_with fail
    refine CG.out.mono ?_
    rintro e w1 ⟨rfl, hg1⟩
    go_wp2_with fail
    refine (CN.out _).mono ?_
    rintro e w2 ⟨rfl, rfl⟩
    go_wp2
    go_loopw [4, 5] (fun v i wr => ∃ k : Nat, k ≤ l.length ∧ i = .int .i64 k ∧ v = .string ⟨(tailL (l.take k)).toArray⟩ ∧ Gr w wr) (fun _ i _ => l.length - (intOf i).toNat)
    case atStart => exact ⟨0, Nat.zero_le _, rfl, rfl, hg1⟩
    case round =>
      obtain ⟨k, hk, rfl, rfl, hg⟩ := hrel
      by_cases hlt : k < l.length
      · obtain ⟨b, o, rfl, c1, c2, -⟩ := (HL.out.gr hg).at_ hlt
        have hz := szT_take hlt
        have htl := tailL_len (l.take k)
        obtain ⟨x, hx⟩ : ∃ x, l[k] = x := ⟨_, rfl⟩
        rw [hx] at c1 c2 hz
        have HS : Hid (tailL (l.take (k + 1)) = tailL (l.take k) ++ (44 :: pieceT x)) := Lib.hid (by rw [List.take_succ_eq_append_getElem hlt, hx, tailL_snoc])
        clear hx
        obtain ⟨p, q⟩ := x
        simp only at c1 c2 hz
        have f4 : (k : Int) < (l.length : Int) := by omega
        have f5 : (0 : Int) ≤ k := by omega
        have hql := quoteL_len q.data.toList
        have hqs : q.data.toList.length = q.size := by simp
        obtain ⟨T, hT⟩ : ∃ T, tailL (l.take k) = T := ⟨_, rfl⟩
        rw [hT] at HS htl ⊢
        clear hT
        obtain ⟨Q, hQ⟩ : ∃ Q, quoteL q.data.toList = Q := ⟨_, rfl⟩
        have CQ := Lib.hid (gq (W := wr) fun W' _ => rQuote_any q W' (by omega))
        rw [hQ] at CQ hql
        have HQ := Lib.hid hQ
        clear hQ
        have k1 := cell_regrown c1; have k2 := cell_regrown c2
        have hz1 : ¬ 9223372036854775807 < T.length + 1 := by omega
        have hz2 : ¬ 9223372036854775807 < T.length + 1 + p.size := by omega
        have hz3 : ¬ 9223372036854775807 < T.length + 1 + p.size + 1 := by omega
        have hz4 : ¬ 9223372036854775807 < T.length + 1 + p.size + 1 + Q.length := by omega
        have HE : Hid ((⟨T.toArray⟩ ++ ⟨#[44]⟩ ++ p ++ ⟨#[61]⟩ ++ ⟨Q.toArray⟩ : ByteArray) = ⟨(tailL (l.take (k + 1))).toArray⟩) := Lib.hid (by
          rw [HS.out, str_eta p]
          show (⟨T.toArray⟩ ++ ⟨[44].toArray⟩ ++ ⟨p.data.toList.toArray⟩ ++ ⟨[61].toArray⟩ ++ ⟨Q.toArray⟩ : ByteArray) = _
          rw [str_cat, str_cat, str_cat, str_cat]
          simp [pieceT, ← HQ.out])
        cases e1 : (p.toList == [95, 95, 110, 97, 109, 101, 95, 95])
        all_goals
          go_wp2_with fail
          refine wp_region_quiet_below (by kernel_rfl) (by kernel_rfl) ?_
          clear c1 c2
          repeat (quiet_step (exact CQ.out _ _))
          refine wpQuiet_nil ?_
          intro _ hw'
          obtain ⟨⟨dq, osq⟩, hw''⟩ := hw'
          subst hw''
          have hg5 := hg.trans ⟨below_regrown wr dq osq⟩
          clear k1 k2 CQ
          generalize Go.Sort.grow (redrawn wr dq) osq = w5 at *
          go_wp2
          go_roundw
          case rel => exact ⟨k + 1, by omega, by go_num, by rw [HE.out], hg5⟩
          case measure => simp [intOf]; omega
      · obtain rfl : k = l.length := by omega
        rw [List.take_length]
        by_cases hl0 : l = []
        · subst hl0
          have HE : Hid ((⟨#[123, 125]⟩ : ByteArray) = ⟨(textL []).toArray⟩) := Lib.hid (by rw [HT.out]; rfl)
          have e0 : tailL [] = [] := rfl
          rw [e0]
          go_wp2
          go_ret
          exact ⟨by rw [← HE.out]; rfl, hg⟩
        · have htl := tailL_len l
          rw [tailL_body hl0] at htl ⊢
          simp only [List.length_cons] at htl
          obtain ⟨B, hB⟩ : ∃ B, bodyL l = B := ⟨_, rfl⟩
          rw [hB] at htl ⊢
          have HTB : Hid (textL l = [123] ++ B ++ [125]) := Lib.hid (by rw [HT.out, hB]; rfl)
          clear hB
          go_wp2
          go_ret
          refine ⟨?_, hg⟩
          go_simp
          rw [str_tail 44 B _ (Nat.le_refl _), HTB.out]
          show (⟨[].toArray⟩ ++ ⟨[123].toArray⟩ ++ ⟨B.toArray⟩ ++ ⟨[125].toArray⟩ : ByteArray) = _
          rw [str_cat, str_cat, str_cat]
          simp
  · have h0 : nm.size ≠ 0 := fun e => by rw [nameB_0 e] at en; cases en
    obtain ⟨n1, n2, n3⟩ := ne_facts (by omega : 0 < nm.size)
    rw [en] at CN
    go_enter Tryd.func39, Tryd.ntmps39
    go_wp2_with fail
    refine CG.out.mono ?_
    rintro e w1 ⟨rfl, hg1⟩
    go_wp2_with fail
    refine (CN.out _).mono ?_
    rintro e w2 ⟨rfl, rfl⟩
    go_wp2
    go_loopw [4, 5] (fun v i wr => ∃ k : Nat, k ≤ l.length ∧ i = .int .i64 k ∧ v = .string ⟨(tailL (pickL (l.take k) [nmB] false)).toArray⟩ ∧ Gr w wr) (fun _ i _ => l.length - (intOf i).toNat)
    case atStart => exact ⟨0, Nat.zero_le _, rfl, rfl, hg1⟩
    case round =>
      obtain ⟨k, hk, rfl, rfl, hg⟩ := hrel
      by_cases hlt : k < l.length
      · obtain ⟨b, o, rfl, c1, c2, -⟩ := (HL.out.gr hg).at_ hlt
        have hz := szT_take hlt
        have htl := Nat.le_trans (tailL_len (pickL (l.take k) [nmB] false)) (szT_pick (l.take k) [nmB] false)
        obtain ⟨x, hx⟩ : ∃ x, l[k] = x := ⟨_, rfl⟩
        rw [hx] at c1 c2 hz
        have HP : Hid (pickL (l.take (k + 1)) [nmB] false = if hasN [nmB] x.1 == false then pickL (l.take k) [nmB] false ++ [x] else pickL (l.take k) [nmB] false) := Lib.hid (by rw [List.take_succ_eq_append_getElem hlt, hx, pickL_snoc])
        clear hx
        obtain ⟨p, q⟩ := x
        simp only at c1 c2 hz
        have f4 : (k : Int) < (l.length : Int) := by omega
        have f5 : (0 : Int) ≤ k := by omega
        cases e1 : (p.toList == [95, 95, 110, 97, 109, 101, 95, 95])
        · have HS : Hid (tailL (pickL (l.take (k + 1)) [nmB] false) = tailL (pickL (l.take k) [nmB] false) ++ (44 :: pieceT (p, q))) := Lib.hid (by rw [HP.out, hasN_nm, e1, ← tailL_snoc]; rfl)
          have hql := quoteL_len q.data.toList
          have hqs : q.data.toList.length = q.size := by simp
          obtain ⟨T, hT⟩ : ∃ T, tailL (pickL (l.take k) [nmB] false) = T := ⟨_, rfl⟩
          rw [hT] at HS htl ⊢
          clear hT HP
          obtain ⟨Q, hQ⟩ : ∃ Q, quoteL q.data.toList = Q := ⟨_, rfl⟩
          have CQ := Lib.hid (gq (W := wr) fun W' _ => rQuote_any q W' (by omega))
          rw [hQ] at CQ hql
          have HQ := Lib.hid hQ
          clear hQ
          have k1 := cell_regrown c1; have k2 := cell_regrown c2
          have hz1 : ¬ 9223372036854775807 < T.length + 1 := by omega
          have hz2 : ¬ 9223372036854775807 < T.length + 1 + p.size := by omega
          have hz3 : ¬ 9223372036854775807 < T.length + 1 + p.size + 1 := by omega
          have hz4 : ¬ 9223372036854775807 < T.length + 1 + p.size + 1 + Q.length := by omega
          have HE : Hid ((⟨T.toArray⟩ ++ ⟨#[44]⟩ ++ p ++ ⟨#[61]⟩ ++ ⟨Q.toArray⟩ : ByteArray) = ⟨(tailL (pickL (l.take (k + 1)) [nmB] false)).toArray⟩) := Lib.hid (by
            rw [HS.out, str_eta p]
            show (⟨T.toArray⟩ ++ ⟨[44].toArray⟩ ++ ⟨p.data.toList.toArray⟩ ++ ⟨[61].toArray⟩ ++ ⟨Q.toArray⟩ : ByteArray) = _
            rw [str_cat, str_cat, str_cat, str_cat]
            simp [pieceT, ← HQ.out])
          go_wp2_with fail
          refine wp_region_quiet_below (by kernel_rfl) (by kernel_rfl) ?_
          clear c1 c2
          repeat (quiet_step (exact CQ.out _ _))
          refine wpQuiet_nil ?_
          intro _ hw'
          obtain ⟨⟨dq, osq⟩, hw''⟩ := hw'
          subst hw''
          have hg5 := hg.trans ⟨below_regrown wr dq osq⟩
          clear k1 k2 CQ
          generalize Go.Sort.grow (redrawn wr dq) osq = w5 at *
          go_wp2
          go_roundw
          case rel => exact ⟨k + 1, by omega, by go_num, by rw [HE.out], hg5⟩
          case measure => simp [intOf]; omega
        · have HS : Hid (pickL (l.take (k + 1)) [nmB] false = pickL (l.take k) [nmB] false) := Lib.hid (by rw [HP.out, hasN_nm, e1]; rfl)
          go_wp2
          go_roundw
          case rel => exact ⟨k + 1, by omega, by go_num, by rw [HS.out], hg⟩
          case measure => simp [intOf]; omega
      · obtain rfl : k = l.length := by omega
        rw [List.take_length]
        obtain ⟨m, hm⟩ : ∃ m, pickL l [nmB] false = m := ⟨_, rfl⟩
        have hmz : szT m ≤ 137438953472 := by have := szT_pick l [nmB] false; rw [hm] at this; omega
        rw [hm]
        by_cases hl0 : m = []
        · subst hl0
          have HE : Hid (textL l = nm.data.toList) := Lib.hid (by unfold textL; rw [HNM.out, en, if_pos rfl, if_pos hm])
          have e0 : tailL [] = [] := rfl
          rw [e0]
          clear en hm
          go_wp2
          go_ret
          exact ⟨by rw [HE.out, ← str_eta nm]; rfl, hg⟩
        · have HE : Hid (textL l = nm.data.toList ++ [123] ++ bodyL m ++ [125]) := Lib.hid (by unfold textL; rw [HNM.out, en, if_pos rfl, hm, if_neg hl0])
          have htl := tailL_len m
          rw [tailL_body hl0] at htl ⊢
          simp only [List.length_cons] at htl
          obtain ⟨B, hB⟩ : ∃ B, bodyL m = B := ⟨_, rfl⟩
          rw [hB] at htl HE ⊢
          clear hB en hm hl0
          go_wp2
          go_ret
          refine ⟨?_, hg⟩
          go_simp
          rw [str_tail 44 B _ (Nat.le_refl _), HE.out]
          have e := str_eta nm
          obtain ⟨N, hN⟩ : ∃ N, nm.data.toList = N := ⟨_, rfl⟩
          rw [hN] at e ⊢
          rw [e]
          show (⟨N.toArray⟩ ++ ⟨[123].toArray⟩ ++ ⟨B.toArray⟩ ++ ⟨[125].toArray⟩ : ByteArray) = _
          rw [str_cat, str_cat, str_cat]
end Go.Proofs.YtgjmjfpeonldgaaDoor
