/- stamp.Duration: the walk. -/
import Derived.Test.YthjfmfacnknpfaaDoorDurOne
namespace Go.Proofs.YthjfmfacnknpfaaDoor
open Go.RowKit
set_option maxRecDepth 100000
set_option maxHeartbeats 4000000

theorem dur_end {s : ByteArray} {w w' : World} {t T : Nat} {z : Int} {b : Bool} (h : durO s.data.toList = some T) (hS : Sat t T) (hz : z = t) (hb : lenB z = b) (hw : ∃ k, w' = w.drewN k) {v e : Int} (hv : v = if b then z else 0) (he : e = if b then 0 else 1) :
    DurPost s w (.returned (.tuple #[.int .i64 v, .int .i64 e])) w' := by
  refine ⟨?_, hw⟩
  rw [h]
  subst hz hv he
  cases b
  · have hn : ¬ (1 ≤ t ∧ t ≤ 1125899906842624) := by
      intro hh
      rcases lenB_f hb with h1 | h1 <;> omega
    rw [(res_not hS hn).1, (res_not hS hn).2]; rfl
  · have hp : 1 ≤ t ∧ t ≤ 1125899906842624 := by
      have := lenB_t hb
      omega
    rw [(res_sat hS hp).1, (res_sat hS hp).2]; rfl
theorem duration_dp (s : ByteArray) (w : World) (hs : s.size ≤ maxLen) (ht : TabU w) :
    Calls Tryd.prog 17 #[.string s] w (DurPost s w) := by
  unfold maxLen at hs
  have HT := Lib.hid ht; clear ht
  go_enter Tryd.func17, Tryd.ntmps17
  go_wp2
  refine wp_scope5 (JL s w) (μL s) (fun _ _ _ h => JL_lt h) rfl rfl rfl rfl rfl ?p0 ?p4 ?p3 ?p2 ?p1 ?first
  case p0 =>
    rintro m a w' ⟨⟨k, rfl⟩, c, t, i, f, n, C, T, u, rfl, ⟨-, h⟩ | h⟩ hm
    · have h1 : resV (durO s.data.toList) = 0 := by rw [h]; rfl
      have h2 : resE (durO s.data.toList) = 2 := by rw [h]; rfl
      have H1 := Lib.hid h1; clear h1
      have H2 := Lib.hid h2; clear h2 h hm
      unfold Fr
      go_wp2
      rw [jumps_ret]
      go_ret2
      exact ⟨by rw [H1.out, H2.out]; rfl, _, rfl⟩
    · exact h.2.2.2.2.2.2.2.2.elim
  case p4 =>
    rintro m a w' ⟨⟨k, rfl⟩, c, t, i, f, n, C, T, u, rfl, ⟨h0, -⟩ | ⟨hn, htb, hcb, hi, hf, hT, hC, hsz, hd⟩⟩ hm
    · exact absurd h0 (by decide)
    rw [μL_fr _ _ _ _ _ _ _ _ _ (by decide)] at hm
    have Hcb := Lib.hid hcb
    have HTS := Lib.hid hT
    have HC := Lib.hid hC
    rcases (by omega : n = 5 ∨ n = 0 ∨ n = 1 ∨ n = 2 ∨ n = 3 ∨ n = 4) with rfl | rfl | rfl | rfl | rfl | rfl
    · have hN : durO s.data.toList = none := by
        have hd' : durO s.data.toList = (partsS C ((s.data.toList.drop f).take (i - f)) (s.data.toList.drop i) 5).map (T + ·) := hd
        rw [hd', partsS_5]; rfl
      have HN := Lib.hid hN; clear hN hd
      unfold Fr
      go_wp2
      go_step3
      exact jl_0 ⟨_, rfl⟩ c t i f 5 rfl rfl rfl rfl rfl HN.out (by omega)
    · have hd' : durO s.data.toList = (partsS C ((s.data.toList.drop f).take (i - f)) (s.data.toList.drop i) 0).map (T + ·) := hd
      have g1 : w.cell? ⟨0, 0, none⟩ = some (.string ⟨#[100]⟩) := (HT.out 0 (by omega)).1
      have g2 : w.cell? ⟨0, 1, none⟩ = some (.int .i64 (unitSize 0 : Nat)) := (HT.out 0 (by omega)).2
      clear hd
      by_cases he : (s.data.toList.drop f).take (i - f) = unitName 0
      · have hE : ((s.extract f i).toList == [100]) = true := by rw [Lib.toList_data, Lib.extract_data, he]; rfl
        have hB := (hd'.trans (congrArg (fun o => Option.map (T + ·) o) (partsS_hit (by omega) he))).trans (behind_map _ _ _ _)
        have HB := Lib.hid hB; clear hB hd' he
        have hx := tms_bd c 0 (by omega)
        have hS := hT.add (tms_sat 0 (by omega) hC)
        unfold Fr
        go_wp2_with fail
        clear hs hcb hC hT
        have b1 : (f : Int) ≤ i := by omega
        have b2 : (i : Int) ≤ s.size := by omega
        have Hm := Lib.hid hm; have Htb := Lib.hid htb; clear hm htb
        go_quiet (fail)
        have htb := Htb.out
        by_cases hlt : i < s.size
        · go_wp2_with (go_at_call 35; refine (times_any _ _ (by decide) _).mono ?_; rintro e w' ⟨rfl, rfl⟩)
          go_step3
          have hB1 : durO s.data.toList = (parts (s.data.toList.drop i) (0 + 1)).map (T + C * unitSize 0 + ·) := by
            rw [HB.out, if_neg (by rw [drop_some hlt]; simp)]
          exact jl_goto ⟨_, rfl⟩ c (t + tms c 0) i f (0 + 1) C (T + C * unitSize 0) rfl (by omega) rfl rfl rfl ⟨by omega, by omega, Hcb.out, by omega, by omega, hS, HC.out, hsz, hB1⟩ (by have := Hm.out; omega)
        · have hB1 : durO s.data.toList = some (T + C * unitSize 0) := by rw [HB.out, if_pos (drop_nil (by omega))]
          have HB1 := Lib.hid hB1; clear hB1
          cases hl : lenB ((t + tms c 0 : Nat) : Int)
          all_goals
            have hl' := hl
            rw [Int.natCast_add] at hl'
            clear hl
            go_wp2_with (first | (go_at_call 35; refine (times_any _ _ (by decide) _).mono ?_; rintro e w' ⟨rfl, rfl⟩) | (go_at_call 30; refine (isLength_any _ _).mono ?_; rintro e w' ⟨rfl, rfl⟩))
            rw [jumps_ret]
            go_ret2
            exact dur_end HB1.out hS (by omega) hl' ⟨_, rfl⟩ rfl rfl
      · have hE : ((s.extract f i).toList == [100]) = false := by rw [Lib.toList_data, Lib.extract_data, beq_eq_false_iff_ne]; exact he
        have hm2 : durO s.data.toList = (partsS C ((s.data.toList.drop f).take (i - f)) (s.data.toList.drop i) (0 + 1)).map (T + ·) := by
          rw [hd', partsS_miss (by omega) he]
        have HM := Lib.hid hm2; clear hm2 hd' he
        unfold Fr
        go_wp2_with fail
        clear hs hcb
        have b1 : (f : Int) ≤ i := by omega
        have b2 : (i : Int) ≤ s.size := by omega
        have Hm := Lib.hid hm; have Htb := Lib.hid htb; clear hm htb hT hC
        go_quiet (fail)
        go_wp2_with fail
        go_step3
        show JL s w 4 _ _ ∧ _ < m
        exact jl_goto (l := 4) (m := m) (by first | exact ⟨_, rfl⟩ | exact ⟨_, World.drewN_drewN _ _ _⟩) c t i f (0 + 1) C T (by rfl) (by rfl) (by rfl) (by rfl) (by first | rfl | omega) ⟨by omega, by have := Htb.out; omega, Hcb.out, by omega, by omega, HTS.out, HC.out, hsz, HM.out⟩ (by have := Hm.out; omega)
    · have hd' : durO s.data.toList = (partsS C ((s.data.toList.drop f).take (i - f)) (s.data.toList.drop i) 1).map (T + ·) := hd
      have g1 : w.cell? ⟨0, 2, none⟩ = some (.string ⟨#[104]⟩) := (HT.out 1 (by omega)).1
      have g2 : w.cell? ⟨0, 3, none⟩ = some (.int .i64 (unitSize 1 : Nat)) := (HT.out 1 (by omega)).2
      clear hd
      by_cases he : (s.data.toList.drop f).take (i - f) = unitName 1
      · have hE : ((s.extract f i).toList == [104]) = true := by rw [Lib.toList_data, Lib.extract_data, he]; rfl
        have hB := (hd'.trans (congrArg (fun o => Option.map (T + ·) o) (partsS_hit (by omega) he))).trans (behind_map _ _ _ _)
        have HB := Lib.hid hB; clear hB hd' he
        have hx := tms_bd c 1 (by omega)
        have hS := hT.add (tms_sat 1 (by omega) hC)
        unfold Fr
        go_wp2_with fail
        clear hs hcb hC hT
        have b1 : (f : Int) ≤ i := by omega
        have b2 : (i : Int) ≤ s.size := by omega
        have Hm := Lib.hid hm; have Htb := Lib.hid htb; clear hm htb
        go_quiet (fail)
        have htb := Htb.out
        by_cases hlt : i < s.size
        · go_wp2_with (go_at_call 35; refine (times_any _ _ (by decide) _).mono ?_; rintro e w' ⟨rfl, rfl⟩)
          go_step3
          have hB1 : durO s.data.toList = (parts (s.data.toList.drop i) (1 + 1)).map (T + C * unitSize 1 + ·) := by
            rw [HB.out, if_neg (by rw [drop_some hlt]; simp)]
          exact jl_goto ⟨_, rfl⟩ c (t + tms c 1) i f (1 + 1) C (T + C * unitSize 1) rfl (by omega) rfl rfl rfl ⟨by omega, by omega, Hcb.out, by omega, by omega, hS, HC.out, hsz, hB1⟩ (by have := Hm.out; omega)
        · have hB1 : durO s.data.toList = some (T + C * unitSize 1) := by rw [HB.out, if_pos (drop_nil (by omega))]
          have HB1 := Lib.hid hB1; clear hB1
          cases hl : lenB ((t + tms c 1 : Nat) : Int)
          all_goals
            have hl' := hl
            rw [Int.natCast_add] at hl'
            clear hl
            go_wp2_with (first | (go_at_call 35; refine (times_any _ _ (by decide) _).mono ?_; rintro e w' ⟨rfl, rfl⟩) | (go_at_call 30; refine (isLength_any _ _).mono ?_; rintro e w' ⟨rfl, rfl⟩))
            rw [jumps_ret]
            go_ret2
            exact dur_end HB1.out hS (by omega) hl' ⟨_, rfl⟩ rfl rfl
      · have hE : ((s.extract f i).toList == [104]) = false := by rw [Lib.toList_data, Lib.extract_data, beq_eq_false_iff_ne]; exact he
        have hm2 : durO s.data.toList = (partsS C ((s.data.toList.drop f).take (i - f)) (s.data.toList.drop i) (1 + 1)).map (T + ·) := by
          rw [hd', partsS_miss (by omega) he]
        have HM := Lib.hid hm2; clear hm2 hd' he
        unfold Fr
        go_wp2_with fail
        clear hs hcb
        have b1 : (f : Int) ≤ i := by omega
        have b2 : (i : Int) ≤ s.size := by omega
        have Hm := Lib.hid hm; have Htb := Lib.hid htb; clear hm htb hT hC
        go_quiet (fail)
        go_wp2_with fail
        go_step3
        show JL s w 4 _ _ ∧ _ < m
        exact jl_goto (l := 4) (m := m) (by first | exact ⟨_, rfl⟩ | exact ⟨_, World.drewN_drewN _ _ _⟩) c t i f (1 + 1) C T (by rfl) (by rfl) (by rfl) (by rfl) (by first | rfl | omega) ⟨by omega, by have := Htb.out; omega, Hcb.out, by omega, by omega, HTS.out, HC.out, hsz, HM.out⟩ (by have := Hm.out; omega)
    · have hd' : durO s.data.toList = (partsS C ((s.data.toList.drop f).take (i - f)) (s.data.toList.drop i) 2).map (T + ·) := hd
      have g1 : w.cell? ⟨0, 4, none⟩ = some (.string ⟨#[109]⟩) := (HT.out 2 (by omega)).1
      have g2 : w.cell? ⟨0, 5, none⟩ = some (.int .i64 (unitSize 2 : Nat)) := (HT.out 2 (by omega)).2
      clear hd
      by_cases he : (s.data.toList.drop f).take (i - f) = unitName 2
      · have hE : ((s.extract f i).toList == [109]) = true := by rw [Lib.toList_data, Lib.extract_data, he]; rfl
        have hB := (hd'.trans (congrArg (fun o => Option.map (T + ·) o) (partsS_hit (by omega) he))).trans (behind_map _ _ _ _)
        have HB := Lib.hid hB; clear hB hd' he
        have hx := tms_bd c 2 (by omega)
        have hS := hT.add (tms_sat 2 (by omega) hC)
        unfold Fr
        go_wp2_with fail
        clear hs hcb hC hT
        have b1 : (f : Int) ≤ i := by omega
        have b2 : (i : Int) ≤ s.size := by omega
        have Hm := Lib.hid hm; have Htb := Lib.hid htb; clear hm htb
        go_quiet (fail)
        have htb := Htb.out
        by_cases hlt : i < s.size
        · go_wp2_with (go_at_call 35; refine (times_any _ _ (by decide) _).mono ?_; rintro e w' ⟨rfl, rfl⟩)
          go_step3
          have hB1 : durO s.data.toList = (parts (s.data.toList.drop i) (2 + 1)).map (T + C * unitSize 2 + ·) := by
            rw [HB.out, if_neg (by rw [drop_some hlt]; simp)]
          exact jl_goto ⟨_, rfl⟩ c (t + tms c 2) i f (2 + 1) C (T + C * unitSize 2) rfl (by omega) rfl rfl rfl ⟨by omega, by omega, Hcb.out, by omega, by omega, hS, HC.out, hsz, hB1⟩ (by have := Hm.out; omega)
        · have hB1 : durO s.data.toList = some (T + C * unitSize 2) := by rw [HB.out, if_pos (drop_nil (by omega))]
          have HB1 := Lib.hid hB1; clear hB1
          cases hl : lenB ((t + tms c 2 : Nat) : Int)
          all_goals
            have hl' := hl
            rw [Int.natCast_add] at hl'
            clear hl
            go_wp2_with (first | (go_at_call 35; refine (times_any _ _ (by decide) _).mono ?_; rintro e w' ⟨rfl, rfl⟩) | (go_at_call 30; refine (isLength_any _ _).mono ?_; rintro e w' ⟨rfl, rfl⟩))
            rw [jumps_ret]
            go_ret2
            exact dur_end HB1.out hS (by omega) hl' ⟨_, rfl⟩ rfl rfl
      · have hE : ((s.extract f i).toList == [109]) = false := by rw [Lib.toList_data, Lib.extract_data, beq_eq_false_iff_ne]; exact he
        have hm2 : durO s.data.toList = (partsS C ((s.data.toList.drop f).take (i - f)) (s.data.toList.drop i) (2 + 1)).map (T + ·) := by
          rw [hd', partsS_miss (by omega) he]
        have HM := Lib.hid hm2; clear hm2 hd' he
        unfold Fr
        go_wp2_with fail
        clear hs hcb
        have b1 : (f : Int) ≤ i := by omega
        have b2 : (i : Int) ≤ s.size := by omega
        have Hm := Lib.hid hm; have Htb := Lib.hid htb; clear hm htb hT hC
        go_quiet (fail)
        go_wp2_with fail
        go_step3
        show JL s w 4 _ _ ∧ _ < m
        exact jl_goto (l := 4) (m := m) (by first | exact ⟨_, rfl⟩ | exact ⟨_, World.drewN_drewN _ _ _⟩) c t i f (2 + 1) C T (by rfl) (by rfl) (by rfl) (by rfl) (by first | rfl | omega) ⟨by omega, by have := Htb.out; omega, Hcb.out, by omega, by omega, HTS.out, HC.out, hsz, HM.out⟩ (by have := Hm.out; omega)
    · have hd' : durO s.data.toList = (partsS C ((s.data.toList.drop f).take (i - f)) (s.data.toList.drop i) 3).map (T + ·) := hd
      have g1 : w.cell? ⟨0, 6, none⟩ = some (.string ⟨#[115]⟩) := (HT.out 3 (by omega)).1
      have g2 : w.cell? ⟨0, 7, none⟩ = some (.int .i64 (unitSize 3 : Nat)) := (HT.out 3 (by omega)).2
      clear hd
      by_cases he : (s.data.toList.drop f).take (i - f) = unitName 3
      · have hE : ((s.extract f i).toList == [115]) = true := by rw [Lib.toList_data, Lib.extract_data, he]; rfl
        have hB := (hd'.trans (congrArg (fun o => Option.map (T + ·) o) (partsS_hit (by omega) he))).trans (behind_map _ _ _ _)
        have HB := Lib.hid hB; clear hB hd' he
        have hx := tms_bd c 3 (by omega)
        have hS := hT.add (tms_sat 3 (by omega) hC)
        unfold Fr
        go_wp2_with fail
        clear hs hcb hC hT
        have b1 : (f : Int) ≤ i := by omega
        have b2 : (i : Int) ≤ s.size := by omega
        have Hm := Lib.hid hm; have Htb := Lib.hid htb; clear hm htb
        go_quiet (fail)
        have htb := Htb.out
        by_cases hlt : i < s.size
        · go_wp2_with (go_at_call 35; refine (times_any _ _ (by decide) _).mono ?_; rintro e w' ⟨rfl, rfl⟩)
          go_step3
          have hB1 : durO s.data.toList = (parts (s.data.toList.drop i) (3 + 1)).map (T + C * unitSize 3 + ·) := by
            rw [HB.out, if_neg (by rw [drop_some hlt]; simp)]
          exact jl_goto ⟨_, rfl⟩ c (t + tms c 3) i f (3 + 1) C (T + C * unitSize 3) rfl (by omega) rfl rfl rfl ⟨by omega, by omega, Hcb.out, by omega, by omega, hS, HC.out, hsz, hB1⟩ (by have := Hm.out; omega)
        · have hB1 : durO s.data.toList = some (T + C * unitSize 3) := by rw [HB.out, if_pos (drop_nil (by omega))]
          have HB1 := Lib.hid hB1; clear hB1
          cases hl : lenB ((t + tms c 3 : Nat) : Int)
          all_goals
            have hl' := hl
            rw [Int.natCast_add] at hl'
            clear hl
            go_wp2_with (first | (go_at_call 35; refine (times_any _ _ (by decide) _).mono ?_; rintro e w' ⟨rfl, rfl⟩) | (go_at_call 30; refine (isLength_any _ _).mono ?_; rintro e w' ⟨rfl, rfl⟩))
            rw [jumps_ret]
            go_ret2
            exact dur_end HB1.out hS (by omega) hl' ⟨_, rfl⟩ rfl rfl
      · have hE : ((s.extract f i).toList == [115]) = false := by rw [Lib.toList_data, Lib.extract_data, beq_eq_false_iff_ne]; exact he
        have hm2 : durO s.data.toList = (partsS C ((s.data.toList.drop f).take (i - f)) (s.data.toList.drop i) (3 + 1)).map (T + ·) := by
          rw [hd', partsS_miss (by omega) he]
        have HM := Lib.hid hm2; clear hm2 hd' he
        unfold Fr
        go_wp2_with fail
        clear hs hcb
        have b1 : (f : Int) ≤ i := by omega
        have b2 : (i : Int) ≤ s.size := by omega
        have Hm := Lib.hid hm; have Htb := Lib.hid htb; clear hm htb hT hC
        go_quiet (fail)
        go_wp2_with fail
        go_step3
        show JL s w 4 _ _ ∧ _ < m
        exact jl_goto (l := 4) (m := m) (by first | exact ⟨_, rfl⟩ | exact ⟨_, World.drewN_drewN _ _ _⟩) c t i f (3 + 1) C T (by rfl) (by rfl) (by rfl) (by rfl) (by first | rfl | omega) ⟨by omega, by have := Htb.out; omega, Hcb.out, by omega, by omega, HTS.out, HC.out, hsz, HM.out⟩ (by have := Hm.out; omega)
    · have hd' : durO s.data.toList = (partsS C ((s.data.toList.drop f).take (i - f)) (s.data.toList.drop i) 4).map (T + ·) := hd
      have g1 : w.cell? ⟨0, 8, none⟩ = some (.string ⟨#[109, 115]⟩) := (HT.out 4 (by omega)).1
      have g2 : w.cell? ⟨0, 9, none⟩ = some (.int .i64 (unitSize 4 : Nat)) := (HT.out 4 (by omega)).2
      clear hd
      by_cases he : (s.data.toList.drop f).take (i - f) = unitName 4
      · have hE : ((s.extract f i).toList == [109, 115]) = true := by rw [Lib.toList_data, Lib.extract_data, he]; rfl
        have hB := (hd'.trans (congrArg (fun o => Option.map (T + ·) o) (partsS_hit (by omega) he))).trans (behind_map _ _ _ _)
        have HB := Lib.hid hB; clear hB hd' he
        have hx := tms_bd c 4 (by omega)
        have hS := hT.add (tms_sat 4 (by omega) hC)
        unfold Fr
        go_wp2_with fail
        clear hs hcb hC hT
        have b1 : (f : Int) ≤ i := by omega
        have b2 : (i : Int) ≤ s.size := by omega
        have Hm := Lib.hid hm; have Htb := Lib.hid htb; clear hm htb
        go_quiet (fail)
        have htb := Htb.out
        by_cases hlt : i < s.size
        · go_wp2_with (go_at_call 35; refine (times_any _ _ (by decide) _).mono ?_; rintro e w' ⟨rfl, rfl⟩)
          go_step3
          have hB1 : durO s.data.toList = (parts (s.data.toList.drop i) (4 + 1)).map (T + C * unitSize 4 + ·) := by
            rw [HB.out, if_neg (by rw [drop_some hlt]; simp)]
          exact jl_goto ⟨_, rfl⟩ c (t + tms c 4) i f (4 + 1) C (T + C * unitSize 4) rfl (by omega) rfl rfl rfl ⟨by omega, by omega, Hcb.out, by omega, by omega, hS, HC.out, hsz, hB1⟩ (by have := Hm.out; omega)
        · have hB1 : durO s.data.toList = some (T + C * unitSize 4) := by rw [HB.out, if_pos (drop_nil (by omega))]
          have HB1 := Lib.hid hB1; clear hB1
          cases hl : lenB ((t + tms c 4 : Nat) : Int)
          all_goals
            have hl' := hl
            rw [Int.natCast_add] at hl'
            clear hl
            go_wp2_with (first | (go_at_call 35; refine (times_any _ _ (by decide) _).mono ?_; rintro e w' ⟨rfl, rfl⟩) | (go_at_call 30; refine (isLength_any _ _).mono ?_; rintro e w' ⟨rfl, rfl⟩))
            rw [jumps_ret]
            go_ret2
            exact dur_end HB1.out hS (by omega) hl' ⟨_, rfl⟩ rfl rfl
      · have hE : ((s.extract f i).toList == [109, 115]) = false := by rw [Lib.toList_data, Lib.extract_data, beq_eq_false_iff_ne]; exact he
        have hm2 : durO s.data.toList = (partsS C ((s.data.toList.drop f).take (i - f)) (s.data.toList.drop i) (4 + 1)).map (T + ·) := by
          rw [hd', partsS_miss (by omega) he]
        have HM := Lib.hid hm2; clear hm2 hd' he
        unfold Fr
        go_wp2_with fail
        clear hs hcb
        have b1 : (f : Int) ≤ i := by omega
        have b2 : (i : Int) ≤ s.size := by omega
        have Hm := Lib.hid hm; have Htb := Lib.hid htb; clear hm htb hT hC
        go_quiet (fail)
        go_wp2_with fail
        go_step3
        show JL s w 4 _ _ ∧ _ < m
        exact jl_goto (l := 4) (m := m) (by first | exact ⟨_, rfl⟩ | exact ⟨_, World.drewN_drewN _ _ _⟩) c t i f (4 + 1) C T (by rfl) (by rfl) (by rfl) (by rfl) (by first | rfl | omega) ⟨by omega, by have := Htb.out; omega, Hcb.out, by omega, by omega, HTS.out, HC.out, hsz, HM.out⟩ (by have := Hm.out; omega)
  case p3 =>
    intro hp4
    have HP := Lib.hid hp4; clear hp4
    rintro m a w' ⟨⟨k, rfl⟩, c, t, i, f, n, C, T, u, rfl, ⟨h0, -⟩ | ⟨hn, htb, hcb, hi, hf, hT, hC, hsz, hd⟩⟩ hm
    · exact absurd h0 (by decide)
    rw [μL_fr _ _ _ _ _ _ _ _ _ (by decide)] at hm
    have hd' : durO s.data.toList = (partsL C ((s.data.toList.drop f).take (i - f)) (s.data.toList.drop i) n).map (T + ·) := hd
    have Hm := Lib.hid hm; have Htb := Lib.hid htb; have Hcb := Lib.hid hcb; have HTS := Lib.hid hT; have HC := Lib.hid hC
    clear hd hm htb hcb hT hC
    have b2 : (i : Int) ≤ s.size := by omega
    by_cases hlt : i < s.size
    · cases hg : dgt s[i]
      · have hm2 : durO s.data.toList = (partsL C ((s.data.toList.drop f).take (i + 1 - f)) (s.data.toList.drop (i + 1)) n).map (T + ·) := by
          rw [hd', drop_some hlt, partsL_step hg, take_snoc_at hf hlt]
        have HM := Lib.hid hm2; clear hm2 hd'
        unfold Fr
        go_wp2_with (go_at_call 34; refine (isDigit_any _ _).mono ?_; rintro e w' ⟨rfl, rfl⟩)
        go_step3
        show JL s w 3 _ _ ∧ _ < m
        exact jl_goto (l := 3) (m := m) (by first | exact ⟨_, rfl⟩ | exact ⟨_, World.drewN_drewN _ _ _⟩) c t (i + 1) f n C T (by rfl) (by rfl) (by omega) (by rfl) (by first | rfl | omega) ⟨hn, Htb.out, Hcb.out, by omega, by omega, HTS.out, HC.out, hsz, HM.out⟩ (by have := Hm.out; omega)
      · have hm2 : durO s.data.toList = (partsS C ((s.data.toList.drop f).take (i - f)) (s.data.toList.drop i) n).map (T + ·) := by
          rw [hd', drop_some hlt, partsL_stop hg]
        have HM := Lib.hid hm2; clear hm2 hd'
        unfold Fr
        go_wp2_with (go_at_call 34; refine (isDigit_any _ _).mono ?_; rintro e w' ⟨rfl, rfl⟩)
        go_step3
        rename_i hk
        refine hk _ _ ?_
        show Code.wp Tryd.prog _ (jumps (fun l' a' w' => JL s w l' a' w' ∧ μL s l' a' w' < m) _) _ _
        exact jl_fall HP.out ⟨_, rfl⟩ c t i f n C T (by rfl) (by rfl) (by rfl) (by rfl) (by first | rfl | omega) ⟨hn, Htb.out, Hcb.out, by omega, by omega, HTS.out, HC.out, hsz, HM.out⟩ Hm.out
    · have hm2 : durO s.data.toList = (partsS C ((s.data.toList.drop f).take (i - f)) (s.data.toList.drop i) n).map (T + ·) := by
        rw [hd', drop_nil (s := s) (i := i) (by omega), partsL_nil]
      have HM := Lib.hid hm2; clear hm2 hd'
      unfold Fr
      go_wp2
      go_step3
      rename_i hk
      refine hk _ _ ?_
      show Code.wp Tryd.prog _ (jumps (fun l' a' w' => JL s w l' a' w' ∧ μL s l' a' w' < m) _) _ _
      exact jl_fall HP.out ⟨_, rfl⟩ c t i f n C T (by rfl) (by rfl) (by rfl) (by rfl) (by first | rfl | omega) ⟨hn, Htb.out, Hcb.out, by omega, by omega, HTS.out, HC.out, hsz, HM.out⟩ Hm.out
  case p2 =>
    intro hp3
    have HP := Lib.hid hp3; clear hp3
    rintro m a w' ⟨⟨k, rfl⟩, c, t, i, f, n, C, T, u, rfl, ⟨h0, -⟩ | ⟨hn, htb, hcb, hi, hf, hT, hC, hsz, ⟨hlt, hdg⟩, hd⟩⟩ hm
    · exact absurd h0 (by decide)
    rw [μL_fr _ _ _ _ _ _ _ _ _ (by decide)] at hm
    obtain ⟨d1, d2⟩ := dgt_bd hdg
    have hd' : durO s.data.toList = (partsD (10 * C + (s[i].toNat - 48)) (s.data.toList.drop (i + 1)) n).map (T + ·) := by
      rw [hd, drop_some hlt, partsD_step hdg]
    have Hm := Lib.hid hm; have Htb := Lib.hid htb; have HTS := Lib.hid hT
    clear hd hm htb hT
    have b2 : (i : Int) ≤ s.size := by omega
    obtain ⟨c2, hc2, hcb2, hC2⟩ := sat_step hcb hC (d := s[i].toNat - 48) (by omega)
    have HC := Lib.hid hC2; have HCB := Lib.hid hcb2
    clear hC hC2
    by_cases hmn : c * 10 + (s[i].toNat - 48) ≤ 1125899906842625
    all_goals
      have hv : ((c2 : Nat) : Int) = if c * 10 + (s[i].toNat - 48) ≤ 1125899906842625 then (c : Int) * 10 + ((s[i].toNat : Int) - 48) else 1125899906842625 := by
        rw [hc2]
        first
        | (rw [if_pos hmn, Nat.min_eq_left hmn]; omega)
        | (rw [if_neg hmn, Nat.min_eq_right (by omega)]; rfl)
      first | rw [if_pos hmn] at hv | rw [if_neg hmn] at hv
      have HV := Lib.hid hv; clear hv hc2
      have k1 : (48 : Int) ≤ s[i].toNat := by omega
      have k2 : (s[i].toNat : Int) ≤ 57 := by omega
      have k3 := hmn
      by_cases hl2 : i + 1 < s.size
      · cases hg : dgt s[i + 1]
        · have hm2 : durO s.data.toList = (partsL (10 * C + (s[i].toNat - 48)) ((s.data.toList.drop (i + 1)).take (i + 1 - (i + 1))) (s.data.toList.drop (i + 1)) n).map (T + ·) := by
            rw [hd', drop_some hl2, partsD_stop hg, Nat.sub_self, List.take_zero]
          have HM := Lib.hid hm2; clear hm2 hd' hdg
          unfold Fr
          go_wp2_with (go_at_call 34; refine (isDigit_any _ _).mono ?_; rintro e w' ⟨rfl, rfl⟩)
          go_step3
          rename_i hk
          refine hk _ _ ?_
          show Code.wp Tryd.prog _ (jumps (fun l' a' w' => JL s w l' a' w' ∧ μL s l' a' w' < m) _) _ _
          exact jl_fall HP.out ⟨_, rfl⟩ c2 t (i + 1) (i + 1) n (10 * C + (s[i].toNat - 48)) T (by rw [HV.out]) (by rfl) (by omega) (by omega) (by rfl) ⟨hn, Htb.out, HCB.out, by omega, by omega, HTS.out, HC.out, hsz, HM.out⟩ (by have := Hm.out; omega)
        · have hm2 : (∃ h : i + 1 < s.size, dgt s[i + 1] = true) ∧ durO s.data.toList = (partsD (10 * C + (s[i].toNat - 48)) (s.data.toList.drop (i + 1)) n).map (T + ·) := ⟨⟨hl2, hg⟩, hd'⟩
          have HM := Lib.hid hm2; clear hm2 hd' hdg
          unfold Fr
          go_wp2_with (go_at_call 34; refine (isDigit_any _ _).mono ?_; rintro e w' ⟨rfl, rfl⟩)
          go_step3
          show JL s w 2 _ _ ∧ _ < m
          exact jl_goto (l := 2) (m := m) ⟨_, rfl⟩ c2 t (i + 1) f n (10 * C + (s[i].toNat - 48)) T (by rw [HV.out]) (by rfl) (by omega) (by rfl) (by rfl) ⟨hn, Htb.out, HCB.out, by omega, by omega, HTS.out, HC.out, hsz, HM.out⟩ (by have := Hm.out; omega)
      · have hm2 : durO s.data.toList = (partsL (10 * C + (s[i].toNat - 48)) ((s.data.toList.drop (i + 1)).take (i + 1 - (i + 1))) (s.data.toList.drop (i + 1)) n).map (T + ·) := by
          rw [hd', drop_nil (s := s) (i := i + 1) (by omega), partsD_nil, Nat.sub_self, List.take_zero]
        have HM := Lib.hid hm2; clear hm2 hd' hdg
        unfold Fr
        go_wp2
        go_step3
        rename_i hk _
        refine hk _ _ ?_
        show Code.wp Tryd.prog _ (jumps (fun l' a' w' => JL s w l' a' w' ∧ μL s l' a' w' < m) _) _ _
        exact jl_fall HP.out ⟨_, rfl⟩ c2 t (i + 1) (i + 1) n (10 * C + (s[i].toNat - 48)) T (by rw [HV.out]) (by rfl) (by omega) (by omega) (by rfl) ⟨hn, Htb.out, HCB.out, by omega, by omega, HTS.out, HC.out, hsz, HM.out⟩ (by have := Hm.out; omega)
  case p1 =>
    intro hp2
    have HP := Lib.hid hp2; clear hp2
    rintro m a w' ⟨⟨k, rfl⟩, c, t, i, f, n, C, T, u, rfl, ⟨h0, -⟩ | ⟨hn, htb, hcb, hi, hf, hT, hC, hsz, hd⟩⟩ hm
    · exact absurd h0 (by decide)
    rw [μL_fr _ _ _ _ _ _ _ _ _ (by decide)] at hm
    have hd' : durO s.data.toList = (parts (s.data.toList.drop i) n).map (T + ·) := hd
    have Hm := Lib.hid hm; have Htb := Lib.hid htb; have HTS := Lib.hid hT
    clear hd hm htb hT hC hcb
    have b2 : (i : Int) ≤ s.size := by omega
    by_cases hlt : i < s.size
    · have hne : ((i : Int) == (s.size : Int)) = false := by rw [beq_eq_false_iff_ne]; omega
      have hne2 : (i == s.size) = false := by rw [beq_eq_false_iff_ne]; omega
      cases hg : dgt s[i]
      · have hm2 : durO s.data.toList = none := by
          rw [hd', drop_some hlt, parts_not hg]; rfl
        have HM := Lib.hid hm2; clear hm2 hd'
        unfold Fr
        go_wp2_with (go_at_call 34; refine (isDigit_any _ _).mono ?_; rintro e w' ⟨rfl, rfl⟩)
        go_step3
        show JL s w 0 _ _ ∧ _ < m
        exact jl_0 (m := m) ⟨_, rfl⟩ c t i f n (by rfl) (by rfl) (by rfl) (by rfl) (by rfl) HM.out (by have := Hm.out; omega)
      · have hm2 : (∃ h : i < s.size, dgt s[i] = true) ∧ durO s.data.toList = (partsD 0 (s.data.toList.drop i) n).map (T + ·) := ⟨⟨hlt, hg⟩, by rw [hd', drop_some hlt, parts_dig hg]⟩
        have HM := Lib.hid hm2; clear hm2 hd'
        unfold Fr
        go_wp2_with (go_at_call 34; refine (isDigit_any _ _).mono ?_; rintro e w' ⟨rfl, rfl⟩)
        go_step3
        rename_i hk
        refine hk _ _ ?_
        show Code.wp Tryd.prog _ (jumps (fun l' a' w' => JL s w l' a' w' ∧ μL s l' a' w' < m) _) _ _
        exact jl_fall HP.out ⟨_, rfl⟩ 0 t i f n 0 T (by rfl) (by rfl) (by rfl) (by rfl) (by rfl) ⟨hn, Htb.out, by omega, by omega, by omega, HTS.out, Sat.zero, hsz, HM.out⟩ Hm.out
    · have hm2 : durO s.data.toList = none := by
        rw [hd', drop_nil (s := s) (i := i) (by omega), parts_nil]; rfl
      have HM := Lib.hid hm2; clear hm2 hd'
      have hie : i = s.size := by omega
      have hne : ((i : Int) == (s.size : Int)) = true := by rw [beq_iff_eq]; omega
      have hne2 : (i == s.size) = true := by rw [beq_iff_eq]; omega
      clear hie
      unfold Fr
      go_wp2
      go_step3
      show JL s w 0 _ _ ∧ _ < m
      exact jl_0 (m := m) ⟨_, rfl⟩ c t i f n (by rfl) (by rfl) (by rfl) (by rfl) (by rfl) HM.out (by have := Hm.out; omega)
  case first =>
    intro hp1
    have HP := Lib.hid hp1; clear hp1
    clear hs
    by_cases h64 : 64 < s.size
    · have hm2 : durO s.data.toList = none := by unfold durO; rw [if_pos (by simpa using h64)]
      have HM := Lib.hid hm2; clear hm2
      go_wp2
      go_step3
      show JL s w 0 _ _
      exact (jl_0 (m := 1) (by first | exact ⟨0, rfl⟩) 0 0 0 0 0 (by rfl) (by rfl) (by rfl) (by rfl) (by rfl) HM.out (by omega)).1
    · have hm2 : durO s.data.toList = (parts (s.data.toList.drop 0) 0).map (0 + ·) := by
        unfold durO; rw [if_neg (by simpa using h64)]; simp
      have HM := Lib.hid hm2; clear hm2
      go_wp2
      go_step3
      rename_i hk
      refine hk _ _ ?_
      show Code.wp Tryd.prog _ (jumps (JL s w) _) _ _
      exact Code.wp_mono (jumps_mono fun _ _ _ h => h.1) (jl_fall (m := 10000) HP.out (by first | exact ⟨0, rfl⟩) 0 0 0 0 0 0 0 (by rfl) (by rfl) (by rfl) (by rfl) (by rfl) ⟨by omega, by omega, by omega, by omega, by omega, Sat.zero, Sat.zero, by omega, HM.out⟩ (by omega))
end Go.Proofs.YthjfmfacnknpfaaDoor
