/- StoreMakes where no sample has an error: its walk. -/
import Derived.Test.YtoglkgagdilfjaaGreatDoorLawMakes
import Derived.Lib.QuietBelow
namespace Go.Proofs.YtoglkgagdilfjaaGreatDoor
open Go.RowKit Go.Sort
set_option maxRecDepth 100000
set_option maxHeartbeats 4000000

attribute [local irreducible] wpQuiet
theorem walkMakes_ok (A : Option Addr) (c : Nat) (l : List Rwm) (i : Int) (w : World) (h : RawsAt w A l) (hw : WdR l) (hl : l.length ≤ maxLen) (hc : l.length ≤ c) (hll : ∀ r ∈ l, r.l.length ≤ maxLen) (hk : Kn w) (ht : Tab w) (hf : fewR l) (he : errA l = 0) :
    Calls Tryz.prog 3 #[.slice A l.length c, .int .i64 i] w fun e w' => e = .returned (.bool true) ∧ Gr w w' := by
  have hwr := fewR_wr hf hw
  have HL := Lib.hid h; have HWR := Lib.hid hwr
  have CK := Lib.hid (knownS_any w hk ht)
  have CF : Hid (∀ W, Gr w W → Calls Tryz.prog 9 #[.slice A l.length c] W fun e w' => e = .returned (.bool true) ∧ W = w') := Lib.hid (fun W g => (fewS_any A c l W (h.gr g) hw hl hll).mono fun e w' ⟨h1, h2⟩ => by
    rcases h2 with ⟨-, rfl⟩ | ⟨h3, -⟩
    · exact ⟨rfl, h1⟩
    · exact absurd hf h3)
  obtain ⟨gs, huq⟩ : ∃ gs, ∀ g, StL g l → g = gs := by
    by_cases hx : ∃ g, StL g l
    · obtain ⟨g, hg⟩ := hx
      exact ⟨g, fun g' h' => h'.unique hg⟩
    · exact ⟨[], fun g hg => absurd ⟨g, hg⟩ hx⟩
  have CN : Hid (∀ W, Gr w W → Calls Tryz.prog 10 #[.slice A l.length c] W fun e w' => Gr W w' ∧ ∃ S, e = .returned (.tuple #[.pointer (some ⟨S, 0, none⟩), .int .i64 0]) ∧ StAt w' S gs ∧ StL gs l) := Lib.hid (fun W g => (newS_any A c l W (h.gr g) hwr (hk.gr g) (ht.gr g)).mono fun e w' ⟨h1, h2⟩ => by
    rw [if_pos he] at h2
    obtain ⟨S, g', rfl, h3, h4⟩ := h2
    have := huq g' h4
    subst this
    exact ⟨h1, S, rfl, h3, h4⟩)
  have CO := Lib.hid (fun W (g : Gr w W) => of_any A c l W (h.gr g) hwr.n)
  have CR : Hid (∀ W A' c', RawsAt W A' l → Calls Tryz.prog 11 #[.slice A' l.length c'] W fun e w' => Gr W w' ∧ ∃ R v cs, e = .returned (.tuple #[.pointer (some ⟨R, 0, none⟩), .int .i64 0]) ∧ RSt W w' R v cs gs) := Lib.hid (fun W A' c' h' => (rNew_any A' c' l W h' hwr).mono fun e w' ⟨h1, h2⟩ => by
    rw [if_pos he] at h2
    obtain ⟨R, v, cs, g', rfl, h3, h4⟩ := h2
    have := huq g' h4
    subst this
    exact ⟨h1, R, v, cs, rfl, h3⟩)
  unfold maxLen at hl
  have hn := hwr.n
  clear h hw hll hk ht hf he hwr huq
  go_enter Tryz.func3, Tryz.ntmps3
  go_wp2_with (first
    | (go_at_call 8; refine CK.out.mono ?_; rintro e w1 ⟨rfl, g1⟩)
    | (go_at_call 9; refine (CF.out _ g1).mono ?_; rintro e w' ⟨rfl, rfl⟩)
    | (go_at_call 10; refine (CN.out _ g1).mono ?_; rintro e w2 ⟨g2, S, rfl, hst, hsl⟩)
    | (go_at_call 12; refine (CO.out _ (g1.trans g2)).mono ?_; rintro e w3 ⟨g3, A3, c3, rfl, hr3⟩)
    | (go_at_call 11; refine (CR.out _ A3 c3 hr3).mono ?_; rintro e w4 ⟨g4, R, v, cs, rfl, hrs⟩)
    | fail)
  have HG4 := Lib.hid (((g1.trans g2).trans g3).trans g4)
  have HST := Lib.hid (hst.gr (g3.trans g4)); have HRS := Lib.hid hrs; have HSL := Lib.hid hsl
  clear g1 g2 g3 g4 hr3 hst hrs hsl
  go_loopw [9] (fun i9 wr => ∃ k : Nat, k ≤ l.length ∧ i9 = .int .i64 k ∧ Hid (Gr w wr) ∧ Hid (Gr w4 wr)) (fun i9 _ => l.length - (intOf i9).toNat)
  case atStart => exact ⟨0, Nat.zero_le _, rfl, HG4, Lib.hid (Gr.refl _)⟩
  case round =>
    obtain ⟨k, hk, rfl, HG, HG9⟩ := hrel
    by_cases hlt : k < l.length
    · obtain ⟨b, o, LA, lc, rfl, d1, hLA, d2, d3, -⟩ := (HL.out.gr HG.out).at_ hlt
      have hb := HWR.out.l l[k] (List.getElem_mem hlt)
      obtain ⟨r, hr⟩ : ∃ r, l[k] = r := ⟨_, rfl⟩
      have HK : Hid (l[k]? = some r) := Lib.hid (by rw [List.getElem?_eq_getElem hlt, hr])
      rw [hr] at d1 hLA d2 d3 hb
      have n1 : (k : Int) < (l.length : Int) := by omega
      have n2 : (0 : Int) ≤ (k : Int) := by omega
      have n3 : (k : Int) + 1 ≤ (c : Int) := by omega
      have hck : ¬ c = k := by omega
      have n4 : (k : Int) ≤ (k : Int) + 1 := by omega
      have n5 : (0 : Int) ≤ (k : Int) + 1 := by omega
      have n6 : ((k : Int) + 1).toNat = k + 1 := by omega
      have ww : IntKind.i64.wrap ((k : Int) + 1) = (k : Int) + 1 := by rw [IntKind.wrap_i64]; omega
      have CC := Lib.hid (fun W (g : Gr wr W) => check_any LA lc r W (hLA.gr g) hb.1 (by omega))
      have CO1 := Lib.hid (fun W (g : Gr wr W) => of_any (some ⟨b, o + k * 3, none⟩) (c - k) [r] W (one_raw ((HL.out.gr HG.out).gr g) HK.out) (by simp))
      have CR1 := Lib.hid (fun W LA' lc' (h : LabsAt W LA' r.l) => rcheck_raw LA' lc' r W h hb.1 (by omega))
      obtain ⟨d, hd⟩ : ∃ d, rawE r = d := ⟨_, rfl⟩
      rw [hd] at CC CR1
      obtain ⟨rl, rt, rv⟩ := r
      simp only at d1 d2 d3 CC CR1
      clear hr hb hLA hd
      go_upto_region 12 with fail
      go_region_law
        (first
          | (go_simp
             go_at_call 13
             refine (CC.out _ (Gr.refl _).drew).mono ?_
             rintro e w5 ⟨rfl, g5⟩
             have G5 : Gr wr w5 := (Gr.refl wr).drew.trans g5)
          | (go_simp
             go_at_call 12
             refine (CO1.out _ G5).mono ?_
             rintro e w6 ⟨g6, A6, c6, rfl, hr6⟩
             have G6 : Gr wr w6 := G5.trans g6
             obtain ⟨b6, o6, rfl, hcells⟩ := hr6 (by simp)
             obtain ⟨LA6, lc6, x0, x1, x2, x3⟩ := hcells 0 _ rfl
             simp only [Nat.zero_mul, Nat.add_zero] at x0 x2 x3
             have HX1 := Lib.hid x1
             clear hcells x1 hr6)
          | (go_simp
             go_at_call 14
             refine (CR1.out _ LA6 lc6 HX1.out).mono ?_
             rintro e w7 ⟨rfl, g7⟩
             have G7 : Gr wr w7 := G6.trans g7))
      all_goals
        have HG7 := Lib.hid (HG.out.trans G7)
        have HG97 := Lib.hid (HG9.out.trans G7)
        have nd : (d != d) = false := by simp
        clear G5 G6 G7 g5 g6 g7 x0 x2 x3 d1 d2 d3
        go_wp2_with fail
        go_roundw
        case rel => exact ⟨k + 1, by omega, by go_num, HG7, HG97⟩
        case measure => simp [intOf]; omega
    · obtain rfl : k = l.length := by omega
      have n3 : ¬ (l.length : Int) < (l.length : Int) := by omega
      have HSTr := Lib.hid (HST.out.gr HG9.out)
      have HRSr := Lib.hid (HRS.out.gr HG9.out)
      obtain ⟨A0, c0, hv, -⟩ := HRSr.out.row.form (fun _ => rfl)
      have s1 := HRSr.out.sCell.1
      have hln := HRSr.out.len
      rw [hv, hln] at s1
      have CLEN := Lib.hid (fun W (g : Gr wr W) => len_any S gs W (HSTr.out.gr g))
      have nl : ((gs.length : Int) != (gs.length : Int)) = false := by simp
      have HV : Hid (v = .slice A0 cs.length c0) := Lib.hid hv
      clear hv hln
      go_wp2_with fail
      go_quiet (first | (go_at_call 15; exact quiet_left (CLEN.out _ ((Gr.refl _).drewN _))))
      go_wp2
      obtain ⟨wo, rfl⟩ : ∃ wo : World, wo = wr := ⟨_, rfl⟩
      have HS1 : Hid (∀ W, Gr wo W → W.cell? ⟨R, 0, none⟩ = some (.slice A0 gs.length c0)) := Lib.hid (fun W g => g.cell s1)
      have HPP : Hid (∀ s ∈ gs, 0 < s.2.length ∧ s.2.length ≤ 1000 ∧ s.1.length ≤ 1000) := Lib.hid (fun s hs => by
        obtain ⟨q, -, h2, h3⟩ := HSL.out.s s hs
        obtain ⟨r, hr, e⟩ := (HSL.out.mem s.1).1 (List.mem_map_of_mem hs)
        have hp : 0 < (smp s.1 l).length := by
          unfold smp
          rw [List.length_map]
          exact List.length_pos_of_mem (List.mem_filter.2 ⟨hr, by simpa using e⟩)
        refine ⟨by rw [h3]; exact lasts_pos (by rw [h2.length]; exact hp), ?_, by rw [← e]; exact Nat.le_trans (setV_len _) (by omega)⟩
        rw [h3]
        refine Nat.le_trans (lasts_len q) ?_
        rw [h2.length]
        exact Nat.le_trans (smp_len _ _) hn)
      have hgn : gs.length ≤ 1000 := by
        obtain ⟨A', c', cs', -, -, h3, -⟩ := HSTr.out.cell
        exact h3
      clear s1 CLEN
      go_loopw [10] (fun i9 wx => ∃ k : Nat, k ≤ gs.length ∧ i9 = .int .i64 k ∧ Hid (Gr wo wx)) (fun i9 _ => gs.length - (intOf i9).toNat)
      case atStart => exact ⟨0, Nat.zero_le _, rfl, Lib.hid ((Gr.refl _).drewN _)⟩
      case round =>
        obtain ⟨k, hk, rfl, HX⟩ := hrel
        have s1 := HS1.out _ HX.out
        by_cases hlt : k < gs.length
        · obtain ⟨s, hs⟩ : ∃ s, gs[k]? = some s := ⟨_, List.getElem?_eq_getElem hlt⟩
          obtain ⟨cc, hc⟩ : ∃ cc, cs[k]? = some cc := ⟨_, List.getElem?_eq_getElem (by have := HRSr.out.len; omega)⟩
          obtain ⟨g, cap, a2, c2, a1, c1, hv2, -, -, -, -, -, hat2, -, hl1, d1, d2, hgl⟩ := (HRSr.out.gr HX.out).face hc hs
          have CSE : Hid (Calls Tryz.prog 16 #[.pointer (some ⟨S, 0, none⟩), .int .i64 k] wr fun e w' => Gr wr w' ∧ ∃ A1 A2 c1 c2, e = .returned (.tuple #[.agg #[.slice A1 s.1.length c1, .slice A2 s.2.length c2], .bool true]) ∧ LabsAt w' A1 s.1 ∧ At2 encP w' A2 s.2) := Lib.hid ((series_any S gs k wr (HSTr.out.gr HX.out) HPP.out).mono fun e w' ⟨h1, h2⟩ => ⟨h1, by
            rcases h2 with ⟨k', s', A1, A2, c1, c2, e1, e2, rfl, h3, x, e4, -, -, -, -, h5⟩ | ⟨h3, -⟩
            · obtain rfl : k = k' := by omega
              rw [hs] at e2
              obtain rfl := Option.some.inj e2
              simp only at e4
              exact ⟨A1, A2, c1, c2, rfl, h3.1, by rw [e4]; exact at2_rowP h5⟩
            · omega⟩)
          rw [HV.out] at hv2
          injection hv2 with hv3 hv4 hv5
          subst hv3; subst hv5
          have n1 : (k : Int) < (gs.length : Int) := by omega
          have n2 : (0 : Int) ≤ (k : Int) := by omega
          have HL1 := Lib.hid hl1; have HAT2 := Lib.hid hat2
          have hb1 : s.1.length ≤ 1000 ∧ s.2.length ≤ 1000 := ⟨(HPP.out s (List.mem_of_getElem? hs)).2.2, (HPP.out s (List.mem_of_getElem? hs)).2.1⟩
          obtain ⟨x, sx⟩ := s
          simp only at d1 d2 HL1 HAT2 hb1 CSE
          clear hs hc hl1 hat2 hv4
          go_wp2_with (go_at_call 16; refine CSE.out.mono ?_; rintro e w8 ⟨g8, A1, A2, c3, c4, rfl, hla, hsa⟩; have s8 := g8.cell s1; have d3 := g8.cell d1; have d4 := g8.cell d2; have HL8 := Lib.hid hla; have HS8 := Lib.hid hsa; have HG8 := Lib.hid g8; clear hla hsa g8 s1 d1 d2)
          obtain ⟨Y, hY, gY, hbY⟩ := fresh w8 #[.slice A1 x.length c3, .slice A2 sx.length c4] 47
          have b0 := hbY 0 (.slice A1 x.length c3) rfl
          have b1 := hbY 1 (.slice A2 sx.length c4) rfl
          rw [hY]
          have s9 := gY.cell s8
          have d5 := gY.cell d3
          have d6 := gY.cell d4
          have HGY := Lib.hid ((HX.out.trans HG8.out).trans gY)
          have HG9Y := Lib.hid (HG8.out.trans gY)
          have HGw := Lib.hid gY
          have CS1 := Lib.hid (gq (W := Y) (v := .bool true) fun W' g => by
            have := same_any A1 a1 x x c3 c1 W' ((HL8.out.gr gY).gr g) ((HL1.out.gr HG9Y.out).gr g) (by omega) (by omega)
            simpa using this)
          have CS2 := Lib.hid (gq (W := Y) fun W' g => samplesEq_any A2 a2 c4 c2 sx W' ((HS8.out.gr gY).gr g) ((HAT2.out.gr HG9Y.out).gr g) hb1.2)
          obtain ⟨N8, hN8⟩ : ∃ n, w8.heap.size = n := ⟨_, rfl⟩
          rw [hN8] at b0 b1 ⊢
          clear hN8 hY gY hbY s8 d3 d4
          have k1 := cell_regrown b0; have k2 := cell_regrown b1; have k3 := cell_regrown s9; have k4 := cell_regrown d5; have k5 := cell_regrown d6
          refine wp_region_quiet_below (by kernel_rfl) (by kernel_rfl) ?_
          repeat (quiet_step (first | exact CS1.out _ _ | exact CS2.out _ _))
          refine wpQuiet_nil ?_
          intro _ hw'
          obtain ⟨⟨dq, osq⟩, hw''⟩ := hw'
          subst hw''
          have HGF : Hid (Gr wo (Go.Sort.grow (redrawn Y dq) osq)) := Lib.hid (HGY.out.trans ⟨below_regrown Y dq osq⟩)
          clear k1 k2 k3 k4 k5 b0 b1 s9 d5 d6
          generalize Go.Sort.grow (redrawn Y dq) osq = w9 at *
          go_wp2
          go_roundw
          case rel => exact ⟨k + 1, by omega, by go_num, HGF⟩
          case measure => simp [intOf]; omega
        · obtain rfl : k = gs.length := by omega
          have m3 : ¬ (gs.length : Int) < (gs.length : Int) := by omega
          obtain ⟨ok, hok⟩ : ∃ ok, (decide (i ≥ 0) && decide (i < (gs.length : Int))) = ok := ⟨_, rfl⟩
          have CSE : Hid (Calls Tryz.prog 16 #[.pointer (some ⟨S, 0, none⟩), .int .i64 i] wr fun e w' => Gr wr w' ∧ ∃ a1 n1 c1 a2 n2 c2, e = .returned (.tuple #[.agg #[.slice a1 n1 c1, .slice a2 n2 c2], .bool ok])) := Lib.hid ((series_any S gs i wr (HSTr.out.gr HX.out) HPP.out).mono fun e w' ⟨h1, h2⟩ => ⟨h1, by
            rcases h2 with ⟨k', s', A1, A2, c1, c2, e1, e2, rfl, -⟩ | ⟨h3, rfl⟩
            · have := (List.getElem?_eq_some_iff.1 e2).1
              have e : ok = true := by rw [← hok]; simp; omega
              rw [e]
              exact ⟨_, _, _, _, _, _, rfl⟩
            · have e : ok = false := by rw [← hok]; simp; omega
              rw [e]
              exact ⟨_, _, _, _, _, _, rfl⟩⟩)
          have HOK := Lib.hid hok
          by_cases hi0 : i < 0
          · have e : ok = false := by rw [← hok]; simp; omega
            subst e
            have q1 : decide (i ≥ 0) = false := decide_eq_false (by omega)
            have q2 : ¬ (0 : Int) ≤ i := by omega
            clear hok
            go_wp2_with (go_at_call 16; refine CSE.out.mono ?_; rintro e w8 ⟨g8, z1, z2, z3, z4, z5, z6, rfl⟩; have HG8 := Lib.hid g8; clear g8)
            go_ret
            exact ⟨by first | rfl | (simp; done) | (simp; omega), (((HG.out.trans HX.out).trans HG8.out).alloc _ _)⟩
          · have q1 : decide (i ≥ 0) = true := decide_eq_true (by omega)
            have q2 : (0 : Int) ≤ i := by omega
            by_cases hin : i < (gs.length : Int)
            · have e : ok = true := by rw [← hok]; simp; omega
              subst e
              clear hok
              go_wp2_with (go_at_call 16; refine CSE.out.mono ?_; rintro e w8 ⟨g8, z1, z2, z3, z4, z5, z6, rfl⟩; have HG8 := Lib.hid g8; have s8 := (g8.alloc #[.slice z1 z2 z3, .slice z4 z5 z6] 47).cell s1; clear g8)
              go_ret
              exact ⟨by first | rfl | (simp; done) | (simp; omega), (((HG.out.trans HX.out).trans HG8.out).alloc _ _)⟩
            · have e : ok = false := by rw [← hok]; simp; omega
              subst e
              clear hok
              go_wp2_with (go_at_call 16; refine CSE.out.mono ?_; rintro e w8 ⟨g8, z1, z2, z3, z4, z5, z6, rfl⟩; have HG8 := Lib.hid g8; have s8 := (g8.alloc #[.slice z1 z2 z3, .slice z4 z5 z6] 47).cell s1; clear g8)
              go_ret
              exact ⟨by first | rfl | (simp; done) | (simp; omega), (((HG.out.trans HX.out).trans HG8.out).alloc _ _)⟩
end Go.Proofs.YtoglkgagdilfjaaGreatDoor
