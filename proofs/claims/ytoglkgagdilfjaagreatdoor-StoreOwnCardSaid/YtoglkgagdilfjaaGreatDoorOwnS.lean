/- StoreOwn: its walk. -/
import Derived.Test.YtoglkgagdilfjaaGreatDoorOwnW
namespace Go.Proofs.YtoglkgagdilfjaaGreatDoor
open Go.RowKit Go.Sort
set_option maxRecDepth 100000
set_option maxHeartbeats 4000000

attribute [local irreducible] wpQuiet
theorem walkOwn (A : Option Addr) (c : Nat) (l : List Rwm) (w : World) (h : RawsAt w A l) (hw : WdR l) (hl : l.length ≤ maxLen) (hll : ∀ r ∈ l, r.l.length ≤ maxLen) (hk : Kn w) (ht : Tab w) :
    Calls Tryz.prog 6 #[.slice A l.length c] w fun e w' => e = .returned (.bool true) ∧ Gr w w' := by
  have CK := Lib.hid (knownS_any w hk ht)
  have HTW := Lib.hid ht
  by_cases hok : fewR l ∧ errA l = 0
  case neg =>
    have CM : Hid (∀ W, Gr w W → Calls Tryz.prog 19 #[.slice A l.length c] W fun e w' => e = .returned (.tuple #[.pointer none, .pointer none, .bool false]) ∧ Gr W w') := Lib.hid (fun W g => (made_any A c l W (h.gr g) hw hl hll (hk.gr g) (ht.gr g)).mono fun e w' ⟨h1, h2⟩ => by
      rcases h2 with ⟨h3, h4, -⟩ | ⟨-, h3⟩
      · exact absurd ⟨h3, h4⟩ hok
      · exact ⟨h3, h1⟩)
    clear h hw hl hll hk ht hok
    go_enter Tryz.func6, Tryz.ntmps6
    go_wp2_with (first
      | (go_at_call 8; refine CK.out.mono ?_; rintro e w1 ⟨rfl, g1⟩)
      | (go_at_call 19; refine (CM.out _ g1).mono ?_; rintro e w2 ⟨rfl, g2⟩)
      | fail)
    go_ret
    exact ⟨rfl, g1.trans g2⟩
  have CM : Hid (∀ W, Gr w W → Calls Tryz.prog 19 #[.slice A l.length c] W fun e w' => ∃ S R v cs gs, e = .returned (.tuple #[.pointer (some ⟨S, 0, none⟩), .pointer (some ⟨R, 0, none⟩), .bool true]) ∧ Gr W w' ∧ StAt w' S gs ∧ (∃ wr, RSt wr w' R v cs gs) ∧ StL gs l) := Lib.hid (fun W g => (made_any A c l W (h.gr g) hw hl hll (hk.gr g) (ht.gr g)).mono fun e w' ⟨h1, h2⟩ => by
    rcases h2 with ⟨-, -, S, R, v, cs, gs, h3, h4, h5, h6⟩ | ⟨h3, -⟩
    · exact ⟨S, R, v, cs, gs, h3, h1, h4, h5, h6⟩
    · exact absurd hok h3)
  have hn : l.length ≤ 1000 := by have := hok.1.1; omega
  clear h hw hl hll hk ht hok
  go_enter Tryz.func6, Tryz.ntmps6
  go_wp2_with (first
    | (go_at_call 8; refine CK.out.mono ?_; rintro e w1 ⟨rfl, g1⟩)
    | (go_at_call 19; refine (CM.out _ g1).mono ?_; rintro e w2 ⟨S, R, v, cs, gs, rfl, g2, hst, ⟨wq, hrs⟩, hsl⟩)
    | fail)
  have HG2 := Lib.hid (g1.trans g2)
  have HST := Lib.hid hst; have HRS := Lib.hid hrs
  obtain ⟨A0, c0, hv, -⟩ := hrs.row.form (fun _ => rfl)
  have s1 := hrs.sCell.1
  have hln := hrs.len
  rw [hv, hln] at s1
  have HV : Hid (v = .slice A0 cs.length c0) := Lib.hid hv
  have HS1 : Hid (∀ W, Gr w2 W → W.cell? ⟨R, 0, none⟩ = some (.slice A0 gs.length c0)) := Lib.hid (fun W g => g.cell s1)
  have HPP : Hid (∀ s ∈ gs, 0 < s.2.length ∧ s.2.length ≤ 1000 ∧ s.1.length ≤ 1000) := Lib.hid (fun s hs => by
    obtain ⟨q, -, h2, h3⟩ := hsl.s s hs
    obtain ⟨r, hr, e⟩ := (hsl.mem s.1).1 (List.mem_map_of_mem hs)
    have hp : 0 < (smp s.1 l).length := by
      unfold smp
      rw [List.length_map]
      exact List.length_pos_of_mem (List.mem_filter.2 ⟨hr, by simpa using e⟩)
    refine ⟨by rw [h3]; exact lasts_pos (by rw [h2.length]; exact hp), ?_, by rw [← e]; exact Nat.le_trans (setV_len _) (by omega)⟩
    rw [h3]
    refine Nat.le_trans (lasts_len q) ?_
    rw [h2.length]
    exact Nat.le_trans (smp_len _ _) hn)
  have HAA : Hid (∀ s ∈ gs, AscT s.2 ∧ s.2.length ≤ 1000) := Lib.hid (fun s hs => ⟨by
    obtain ⟨q, h1, -, h3⟩ := hsl.s s hs
    rw [h3]; exact asc_lasts h1, (HPP.out s hs).2.1⟩)
  have hgn : gs.length ≤ 1000 := by
    obtain ⟨A', c', cs', -, -, h3, -⟩ := hst.cell
    exact h3
  have CLEN := Lib.hid (fun W (g : Gr w2 W) => len_any S gs W (HST.out.gr g))
  clear g1 g2 hst hrs hsl hv hln s1
  obtain ⟨wo, rfl⟩ : ∃ wo : World, wo = w2 := ⟨_, rfl⟩
  go_loopw [6] (fun i9 wx => ∃ k : Nat, k ≤ gs.length ∧ i9 = .int .i64 k ∧ Hid (Gr wo wx)) (fun i9 _ => gs.length - (intOf i9).toNat)
  case atStart => exact ⟨0, Nat.zero_le _, rfl, Lib.hid (Gr.refl _)⟩
  case round =>
    obtain ⟨k, hk, rfl, HX⟩ := hrel
    have CL1 := Lib.hid (CLEN.out _ HX.out)
    by_cases hlt : k < gs.length
    case neg =>
      obtain rfl : k = gs.length := by omega
      have m3 : ¬ (gs.length : Int) < (gs.length : Int) := by omega
      go_wp2_with (first
        | (go_at_call 15; refine CL1.out.mono ?_; rintro e w3 ⟨rfl, rfl⟩)
        | fail)
      go_ret
      exact ⟨rfl, HG2.out.trans HX.out⟩
    obtain ⟨s, hs⟩ : ∃ s, gs[k]? = some s := ⟨_, List.getElem?_eq_getElem hlt⟩
    have HSK := Lib.hid hs
    have n1 : (k : Int) < (gs.length : Int) := by omega
    have n2 : (0 : Int) ≤ (k : Int) := by omega
    have hb1 : s.1.length ≤ 1000 ∧ s.2.length ≤ 1000 := ⟨(HPP.out s (List.mem_of_getElem? hs)).2.2, (HPP.out s (List.mem_of_getElem? hs)).2.1⟩
    have hb2 : 0 < s.2.length := (HPP.out s (List.mem_of_getElem? hs)).1
    have CSE : Hid (∀ W, Gr wr W → Calls Tryz.prog 16 #[.pointer (some ⟨S, 0, none⟩), .int .i64 k] W fun e w' => Gr W w' ∧ ∃ A1 A2 c1 c2, e = .returned (.tuple #[.agg #[.slice A1 s.1.length c1, .slice A2 s.2.length c2], .bool true]) ∧ LabsAt w' A1 s.1 ∧ At2 encP w' A2 s.2 ∧ RowN w' W.heap.size A1 s.1.length ∧ SmpN w' W.heap.size A2 s.2.length) := Lib.hid (fun W g => (series_any S gs k W (HST.out.gr (HX.out.trans g)) HPP.out).mono fun e w' ⟨h1, h2⟩ => ⟨h1, by
      rcases h2 with ⟨k', s', A1, A2, c1, c2, e1, e2, rfl, h3, x, e4, e5, -, -, -, h5⟩ | ⟨h3, -⟩
      · obtain rfl : k = k' := by omega
        rw [hs] at e2
        obtain rfl := Option.some.inj e2
        simp only at e4
        refine ⟨A1, A2, c1, c2, rfl, h3.1, by rw [e4]; exact at2_rowP h5, fun h0 => ?_, fun h0 => ⟨x, e4, e5, s.2, rfl, h5⟩⟩
        obtain ⟨g, o, f1, f2, f3⟩ := h3.2 h0
        exact ⟨g, o, f1, f2, s.1, rfl, f3⟩
      · omega⟩)
    have CRG := Lib.hid (fun W (g : Gr wr W) => (range_any S gs k (-1125899906842625) 1125899906842624 W (HST.out.gr (HX.out.trans g)) (HTW.out.gr ((HG2.out.trans HX.out).trans g)) HAA.out).mono (fun e w' ⟨h1, v', h2, h3⟩ => by
      obtain ⟨A3, c3, e3, h4, h5⟩ := own_smpN h3
      exact (show Gr W w' ∧ ∃ A3 n3 c3, e = .returned (.slice A3 n3 c3) ∧ n3 ≤ 1000 ∧ n3 ≤ c3 ∧ SmpN w' W.heap.size A3 n3 from ⟨h1, A3, _, c3, by rw [h2, e3], range_len HAA.out _ _ _, h4, h5⟩)))
    obtain ⟨x, sx⟩ := s
    simp only at CSE hb1 hb2
    have HS := Lib.hid hs
    clear hs
    go_wp2_with (first
      | (go_at_call 15; refine CL1.out.mono ?_; rintro e w3 ⟨rfl, rfl⟩)
      | (go_at_call 16; refine (CSE.out _ (Gr.refl _)).mono ?_; rintro e w8 ⟨g8, A1, A2, c3, c4, rfl, hla, hsa, hrn, hsn⟩)
      | fail)
    obtain ⟨wl, rfl⟩ : ∃ wl : World, wl = wr := ⟨_, rfl⟩
    obtain ⟨Y, hY, gY, hbY⟩ := fresh w8 #[.slice A1 x.length c3, .slice A2 sx.length c4] 47
    have b0 := hbY 0 (.slice A1 x.length c3) rfl
    have b1 := hbY 1 (.slice A2 sx.length c4) rfl
    rw [hY]
    have HJ : Hid (OwnJ wl Y w8.heap.size A1 A2 x.length sx.length c3 c4) := Lib.hid ⟨g8.trans gY, b0, b1, hrn.gr gY, hsn.gr gY⟩
    obtain ⟨N8, hN8⟩ : ∃ n, w8.heap.size = n := ⟨_, rfl⟩
    rw [hN8] at HJ ⊢
    clear hN8 hY gY hbY b0 b1 g8 hla hsa hrn hsn
    go_wp2_with fail
    go_loopw [9] (fun i9 wz => ∃ j : Nat, j ≤ sx.length ∧ i9 = .int .i64 j ∧ Hid (OwnJ wl wz N8 A1 A2 x.length sx.length c3 c4)) (fun i9 _ => sx.length - (intOf i9).toNat)
    case atStart => exact ⟨0, Nat.zero_le _, rfl, HJ⟩
    case round =>
      obtain ⟨j, hj, rfl, HZ⟩ := hrel
      have z1 := HZ.out.b1
      by_cases hlt2 : j < sx.length
      · obtain ⟨g, u, rfl, d1, d2, hset⟩ := HZ.out.at2 hlt2
        have HSET := Lib.hid (hset 4635118810238550016)
        have n3 : (j : Int) < (sx.length : Int) := by omega
        have n4 : (0 : Int) ≤ (j : Int) := by omega
        clear hset
        go_wp2_with fail
        go_roundw
        case rel => exact ⟨j + 1, by omega, by go_num, by simpa using HSET⟩
        case measure => simp [intOf]; omega
      · obtain rfl : j = sx.length := by omega
        have n3 : ¬ (sx.length : Int) < (sx.length : Int) := by omega
        obtain ⟨wm, rfl⟩ : ∃ wm : World, wm = wr := ⟨_, rfl⟩
        have HL0 : Hid (OwnL wl wm N8 A1 x.length c3) := Lib.hid ⟨HZ.out.g, HZ.out.b0, HZ.out.r1⟩
        go_wp2_with (first
          | (go_at_call 30; refine (CRG.out _ HL0.out.g).mono ?_; rintro e w9 ⟨g9, A3, n5, c5, rfl, hn5, hc5, hsn⟩)
          | fail)
        have HM : Hid (OwnL wl w9 N8 A1 x.length c3 ∧ SmpN w9 wl.heap.size A3 n5) := Lib.hid ⟨HL0.out.gr g9, fun h0 => by
          obtain ⟨b, e, hb, r⟩ := hsn h0
          exact ⟨b, e, Nat.le_trans HL0.out.g.size hb, r⟩⟩
        clear g9 hsn
        go_loopw [11] (fun i9 wz => ∃ j : Nat, j ≤ n5 ∧ i9 = .int .i64 j ∧ Hid (OwnL wl wz N8 A1 x.length c3 ∧ SmpN wz wl.heap.size A3 n5)) (fun i9 _ => n5 - (intOf i9).toNat)
        case atStart => exact ⟨0, Nat.zero_le _, rfl, HM⟩
        case round =>
          obtain ⟨j, hj, rfl, HQ⟩ := hrel
          by_cases hlt3 : j < n5
          · obtain ⟨g, u, rfl, d1, d2, hset⟩ := HQ.out.1.at0 HQ.out.2 hlt3
            have HSET := Lib.hid hset
            have n6 : (j : Int) < (n5 : Int) := by omega
            have n7 : (0 : Int) ≤ (j : Int) := by omega
            clear hset
            go_wp2_with fail
            go_roundw
            case rel => exact ⟨j + 1, by omega, by go_num, Lib.hid (HSET.out _)⟩
            case measure => simp [intOf]; omega
          · obtain rfl : j = n5 := by omega
            have n6 : ¬ (j : Int) < (j : Int) := by omega
            have HL1 := Lib.hid HQ.out.1
            go_wp2_with fail
            go_loopw [12] (fun i9 wz => ∃ j : Nat, j ≤ x.length ∧ i9 = .int .i64 j ∧ Hid (OwnL wl wz N8 A1 x.length c3)) (fun i9 _ => x.length - (intOf i9).toNat)
            case atStart => exact ⟨0, Nat.zero_le _, rfl, HL1⟩
            case round =>
              obtain ⟨i, hi, rfl, HV2⟩ := hrel
              have z0 := HV2.out.b0
              by_cases hlt4 : i < x.length
              · obtain ⟨g, o, u, rfl, d1, d2, hset⟩ := HV2.out.at1 hlt4
                have HSET := Lib.hid (hset ⟨#[33]⟩)
                have n8 : (i : Int) < (x.length : Int) := by omega
                have n9 : (0 : Int) ≤ (i : Int) := by omega
                clear hset
                go_wp2_with fail
                go_roundw
                case rel => exact ⟨i + 1, by omega, by go_num, by simpa using HSET⟩
                case measure => simp [intOf]; omega
              · obtain rfl : i = x.length := by omega
                have n8 : ¬ (x.length : Int) < (x.length : Int) := by omega
                have HG7 := Lib.hid HV2.out.g
                obtain ⟨wn, rfl⟩ : ∃ wn : World, wn = wr := ⟨_, rfl⟩
                have HON := Lib.hid (HX.out.trans HG7.out)
                have s1 := HS1.out _ HON.out
                obtain ⟨cc, hc⟩ : ∃ cc, cs[k]? = some cc := ⟨_, List.getElem?_eq_getElem (by have := HRS.out.len; omega)⟩
                obtain ⟨g, cap, a2, c7, a1, c6, hv2, -, -, -, -, -, hat2, -, hl1, d1, d2, hgl⟩ := (HRS.out.gr HON.out).face hc HS.out
                rw [HV.out] at hv2
                injection hv2 with hv3 hv4 hv5
                subst hv3; subst hv5
                have HL1b := Lib.hid hl1; have HAT2 := Lib.hid hat2
                simp only at d1 d2 HL1b HAT2
                clear hc hl1 hat2 hv4
                go_wp2_with (first | (go_at_call 16; refine (CSE.out _ HG7.out).mono ?_; rintro e w10 ⟨g10, B1, B2, c8, c9, rfl, hla, hsa, -, -⟩; have s8 := g10.cell s1; have d3 := g10.cell d1; have d4 := g10.cell d2; have HL8 := Lib.hid hla; have HS8 := Lib.hid hsa; have HG8 := Lib.hid g10; clear hla hsa g10 s1 d1 d2) | fail)
                obtain ⟨Y, hY, gY, hbY⟩ := fresh w10 #[.slice B1 x.length c8, .slice B2 sx.length c9] 47
                have b0 := hbY 0 (.slice B1 x.length c8) rfl
                have b1 := hbY 1 (.slice B2 sx.length c9) rfl
                rw [hY]
                have s9 := gY.cell s8
                have d5 := gY.cell d3
                have d6 := gY.cell d4
                have HGY := Lib.hid ((HON.out.trans HG8.out).trans gY)
                have HG9Y := Lib.hid (HG8.out.trans gY)
                have CS1 := Lib.hid (gq (W := Y) (v := .bool true) fun W' g => by
                  have := same_any B1 a1 x x c8 c6 W' ((HL8.out.gr gY).gr g) ((HL1b.out.gr HG9Y.out).gr g) (by omega) (by omega)
                  simpa using this)
                have CS2 := Lib.hid (gq (W := Y) fun W' g => samplesEq_any B2 a2 c9 c7 sx W' ((HS8.out.gr gY).gr g) ((HAT2.out.gr HG9Y.out).gr g) hb1.2)
                obtain ⟨N9, hN9⟩ : ∃ n, w10.heap.size = n := ⟨_, rfl⟩
                rw [hN9] at b0 b1 ⊢
                clear hN9 hY gY hbY s8 d3 d4 z0
                have k1 := cell_regrown b0; have k2 := cell_regrown b1; have k3 := cell_regrown s9; have k4 := cell_regrown d5; have k5 := cell_regrown d6
                refine wp_region_quiet_below (by kernel_rfl) (by kernel_rfl) ?_
                repeat (quiet_step (first | exact CS1.out _ _ | exact CS2.out _ _))
                refine wpQuiet_nil ?_
                intro _ hw'
                obtain ⟨⟨dq, osq⟩, hw''⟩ := hw'
                subst hw''
                have HGF : Hid (Gr wo (Go.Sort.grow (redrawn Y dq) osq)) := Lib.hid (HGY.out.trans ⟨below_regrown Y dq osq⟩)
                clear k1 k2 k3 k4 k5 b0 b1 s9 d5 d6
                generalize Go.Sort.grow (redrawn Y dq) osq = w11 at *
                go_wp2
                go_roundw
                case rel => exact ⟨k + 1, by omega, by go_num, HGF⟩
                case measure => simp [intOf]; omega
end Go.Proofs.YtoglkgagdilfjaaGreatDoor
