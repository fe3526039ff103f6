/- The walk of AggGroups. -/
import Derived.Test.YtihiklmomhhdbaaGreatDoorGLwS
import Derived.Test.YtihiklmomhhdbaaGreatDoorGKnw
import Derived.Test.YtihiklmomhhdbaaGreatDoorRefGroup
namespace Go.Proofs.YtihiklmomhhdbaaGreatDoor.Pt
open Go.RowKit Go.Sort
set_option maxRecDepth 100000
set_option maxHeartbeats 8000000
attribute [local irreducible] wpQuiet

theorem walkGroups (N : Option Addr) (d : Nat) (how : Int) (ns : List ByteArray) (A : Option Addr) (c : Nat) (l : List Pt) (w : World) (hN : StrsAt w N ns) (hnd : ns.length ≤ d) (hdm : d ≤ maxLen) (hz : ∀ s ∈ ns, s.size ≤ maxLen)
    (h : PtsAt w A l) (hw : WdP l) (hb : ∀ p ∈ l, p.2 < 2 ^ 64) (hc : l.length ≤ c) (hcm : c ≤ maxLen) (ht : Fv.Tab w) (hn : Nmz w) (hkn : Kn w) :
    Calls Tryz.prog 5 #[.agg #[.int .i64 how, .slice N ns.length d], .slice A l.length c] w fun e w' => e = .returned (.bool true) ∧ Gr w w' := by
  obtain ⟨nn, hnn⟩ : ∃ nn, ns.length = nn := ⟨_, rfl⟩
  obtain ⟨W1, hW1, g1, hb1⟩ := fresh w #[.int .i64 how, .slice N nn d] 49
  have a0 := hb1 0 (.int .i64 how) rfl
  have a1 := hb1 1 (.slice N nn d) rfl
  obtain ⟨P, hP⟩ : ∃ P, w.heap.size = P := ⟨_, rfl⟩
  rw [hP] at a0 a1
  have HP := Lib.hid hP; have HW1 := Lib.hid hW1; have HG1 := Lib.hid g1
  have HL := Lib.hid (h.gr g1); have HS := Lib.hid (hN.gr g1); have HT := Lib.hid (ht.gv g1); have HNZ := Lib.hid (hn.gv g1); have HKN := Lib.hid (hkn.gr g1)
  have HZ := Lib.hid hz; have HBD := Lib.hid hb
  have CK := Lib.hid (known10_any W1 HT.out HNZ.out HKN.out)
  have CR := Lib.hid (fun W (g : Gr W1 W) => lawRight_any A l c W (HL.out.gr g) hw (Nat.le_trans hc hcm))
  have CF := Lib.hid (fun W (g : Gr W1 W) => few10_any N ns d how W (HS.out.gr g) (Nat.le_trans hnd hdm) hz)
  have CC := Lib.hid (fun W (g : Gr W1 W) => rcheck_any N ns d how W (HS.out.gr g) hnd hdm hz)
  have HND := Lib.hid hnd; have HDM := Lib.hid hdm
  rw [hnn] at CF CC ⊢
  have HNN := Lib.hid hnn
  clear h hw hb ht hn hkn hN hz hnd hdm hb1 hW1 g1 hP hnn
  obtain ⟨r, hr⟩ : ∃ r, rgtV l = r := ⟨_, rfl⟩
  obtain ⟨fw, hfw⟩ : ∃ r, fewG ns = r := ⟨_, rfl⟩
  obtain ⟨ck, hck⟩ : ∃ r, chkG how ns = r := ⟨_, rfl⟩
  have HR := Lib.hid hr; have HFW := Lib.hid hfw; have HCK := Lib.hid hck
  rw [hr] at CR
  rw [hfw] at CF
  rw [hck] at CC
  clear hr hfw hck
  unfold maxLen at hcm
  have HCM := Lib.hid hcm
  obtain ⟨n, hln⟩ : ∃ n, l.length = n := ⟨_, rfl⟩
  have HN := Lib.hid hln
  rw [hln] at CR hc ⊢
  clear hln
  go_enter Tryz.func5, Tryz.ntmps5
  go_upto_region 1 with fail
  rw [HW1.out, HP.out]
  go_wp2_with fail
  refine CK.out.mono ?_
  rintro e w1 ⟨rfl, g1⟩
  have b0 := g1.cell a0; have b1 := g1.cell a1
  have G1 := Lib.hid g1
  clear g1 CK
  go_wp2_with fail
  refine (CR.out _ G1.out).mono ?_
  rintro e w2 ⟨rfl, g2⟩
  have c0 := g2.cell b0; have c1 := g2.cell b1
  have G2 := Lib.hid (G1.out.trans g2)
  clear g2 CR b0 b1 G1
  cases r
  · go_wp2
    go_ret
    exact ⟨rfl, HG1.out.trans G2.out⟩
  go_wp2_with fail
  refine (CF.out _ G2.out).mono ?_
  rintro e w3 ⟨rfl, g3⟩
  have b0 := g3.cell c0; have b1 := g3.cell c1
  have G3 := Lib.hid (G2.out.trans g3)
  clear g3 CF c0 c1 G2
  cases fw
  · go_wp2
    go_ret
    exact ⟨rfl, HG1.out.trans G3.out⟩
  go_wp2_with fail
  refine (CC.out _ G3.out).mono ?_
  rintro e w4 ⟨rfl, g4⟩
  have c0 := g4.cell b0; have c1 := g4.cell b1
  have G4 := Lib.hid (G3.out.trans g4)
  clear g4 CC b0 b1 G3
  cases ck
  · have e1 : ckV false = 1 := rfl
    rw [e1]
    go_wp2
    go_ret
    exact ⟨rfl, HG1.out.trans G4.out⟩
  have e1 : ckV true = 0 := rfl
  rw [e1]
  clear e1
  obtain ⟨hfew, hvec⟩ : fewV l = true ∧ vecB l = true := by have hv := HR.out; unfold rgtV at hv; rwa [Bool.and_eq_true] at hv
  have hs := fewV_sm hfew
  have hok := (vec_ok2 hvec).1
  have hns : ns.length ≤ 40 := by have := HFW.out; unfold fewG at this; rw [Bool.and_eq_true, decide_eq_true_eq] at this; exact this.1
  have hlm : n ≤ 1000 := by rw [← HN.out]; exact hs.1
  have HSM := Lib.hid hs; have HV := Lib.hid hvec
  have CA := Lib.hid (fun (op : Int) (kb : Nat) W (g : Gr W1 W) => agg_any op how kb A N l c d ns W (HL.out.gr g) hs hok (HS.out.gr g) HND.out HDM.out HZ.out (by omega) (HT.out.gv g) (HKN.out.gr g) HBD.out)
  rw [HNN.out, HN.out] at CA
  have HNL : Hid (ns.length ≤ 40) := Lib.hid hns
  clear hfew hvec hs hok hns HR HFW HND HDM HZ HBD HKN HNZ
  go_wp2
  go_loopw [5] (fun i wr => ∃ k : Nat, k ≤ n ∧ i = .int .i64 k ∧ Hid (∀ p ∈ l.take k, Fv.nanB p.2 = false) ∧ Gr w4 wr) (fun i _ => n - (intOf i).toNat)
  case atStart => exact ⟨0, Nat.zero_le _, rfl, Lib.hid (fun p hp => by simp at hp), Gr.refl _⟩
  case round =>
    obtain ⟨k, hk, rfl, HU, hg⟩ := hrel
    by_cases hlt : k < n
    · have k3 : k < l.length := by rw [HN.out]; exact hlt
      have gg := Lib.hid (G4.out.trans hg)
      obtain ⟨b2, o2, s2, m2, hA, -, q2, -, -⟩ := (HL.out.gr gg.out).cell k3
      have HTK := Lib.hid (List.take_succ_eq_append_getElem k3)
      obtain ⟨y, hy⟩ : ∃ y, l[k] = y := ⟨_, rfl⟩
      rw [hy] at q2 HTK
      obtain ⟨yv, hyv⟩ : ∃ yv, y.2 = yv := ⟨_, rfl⟩
      rw [hyv] at q2
      have HYV := Lib.hid hyv
      clear hy hyv k3
      subst hA
      have d1 : (k : Int) < (n : Int) := by omega
      cases hnn2 : Fv.nanB yv
      · have HNU : Hid (∀ p ∈ l.take (k + 1), Fv.nanB p.2 = false) := Lib.hid (fun p hp => by
          rw [HTK.out] at hp
          rcases List.mem_append.1 hp with h | h
          · exact HU.out p h
          · rw [List.mem_singleton.1 h, HYV.out]; exact hnn2)
        have hnn3 : (FloatKind.f64.format.order yv yv == some .eq) = true := by unfold Fv.nanB at hnn2; simpa using hnn2
        have hnn4 : (FloatKind.f64.format.order yv yv != some .eq) = false := by unfold Fv.nanB at hnn2; exact hnn2
        have hnn5 : FloatKind.f64.format.order yv yv = some .eq := by simpa using hnn3
        clear hnn2
        go_wp2_with fail
        go_quiet (fail)
        go_wp2
        go_roundw
        case rel => exact ⟨k + 1, by omega, by go_num, HNU, hg.drewN _⟩
        case measure => simp [intOf]; omega
      · have hnn3 : (FloatKind.f64.format.order yv yv == some .eq) = false := by unfold Fv.nanB at hnn2; simpa using hnn2
        have HX := Lib.hid (show (FloatKind.f64.format.order yv yv != some .eq) = true from hnn2)
        clear hnn2
        go_wp2_with fail
        go_quiet (fail)
        go_wp2
        all_goals first
          | exact absurd (HX.out.symm.trans (by assumption)) (by decide)
          | (go_ret
             exact ⟨rfl, HG1.out.trans (G4.out.trans (hg.drewN _))⟩)
    · have HNA : Hid (∀ p ∈ l, Fv.nanB p.2 = false) := Lib.hid (by have := HU.out; rwa [show k = l.length by have := HN.out; omega, List.take_length] at this)
      have b0 := hg.cell c0; have b1 := hg.cell c1
      have G5 := Lib.hid (G4.out.trans hg)
      clear HU c0 c1 hg G4
      have V2 := agV_ones (op := 2) rfl rfl HCK.out 0 HV.out
      have V8 := agV_ones (op := 8) rfl rfl HCK.out 0 HV.out
      have V4 := agV_ones (op := 4) rfl rfl HCK.out 0 HV.out
      have V6 : agV 6 how ns Wv.Flo.one l = topL (grpF how ns) l ∧ agE 6 how ns Wv.Flo.one l = 0 := agV_top HCK.out HV.out HSM.out.1
      have GA := gra_of how ns HSM.out
      have C2 := fun W (g : Gr W1 W) => CA.out 2 0 W g
      have C8 := fun W (g : Gr W1 W) => CA.out 8 0 W g
      have C4 := fun W (g : Gr W1 W) => CA.out 4 0 W g
      have C6 := fun W (g : Gr W1 W) => CA.out 6 Wv.Flo.one W g
      rw [V2.1, V2.2] at C2
      rw [V8.1, V8.2] at C8
      rw [V4.1, V4.2] at C4
      rw [V6.1, V6.2] at C6
      obtain ⟨K, hK⟩ : ∃ K, srtL (keysP (grpF how ns) l) = K := ⟨_, rfl⟩
      rw [hK] at C2 C8 C4 GA
      obtain ⟨R2, hR2⟩ : ∃ R, (K.map fun x => ((x, Fv.canon (oneV 2 ((memG (grpF how ns) x l).map (·.2)))) : Pt)) = R := ⟨_, rfl⟩
      obtain ⟨R8, hR8⟩ : ∃ R, (K.map fun x => ((x, Fv.canon (oneV 8 ((memG (grpF how ns) x l).map (·.2)))) : Pt)) = R := ⟨_, rfl⟩
      obtain ⟨R4, hR4⟩ : ∃ R, (K.map fun x => ((x, Fv.canon (oneV 4 ((memG (grpF how ns) x l).map (·.2)))) : Pt)) = R := ⟨_, rfl⟩
      obtain ⟨T, hT⟩ : ∃ T, topL (grpF how ns) l = T := ⟨_, rfl⟩
      obtain ⟨q, hq⟩ : ∃ q, K.length = q := ⟨_, rfl⟩
      rw [hR2] at C2 GA
      rw [hR8] at C8 GA
      rw [hR4] at C4 GA
      rw [hT] at C6 GA
      rw [hq] at GA
      have hqm := GA.qm
      have HGA := Lib.hid GA
      have C2 := Lib.hid C2; have C8 := Lib.hid C8; have C4 := Lib.hid C4; have C6 := Lib.hid C6
      clear V2 V8 V4 V6 hK hR2 hR8 hR4 hT hq CA GA HSM HV HCK
      go_wp2_with fail
      refine (C2.out _ G5.out).mono ?_
      rintro e w6 ⟨A2, c2, he, hp2, hc2, hm2, g6⟩
      rw [HGA.out.l2] at he hc2
      subst he
      have P2 := Lib.hid hp2; have G6 := Lib.hid (G5.out.trans g6); have d0 := g6.cell b0; have d1 := g6.cell b1
      clear hp2 g6 C2 G5 b0 b1
      go_wp2_with fail
      refine (C8.out _ G6.out).mono ?_
      rintro e w7 ⟨A8, c8, he, hp8, hc8, hm8, g7⟩
      rw [HGA.out.l8] at he hc8
      subst he
      have P2' := Lib.hid (P2.out.gr g7); have P8 := Lib.hid hp8; have G7 := Lib.hid (G6.out.trans g7); have b0 := g7.cell d0; have b1 := g7.cell d1
      clear hp8 g7 C8 G6 d0 d1 P2
      go_wp2_with fail
      refine (C4.out _ G7.out).mono ?_
      rintro e w8 ⟨A4, c4, he, hp4, hc4, hm4, g8⟩
      rw [HGA.out.l4] at he hc4
      subst he
      have P2 := Lib.hid (P2'.out.gr g8); have P8' := Lib.hid (P8.out.gr g8); have P4 := Lib.hid hp4; have G8 := Lib.hid (G7.out.trans g8); have d0 := g8.cell b0; have d1 := g8.cell b1
      clear hp4 g8 C4 G7 b0 b1 P2' P8
      go_wp2_with fail
      refine (C6.out _ G8.out).mono ?_
      rintro e w9 ⟨A6, c6, he, hp6, hc6, hm6, g9⟩
      rw [HGA.out.l6] at he hc6
      subst he
      have P2' := Lib.hid (P2.out.gr g9); have P8 := Lib.hid (P8'.out.gr g9); have P4' := Lib.hid (P4.out.gr g9); have P6 := Lib.hid hp6; have G9 := Lib.hid (G8.out.trans g9); have b0 := g9.cell d0; have b1 := g9.cell d1
      clear hp6 g9 C6 G8 d0 d1 P2 P8' P4
      go_wp2
      clear hc2 hc8 hc4 hc6
      go_loopw [14, 15] (fun s i wr => ∃ k sv : Nat, k ≤ q ∧ i = .int .i64 k ∧ s = .float .f64 sv ∧ Hid (Wv.Flo.Is sv ((cntS (grpF how ns) l (K.take k) : Nat) : Int)) ∧ Hid (Gr w9 wr)) (fun _ i _ => q - (intOf i).toNat)
      case atStart => exact ⟨0, 0, Nat.zero_le _, rfl, rfl, Lib.hid HGA.out.is0, Lib.hid (Gr.refl _)⟩
      case round =>
        obtain ⟨k, sv, hkq, rfl, rfl, HSV, hg⟩ := hrel
        by_cases hlt : k < q
        · obtain ⟨x, kx⟩ : ∃ x, K[k]? = some x := ⟨_, List.getElem?_eq_getElem (by rw [HGA.out.lk]; exact hlt)⟩
          obtain ⟨k2, z2⟩ := HGA.out.e2 k x kx
          obtain ⟨k8, z8⟩ := HGA.out.e8 k x kx
          obtain ⟨k4, z4⟩ := HGA.out.e4 k x kx
          obtain ⟨b2, o2, s2, m2, hA2, p2, v2, l2, -⟩ := (P2'.out.gr hg.out).cell k2
          obtain ⟨b8, o8, s8, m8, hA8, p8, v8, l8, -⟩ := (P8.out.gr hg.out).cell k8
          obtain ⟨b4, o4, s4, m4, hA4, p4, v4, l4, -⟩ := (P4'.out.gr hg.out).cell k4
          rw [z2] at p2 v2 l2
          rw [z8] at p8 v8 l8
          rw [z4] at p4 v4 l4
          have HAD := Lib.hid (fun W => HGA.out.isS k x kx W sv HSV.out)
          have HALL := Lib.hid (HGA.out.all k x kx)
          have hxl := HGA.out.xl k x kx
          obtain ⟨cv, hcv⟩ : ∃ cv, Fv.canon (Wv.Flo.ofI ((memG (grpF how ns) x l).length : Nat)) = cv := ⟨_, rfl⟩
          simp only [hcv] at v2
          rw [hcv] at HAD
          obtain ⟨mv, hmv⟩ : ∃ mv, Fv.canon (oneV 4 ((memG (grpF how ns) x l).map (·.2))) = mv := ⟨_, rfl⟩
          simp only [hmv] at v4
          have HEQ : Hid (∀ y ∈ T, grpF how ns y = x → Fv.eqB y.2 mv = true) := Lib.hid (fun y hy e => by
            have := HGA.out.eq HNA.out y hy
            rwa [e, hmv] at this)
          have S1 := Lib.hid (fun W (g : Gr wr W) => same_any s2 s8 x x m2 m8 W (l2.gr g) (l8.gr g) (by omega) (by omega))
          have S2 := Lib.hid (fun W (g : Gr wr W) => same_any s4 s8 x x m4 m8 W (l4.gr g) (l8.gr g) (by omega) (by omega))
          rw [decide_eq_true (rfl : x = x)] at S1 S2
          have HL8 := Lib.hid l8
          have HXL := Lib.hid hxl
          obtain ⟨xn, hxn⟩ : ∃ xn, x.length = xn := ⟨_, rfl⟩
          simp only [hxn] at p2 p8 p4 S1 S2
          have HXN := Lib.hid hxn
          clear kx k2 z2 k8 z8 k4 z4 l2 l8 l4 hcv hmv hxl hxn HSV
          subst hA2
          subst hA8
          subst hA4
          have f1 : (k : Int) < (q : Int) := by omega
          go_wp2_with fail
          have HSV2 := Lib.hid (HAD.out wr)
          obtain ⟨W, hW⟩ : ∃ W, wr.drewN (addN sv cv) = W := ⟨_, rfl⟩
          have gW : Gr wr W := by rw [← hW]; exact (Gr.refl _).drewN _
          obtain ⟨sv2, hsv2⟩ : ∃ s, addV wr sv cv = s := ⟨_, rfl⟩
          rw [hsv2] at HSV2
          simp only [hsv2, hW]
          have r2 := cell_regrown (gW.cell p2)
          have r8 := cell_regrown (gW.cell p8)
          have rv8 := cell_regrown (gW.cell v8)
          have r4 := cell_regrown (gW.cell p4)
          have T1 := Lib.hid (gq (W := W) fun W' g => S1.out W' (gW.trans g))
          have T2 := Lib.hid (gq (W := W) fun W' g => S2.out W' (gW.trans g))
          have fo1 : (FloatKind.f64.format.order 4607182418800017408 4607182418800017408 == some .eq) = true := by decide +kernel
          have fo2 : (FloatKind.f64.format.order 4607182418800017408 4607182418800017408 != some .eq) = false := by decide +kernel
          have V4W := Lib.hid (gW.cell v4); have P8W := Lib.hid (gW.cell p8)
          have HGW := Lib.hid (hg.out.trans gW); have HL8W := Lib.hid (HL8.out.gr gW)
          have b0W := (hg.out.trans gW).cell b0; have b1W := (hg.out.trans gW).cell b1
          clear hW hsv2 HAD S1 S2 HL8 p2 p8 v8 p4 v4 v2 gW
          refine wp_region_quiet_below (by kernel_rfl) (by kernel_rfl) ?_
          repeat (quiet_step (first | (go_at_call_of 30 (Value.slice s2 xn m2); exact T1.out _ _) | (go_at_call_of 30 (Value.slice s4 xn m4); exact T2.out _ _)))
          refine wpQuiet_nil ?_
          intro _ hw'
          obtain ⟨⟨dq, osq⟩, hw''⟩ := hw'
          subst hw''
          have g10 : Gr W (Go.Sort.grow (redrawn W dq) osq) := ⟨below_regrown W dq osq⟩
          clear T1 T2 r2 r8 rv8 r4
          generalize Go.Sort.grow (redrawn W dq) osq = w10 at *
          go_wp2
          have P6W := Lib.hid (P6.out.gr HGW.out)
          have GX := Lib.hid (G9.out.trans (HGW.out.trans g10))
          have HW10 := Lib.hid (HGW.out.trans g10)
          have G10 := Lib.hid g10
          have c0 := g10.cell b0W; have c1 := g10.cell b1W; have V4X := Lib.hid (g10.cell V4W.out); have P8X := Lib.hid (g10.cell P8W.out); have HL8X := Lib.hid (HL8W.out.gr g10)
          clear g10 b0W b1W V4W P8W fo1 fo2
          go_loopw [16, 17] (fun s i wx => ∃ j : Nat, j ≤ q ∧ i = .int .i64 j ∧ s = .bool (inG (grpF how ns) x (T.take j)) ∧ Gr w10 wx) (fun _ i _ => q - (intOf i).toNat)
          case atStart => exact ⟨0, Nat.zero_le _, rfl, rfl, Gr.refl _⟩
          case round =>
            obtain ⟨j, hjq, rfl, rfl, hx⟩ := hrel
            by_cases hjl : j < q
            · have j3 : j < T.length := by rw [HGA.out.l6]; exact hjl
              have gx := Lib.hid (G10.out.trans hx)
              obtain ⟨b6, o6, s6, m6, hA6, p6, v6, l6, -⟩ := (P6W.out.gr gx.out).cell j3
              have INS := inG_s (f := grpF how ns) (x := x) j3
              have INN := inG_no HGA.out.nd j3
              have IEQ := HEQ.out _ (List.getElem_mem j3)
              have hsy := HGA.out.sm.at_ j3
              obtain ⟨y, hy⟩ : ∃ y, T[j] = y := ⟨_, rfl⟩
              rw [hy] at p6 v6 l6 INS INN IEQ hsy
              obtain ⟨z, hz⟩ : ∃ z, grpF how ns y = z := ⟨_, rfl⟩
              have CG := Lib.hid (fun W' (g : Gr wr W') => rGroup_any s6 N y.1 ns m6 d how W' (l6.gr g) (HS.out.gr (GX.out.trans (hx.trans g))) (by have := hsy.1; omega) (by have := HNL.out; omega))
              have hzl : z.length ≤ 1000 := by rw [← hz]; exact (hsy.group how ns).1
              have CS := Lib.hid (fun W' (g : Gr wr W') LA lc (hl : LabsAt W' LA z) => same_any LA s8 z x lc m8 W' hl (HL8X.out.gr (hx.trans g)) (by omega) (by have := HXL.out; omega))
              have hz' : groupL y.1 how ns = z := hz
              rw [hz'] at CG
              rw [hz] at INS INN IEQ
              obtain ⟨yn, hyn⟩ : ∃ yn, y.1.length = yn := ⟨_, rfl⟩
              obtain ⟨yv, hyv⟩ : ∃ yv, y.2 = yv := ⟨_, rfl⟩
              obtain ⟨zn, hzn⟩ : ∃ zn, z.length = zn := ⟨_, rfl⟩
              rw [hyn] at p6 CG
              rw [hyv] at v6 IEQ
              rw [HNN.out] at CG
              simp only [hzn, HXN.out] at CS
              unfold ListPost at CG
              simp only [hzn] at CG
              obtain ⟨hv, hhv⟩ : ∃ hv, inG (grpF how ns) x (T.take j) = hv := ⟨_, rfl⟩
              rw [hhv] at INS ⊢
              have HHV := Lib.hid hhv
              have a0 := hx.cell c0; have a1 := hx.cell c1; have q8 := hx.cell P8X.out; have q4 := hx.cell V4X.out
              have INS := Lib.hid INS; have INN := Lib.hid INN; have IEQ := Lib.hid IEQ; have HZ := Lib.hid hz
              have HX2 := Lib.hid hx
              clear l6 hsy hy hz hz' hzl hyn hyv hzn hhv j3 hx c0 c1
              subst hA6
              have f2 : (j : Int) < (q : Int) := by omega
              obtain ⟨zb, hzb⟩ : ∃ zb, decide (z = x) = zb := ⟨_, rfl⟩
              rw [hzb] at CS INS
              have HZB := Lib.hid hzb
              clear hzb
              cases zb
              · go_upto_region 27 with fail
                go_region_held3 (fun w' => w'.cell? ⟨b6, o6 + j * 2, none⟩ = some (.slice s6 yn m6) ∧ w'.cell? ⟨P, 0, none⟩ = some (.int .i64 how) ∧ w'.cell? ⟨P, 1, none⟩ = some (.slice N nn d) ∧ w'.cell? ⟨b8, o8 + k * 2, none⟩ = some (.slice s8 xn m8))
                  (first | exact ks12 | exact ks11 | exact ⟨p6, a0, a1, q8⟩ | go_keep)
                  (first
                    | (go_simp
                       go_at_call 31
                       refine (CG.out _ ?_).mono ?_
                       · repeat (first | exact Gr.refl _ | refine Gr.drew ?_ | refine Gr.alloc ?_ _ _)
                       rintro e w11 ⟨LA, lc, rfl, hl11, g11⟩
                       have gl11 : Gr wr w11 := Gr.trans (by repeat (first | exact Gr.refl _ | refine Gr.drew ?_ | refine Gr.alloc ?_ _ _)) g11
                       have ks11 : w11.cell? ⟨b6, o6 + j * 2, none⟩ = some (.slice s6 yn m6) ∧ w11.cell? ⟨P, 0, none⟩ = some (.int .i64 how) ∧ w11.cell? ⟨P, 1, none⟩ = some (.slice N nn d) ∧ w11.cell? ⟨b8, o8 + k * 2, none⟩ = some (.slice s8 xn m8) := ⟨gl11.cell p6, gl11.cell a0, gl11.cell a1, gl11.cell q8⟩)
                    | (go_simp
                       go_at_call 30
                       refine (CS.out _ gl11 _ _ hl11).mono ?_
                       rintro e w12 ⟨rfl, g12⟩
                       have gl12 : Gr wr w12 := gl11.trans g12
                       have ks12 : w12.cell? ⟨b6, o6 + j * 2, none⟩ = some (.slice s6 yn m6) ∧ w12.cell? ⟨P, 0, none⟩ = some (.int .i64 how) ∧ w12.cell? ⟨P, 1, none⟩ = some (.slice N nn d) ∧ w12.cell? ⟨b8, o8 + k * 2, none⟩ = some (.slice s8 xn m8) := ⟨gl12.cell p6, gl12.cell a0, gl12.cell a1, gl12.cell q8⟩))
                have HN1 := Lib.hid (HX2.out.trans gl12)
                clear ks12 ks11 gl12 gl11 g12 g11 hl11
                go_wp2
                go_roundw
                case rel => exact ⟨j + 1, by omega, by go_num, by rw [INS.out, Bool.or_false], HN1.out⟩
                case measure => simp [intOf]; omega
              · have hzx : z = x := of_decide_eq_true HZB.out
                obtain rfl : hv = false := by rw [← HHV.out, ← hzx]; exact INN.out
                have fe : (FloatKind.f64.format.order yv mv == some .eq) = true := IEQ.out hzx
                clear hzx
                go_upto_region 27 with fail
                go_region_held3 (fun w' => w'.cell? ⟨b6, o6 + j * 2, none⟩ = some (.slice s6 yn m6) ∧ w'.cell? ⟨P, 0, none⟩ = some (.int .i64 how) ∧ w'.cell? ⟨P, 1, none⟩ = some (.slice N nn d) ∧ w'.cell? ⟨b8, o8 + k * 2, none⟩ = some (.slice s8 xn m8))
                  (first | exact ks12 | exact ks11 | exact ⟨p6, a0, a1, q8⟩ | go_keep)
                  (first
                    | (go_simp
                       go_at_call 31
                       refine (CG.out _ ?_).mono ?_
                       · repeat (first | exact Gr.refl _ | refine Gr.drew ?_ | refine Gr.alloc ?_ _ _)
                       rintro e w11 ⟨LA, lc, rfl, hl11, g11⟩
                       have gl11 : Gr wr w11 := Gr.trans (by repeat (first | exact Gr.refl _ | refine Gr.drew ?_ | refine Gr.alloc ?_ _ _)) g11
                       have ks11 : w11.cell? ⟨b6, o6 + j * 2, none⟩ = some (.slice s6 yn m6) ∧ w11.cell? ⟨P, 0, none⟩ = some (.int .i64 how) ∧ w11.cell? ⟨P, 1, none⟩ = some (.slice N nn d) ∧ w11.cell? ⟨b8, o8 + k * 2, none⟩ = some (.slice s8 xn m8) := ⟨gl11.cell p6, gl11.cell a0, gl11.cell a1, gl11.cell q8⟩)
                    | (go_simp
                       go_at_call 30
                       refine (CS.out _ gl11 _ _ hl11).mono ?_
                       rintro e w12 ⟨rfl, g12⟩
                       have gl12 : Gr wr w12 := gl11.trans g12
                       have ks12 : w12.cell? ⟨b6, o6 + j * 2, none⟩ = some (.slice s6 yn m6) ∧ w12.cell? ⟨P, 0, none⟩ = some (.int .i64 how) ∧ w12.cell? ⟨P, 1, none⟩ = some (.slice N nn d) ∧ w12.cell? ⟨b8, o8 + k * 2, none⟩ = some (.slice s8 xn m8) := ⟨gl12.cell p6, gl12.cell a0, gl12.cell a1, gl12.cell q8⟩))
                have HN1 := Lib.hid (HX2.out.trans gl12)
                have y6 := gl12.cell v6
                have y4 := gl12.cell q4
                clear ks12 ks11 gl12 gl11 g12 g11 hl11
                go_wp2_with fail
                go_quiet (fail)
                go_wp2
                go_roundw
                case rel => exact ⟨j + 1, by omega, by go_num, by rw [INS.out]; rfl, HN1.out.drewN _⟩
                case measure => simp [intOf]; omega
            · have hjq' : j = q := by omega
              have HBT : Hid (inG (grpF how ns) x (T.take j) = true) := Lib.hid (by rw [hjq']; exact HALL.out)
              rw [HBT.out]
              clear hjq'
              have HN1 := Lib.hid (HW10.out.trans hx)
              go_wp2
              go_roundw
              case rel => exact ⟨k + 1, sv2, by omega, by go_num, rfl, HSV2, HN1⟩
              case measure => simp [intOf]; omega
        · have HFE : Hid ((FloatKind.f64.format.order sv (floatOfInt FloatKind.f64 ((n : Nat) : Int)) == some .eq) = true) := Lib.hid (by
            have h := HSV.out
            rw [show k = q by omega] at h
            have h2 := HGA.out.isE sv h
            rw [HN.out] at h2
            exact h2)
          have fe := HFE.out
          go_wp2
          go_ret
          exact ⟨rfl, HG1.out.trans (G9.out.trans hg.out)⟩
end Go.Proofs.YtihiklmomhhdbaaGreatDoor.Pt
