/- The walk of VectorNames. -/
import Derived.Test.YtoooaipbkkiefaaDoorPNam
import Derived.Test.YtoooaipbkkiefaaDoorPSame
namespace Go.Proofs.YtoooaipbkkiefaaDoor.Pt
open Go.RowKit Go.Sort
set_option maxRecDepth 100000
set_option maxHeartbeats 8000000
attribute [local irreducible] wpQuiet

def inP (y : Pt) (l : List Pt) : Bool := l.any fun q => sameP [y] [q]
theorem inP_step {y : Pt} {l : List Pt} {k : Nat} (h : k < l.length) : inP y (l.take (k + 1)) = (inP y (l.take k) || sameP [y] [l[k]]) := by
  unfold inP
  rw [List.take_succ_eq_append_getElem h, List.any_append]
  simp
theorem inP_mem {y : Pt} {l : List Pt} (h : y ∈ l) : inP y (l.take l.length) = true := by
  unfold inP
  rw [List.take_length, List.any_eq_true]
  exact ⟨y, h, sameP_refl _⟩
theorem PtsAt.one {W : World} {b o : Nat} {l : List Pt} (h : PtsAt W (some ⟨b, o, none⟩) l) {k : Nat} (hk : k < l.length) : PtsAt W (some ⟨b, o + k * 2, none⟩) [l[k]] := by
  have h1 := (h.drop k l.length (by omega) (Nat.le_refl _)).take 1
  have e : (⟨b, o, none⟩ : Addr).add (k * 2) = ⟨b, o + k * 2, none⟩ := by unfold Addr.add; split <;> simp_all
  rw [if_neg (by omega), List.drop_eq_getElem_cons hk, Option.map_some, e] at h1
  exact h1
theorem vsame1 (x y : Pt) (A B : Option Addr) (c d : Nat) (w : World) (ha : PtsAt w A [x]) (hb : PtsAt w B [y]) (sx : SmL x.1) (sy : SmL y.1) (ht : Fv.Tab w) :
    Calls Tryd.prog 21 #[.slice A 1 c, .slice B 1 d] w fun e w' => e = .returned (.bool (sameP [x] [y])) ∧ Gr w w' :=
  vsame_any A B [x] [y] c d w ha hb ⟨by simp, fun p hp => by rw [List.mem_singleton.1 hp]; exact sx⟩ ⟨by simp, fun p hp => by rw [List.mem_singleton.1 hp]; exact sy⟩ ht

theorem walkNames (A : Option Addr) (c : Nat) (l : List Pt) (fn op : Int) (x : Nat) (w : World) (h : PtsAt w A l) (hw : WdP l) (hc : l.length ≤ c) (hcm : c ≤ maxLen) (ht : Fv.Tab w) (hn : Nms w) :
    Calls Tryd.prog 6 #[.slice A l.length c, .int .i64 fn, .int .i64 op, .float .f64 x] w fun e w' => e = .returned (.bool true) ∧ Gr w w' := by
  have HK := Lib.hid (known_any w ht hn)
  have HF := Lib.hid (fun W (g : Gr w W) => lawRight_any A l c W (h.gr g) hw (Nat.le_trans hc hcm))
  have HL := Lib.hid h; have HT := Lib.hid ht
  obtain ⟨v, hv⟩ : ∃ v, rgtV l = v := ⟨_, rfl⟩
  rw [hv] at HF
  clear h hw ht hn
  unfold maxLen at hcm
  cases v
  · clear hv
    go_enter Tryd.func6, Tryd.ntmps6
    go_wp2_with fail
    refine HK.out.mono ?_
    rintro e w1 ⟨rfl, g1⟩
    go_wp2_with fail
    refine (HF.out w1 g1).mono ?_
    rintro e w2 ⟨rfl, g2⟩
    go_wp2
    all_goals
      go_ret
      exact ⟨rfl, g1.trans g2⟩
  obtain ⟨hfew, hvec⟩ : fewV l = true ∧ vecB l = true := by unfold rgtV at hv; rwa [Bool.and_eq_true] at hv
  have hs := fewV_sm hfew
  have C1 := Lib.hid (fun W (g : Gr w W) => map_any fn x A l c W (HL.out.gr g) hs (HT.out.gv g))
  have C2 := Lib.hid (fun W (g : Gr w W) => scaled_any op x false true A l c W (HL.out.gr g) hs (HT.out.gv g))
  have C3 := Lib.hid (fun W (g : Gr w W) => scaled_any op x true false A l c W (HL.out.gr g) hs (HT.out.gv g))
  have S1 := Lib.hid (mpV_sm hs fn x)
  have S2 := Lib.hid (scV_sm hs op x false true)
  have S3 := Lib.hid (scV_sm hs op x true false)
  have N1 := Lib.hid (mp_nonm fn x l)
  have N2 := Lib.hid (sc_nonm op x false l)
  have L1 : mpE fn x l = 0 → (mpV fn x l).length = l.length := mp_len
  have L2 : scE op x false true l = 0 → (scV op x false true l).length = l.length := sc_len
  have X3 : ¬ op < 5 → ¬ 10 < op → scE op x true false l = 0 ∧ ∀ y ∈ scV op x true false l, y ∈ l := by
    intro a b
    have e1 : filB op false = true := by unfold filB; rw [decide_eq_true (by omega : 5 ≤ op), decide_eq_true (by omega : op ≤ 10)]; rfl
    unfold scE scV
    have e2 : ¬ (op < 1 ∨ 10 < op) := by omega
    rw [if_neg e2, if_neg e2, if_pos e1, if_pos e1]
    exact ⟨rfl, fun y hy => (List.mem_filter.1 hy).1⟩
  have hlm : l.length ≤ 1000 := hs.1
  have HS := Lib.hid hs
  obtain ⟨M1, hM1⟩ : ∃ M, mpV fn x l = M := ⟨_, rfl⟩
  obtain ⟨E1, hE1⟩ : ∃ M, mpE fn x l = M := ⟨_, rfl⟩
  obtain ⟨M2, hM2⟩ : ∃ M, scV op x false true l = M := ⟨_, rfl⟩
  obtain ⟨E2, hE2⟩ : ∃ M, scE op x false true l = M := ⟨_, rfl⟩
  obtain ⟨M3, hM3⟩ : ∃ M, scV op x true false l = M := ⟨_, rfl⟩
  obtain ⟨E3, hE3⟩ : ∃ M, scE op x true false l = M := ⟨_, rfl⟩
  rw [hM1, hE1] at C1 L1
  rw [hM1] at S1 N1
  rw [hM2, hE2] at C2 L2
  rw [hM2] at S2 N2
  rw [hM3, hE3] at C3 X3
  rw [hM3] at S3
  obtain ⟨n1, hn1⟩ : ∃ n, M1.length = n := ⟨_, rfl⟩
  obtain ⟨n2, hn2⟩ : ∃ n, M2.length = n := ⟨_, rfl⟩
  obtain ⟨n3, hn3⟩ : ∃ n, M3.length = n := ⟨_, rfl⟩
  obtain ⟨n, hln⟩ : ∃ n, l.length = n := ⟨_, rfl⟩
  have h3m : n3 ≤ 1000 := by rw [← hn3]; exact S3.out.1
  rw [hn1, hln] at L1
  rw [hn2, hln] at L2
  have HN3 := Lib.hid hn3; have HN := Lib.hid hln
  rw [hln] at hlm HF C1 C2 C3 hc ⊢
  have D1 := Lib.hid (fun (A3 : Option Addr) (c3 : Nat) W (h : PtsAt W A3 M1) => by have := named_no A3 M1 c3 W h S1.out N1.out; rw [hn1] at this; exact this)
  have D2 := Lib.hid (fun (A3 : Option Addr) (c3 : Nat) W (h : PtsAt W A3 M2) => by have := named_no A3 M2 c3 W h S2.out N2.out; rw [hn2] at this; exact this)
  clear hv hs hfew hvec hM1 hE1 hM2 hE2 hM3 hE3 S1 S2 N1 N2
  have HX := Lib.hid X3
  clear X3
  go_enter Tryd.func6, Tryd.ntmps6
  go_wp2_with fail
  refine HK.out.mono ?_
  rintro e w1 ⟨rfl, g1⟩
  go_wp2_with fail
  refine (HF.out w1 g1).mono ?_
  rintro e w2 ⟨rfl, g2⟩
  have G2 := Lib.hid (g1.trans g2)
  clear g1 g2
  go_wp2_with fail
  refine (C1.out _ G2.out).mono ?_
  rintro e w3 ⟨A3, c3, he, hp3, -, -, g3⟩
  rw [hn1] at he
  subst he
  have P3 := Lib.hid hp3; have G3 := Lib.hid (G2.out.trans g3); clear hp3 g3
  go_wp2_with fail
  refine (C2.out _ G3.out).mono ?_
  rintro e w4 ⟨A4, c4, he, hp4, -, -, g4⟩
  rw [hn2] at he
  subst he
  have Q3 := Lib.hid (P3.out.gr g4); have P4 := Lib.hid hp4; have G4 := Lib.hid (G3.out.trans g4); clear hp4 g4 P3
  clear hn1 hn2 hn3 hln HK HF C1 C2
  go_upto_region 7 with fail
  go_cut [64] from 37 to 65 (fun s wx => s = .bool false ∧ Hid (Gr w4 wx))
  case first =>
    by_cases z1 : E1 = 0
    · obtain rfl : n1 = n := L1 z1
      subst z1
      go_wp2_with fail
      refine (D1.out _ _ _ Q3.out).mono ?_
      rintro e w5 ⟨rfl, g5⟩
      have P5 := Lib.hid (P4.out.gr g5); have G5 := Lib.hid g5; clear g5
      by_cases z2 : E2 = 0
      · obtain rfl : n2 = n1 := L2 z2
        subst z2
        go_wp2_with fail
        refine (D2.out _ _ _ P5.out).mono ?_
        rintro e w6 ⟨rfl, g6⟩
        have G6 := Lib.hid (G5.out.trans g6); clear g6
        go_wp2
        go_meet
        exact ⟨rfl, G6⟩
      · go_wp2
        go_meet
        exact ⟨rfl, G5⟩
    · by_cases z2 : E2 = 0
      · obtain rfl : n2 = n := L2 z2
        subst z2
        go_wp2_with fail
        refine (D2.out _ _ _ P4.out).mono ?_
        rintro e w6 ⟨rfl, g6⟩
        have G6 := Lib.hid g6; clear g6
        go_wp2
        go_meet
        exact ⟨rfl, G6⟩
      · go_wp2
        go_meet
        exact ⟨rfl, Lib.hid (Gr.refl _)⟩
  case rest =>
  obtain ⟨rfl, HGC⟩ := hcut
  obtain ⟨w5, rfl⟩ : ∃ wa : World, wa = wc := ⟨_, rfl⟩
  have G5 := Lib.hid (G4.out.trans HGC.out)
  clear G2 G3 G4 HGC Q3 P4 D1 D2 L1 L2
  go_wp2_with fail
  refine (C3.out _ G5.out).mono ?_
  rintro e w6 ⟨A5, c5, he, hp5, hc5, hm5, g6⟩
  rw [HN3.out] at he hc5
  subst he
  have P5 := Lib.hid hp5; have G6 := Lib.hid (G5.out.trans g6); clear hp5 g6 G5 C3
  unfold maxLen at hm5
  by_cases h5 : op < 5
  · go_wp2
    go_ret
    exact ⟨rfl, G6.out⟩
  by_cases h10 : 10 < op
  · go_wp2
    go_ret
    exact ⟨rfl, G6.out⟩
  obtain ⟨z3, HM⟩ := HX.out (by omega) (by omega)
  subst z3
  have HM' := Lib.hid HM
  clear HM HX
  go_wp2
  go_loopw [15] (fun i9 wr => ∃ j : Nat, j ≤ n3 ∧ i9 = .int .i64 j ∧ Hid (Gr w6 wr)) (fun i9 _ => n3 - (intOf i9).toNat)
  case atStart => exact ⟨0, Nat.zero_le _, rfl, Lib.hid (Gr.refl _)⟩
  case round =>
    obtain ⟨j, hj, rfl, hg⟩ := hrel
    by_cases hjl : j < n3
    · have j3 : j < M3.length := by rw [HN3.out]; exact hjl
      obtain ⟨b1, o1, s1, m1, rfl, -⟩ := (P5.out.gr hg.out).cell j3
      have p1 := (P5.out.gr hg.out).one j3
      have hm1 := S3.out.at_ j3
      have hin := HM'.out _ (List.getElem_mem j3)
      obtain ⟨y, hy⟩ : ∃ y, M3[j] = y := ⟨_, rfl⟩
      rw [hy] at p1 hm1 hin
      have HP1 := Lib.hid p1; have HM1 := Lib.hid hm1; have HIN := Lib.hid hin
      clear p1 hm1 hin hy j3
      have f1 : (j : Int) < (n3 : Int) := by omega
      have f2 : (0 : Int) ≤ (j : Int) := by omega
      obtain ⟨wo, rfl⟩ : ∃ wo : World, wo = wr := ⟨_, rfl⟩
      go_wp2
      go_loopw [16, 17] (fun v9 i9 wr => ∃ k : Nat, k ≤ n ∧ i9 = .int .i64 k ∧ v9 = .bool (inP y (l.take k)) ∧ Hid (Gr wo wr)) (fun _ i9 _ => n - (intOf i9).toNat)
      case atStart => exact ⟨0, Nat.zero_le _, rfl, rfl, Lib.hid (Gr.refl _)⟩
      case round =>
        obtain ⟨k, hk, rfl, rfl, hg2⟩ := hrel
        by_cases hkl : k < n
        · have k3 : k < l.length := by rw [HN.out]; exact hkl
          have gg := G6.out.trans (hg.out.trans hg2.out)
          obtain ⟨b2, o2, s2, m2, rfl, -⟩ := (HL.out.gr gg).cell k3
          have p2 := (HL.out.gr gg).one k3
          have hm2 := HS.out.at_ k3
          have HST := inP_step (y := y) k3
          obtain ⟨q, hq⟩ : ∃ q, l[k] = q := ⟨_, rfl⟩
          rw [hq] at p2 hm2 HST
          have CC := Lib.hid (gq (W := wr) fun W' g => vsame1 y q _ _ (c5 - j) (c - k) W' ((HP1.out.gr hg2.out).gr g) (p2.gr g) HM1.out hm2 (HT.out.gv (gg.trans g)))
          obtain ⟨t, ht⟩ : ∃ t, inP y (l.take k) = t := ⟨_, rfl⟩
          obtain ⟨t', ht'⟩ : ∃ t, sameP [y] [q] = t := ⟨_, rfl⟩
          rw [ht, ht'] at HST
          simp only [ht'] at CC
          rw [ht]
          have HSS := Lib.hid HST
          clear p2 hm2 hq k3 ht ht' HST
          have f3 : (k : Int) < (n : Int) := by omega
          have f4 : (0 : Int) ≤ (k : Int) := by omega
          cases t
          · have f5 : IntKind.i64.wrap ((j : Int) + 1) = (j : Int) + 1 := IntWalk.i64_in _ (by omega)
            have f6 : IntKind.i64.wrap ((k : Int) + 1) = (k : Int) + 1 := IntWalk.i64_in _ (by omega)
            have f7 : (j : Int) + 1 ≤ (c5 : Int) := by omega
            have f8 : (k : Int) + 1 ≤ (c : Int) := by omega
            have f9 : (0 : Int) ≤ (j : Int) + 1 := by omega
            have f10 : (0 : Int) ≤ (k : Int) + 1 := by omega
            have f11 : ¬ c5 = j := by omega
            have f12 : ¬ c = k := by omega
            go_wp2_with fail
            refine wp_region_quiet_below (by kernel_rfl) (by kernel_rfl) ?_
            repeat (quiet_step ((go_at_call 21; exact CC.out _ _)))
            refine wpQuiet_nil ?_
            intro _ hw'
            obtain ⟨⟨dq, osq⟩, hw''⟩ := hw'
            subst hw''
            have hg5 := Lib.hid (hg2.out.trans ⟨below_regrown wr dq osq⟩)
            clear CC f5 f6
            generalize Go.Sort.grow (redrawn wr dq) osq = w7 at *
            go_wp2
            go_roundw
            case rel => exact ⟨k + 1, by omega, by go_num, by rw [HSS.out]; rfl, hg5⟩
            case measure => simp [intOf]; omega
          · go_wp2_with fail
            go_quiet (fail)
            go_wp2
            go_roundw
            case rel => exact ⟨k + 1, by omega, by go_num, by rw [HSS.out]; rfl, Lib.hid (hg2.out.drewN _)⟩
            case measure => simp [intOf]; omega
        · obtain rfl : k = n := by omega
          have HE : Hid (inP y (l.take k) = true) := Lib.hid (by have := inP_mem HIN.out; rwa [HN.out] at this)
          rw [HE.out]
          go_wp2
          go_roundw
          case rel => exact ⟨j + 1, by omega, by go_num, Lib.hid (hg.out.trans hg2.out)⟩
          case measure => simp [intOf]; omega
    · obtain rfl : j = n3 := by omega
      go_wp2
      go_ret
      exact ⟨rfl, G6.out.trans hg.out⟩
end Go.Proofs.YtoooaipbkkiefaaDoor.Pt
