/- The walk of AggRanks. -/
import Derived.Test.YtihiklmomhhdbaaGreatDoorGLwM
import Derived.Test.YtihiklmomhhdbaaGreatDoorGKnw
import Derived.Deep.RegionHeld3
namespace Go.Proofs.YtihiklmomhhdbaaGreatDoor.Pt
open Go.RowKit Go.Sort
set_option maxRecDepth 100000
set_option maxHeartbeats 8000000
attribute [local irreducible] wpQuiet

theorem PtsAt.at1 {W : World} {b o : Nat} {l : List Pt} (h : PtsAt W (some ⟨b, o, none⟩) l) {k : Nat} (hk : k < l.length) : PtsAt W (some ⟨b, o + k * 2, none⟩) [l[k]] := by
  have h1 := (h.drop k l.length (by omega) (Nat.le_refl _)).take 1
  have e : (⟨b, o, none⟩ : Addr).add (k * 2) = ⟨b, o + k * 2, none⟩ := by unfold Addr.add; split <;> simp_all
  rw [if_neg (by omega), List.drop_eq_getElem_cons hk, Option.map_some, e] at h1
  exact h1
theorem vsame_1 (x y : Pt) (A B : Option Addr) (c d : Nat) (w : World) (ha : PtsAt w A [x]) (hb : PtsAt w B [y]) (sx : SmL x.1) (sy : SmL y.1) (ht : Fv.Tab w) :
    Calls Tryz.prog 80 #[.slice A 1 c, .slice B 1 d] w fun e w' => e = .returned (.bool (sameP [x] [y])) ∧ Gr w w' :=
  vsame_any A B [x] [y] c d w ha hb ⟨by simp, fun p hp => by rw [List.mem_singleton.1 hp]; exact sx⟩ ⟨by simp, fun p hp => by rw [List.mem_singleton.1 hp]; exact sy⟩ ht
theorem has_any (A : Option Addr) (l : List Pt) (c : Nat) (sa : Option Addr) (sc : Nat) (y : Pt) (w : World) (h : PtsAt w A l) (hs : SmP l) (hy : LabsAt w sa y.1) (sy : SmL y.1) (hc : l.length ≤ c) (hcm : c ≤ maxLen) (ht : Fv.Tab w) :
    Calls Tryz.prog 32 #[.slice A l.length c, .agg #[.slice sa y.1.length sc, .float .f64 y.2]] w fun e w' => e = .returned (.bool (hasP l y)) ∧ Gr w w' := by
  have HL := Lib.hid h; have HS := Lib.hid hs; have HY := Lib.hid hy; have HSY := Lib.hid sy; have HT := Lib.hid ht
  have hlm := hs.1
  obtain ⟨n, hln⟩ : ∃ n, l.length = n := ⟨_, rfl⟩
  have HN := Lib.hid hln
  obtain ⟨z, hz⟩ : ∃ z, hasP l y = z := ⟨_, rfl⟩
  have HZ := Lib.hid hz
  obtain ⟨yn, hyn⟩ : ∃ yn, y.1.length = yn := ⟨_, rfl⟩
  obtain ⟨yv, hyv⟩ : ∃ yv, y.2 = yv := ⟨_, rfl⟩
  have HYN := Lib.hid hyn; have HYV := Lib.hid hyv
  rw [hln] at hlm hc
  rw [hz, hln, hyn, hyv]
  obtain ⟨W0, hW0, g0, hb0⟩ := fresh w #[.slice sa yn sc, .float .f64 yv] 64
  have a0 := hb0 0 (.slice sa yn sc) rfl
  have a1 := hb0 1 (.float .f64 yv) rfl
  obtain ⟨P, hP⟩ : ∃ P, w.heap.size = P := ⟨_, rfl⟩
  rw [hP] at a0 a1
  have HP := Lib.hid hP; have HW0 := Lib.hid hW0; have HG0 := Lib.hid g0
  clear h hs hy sy ht hln hz hyn hyv hW0 g0 hb0 hP
  unfold maxLen at hcm
  have _ := hcm
  go_enter Tryz.func32, Tryz.ntmps32
  go_upto_region 1 with fail
  rw [HW0.out, HP.out]
  go_wp2
  go_loopw [5] (fun i wr => ∃ k : Nat, k ≤ n ∧ i = .int .i64 k ∧ Hid (hasP (l.take k) y = false) ∧ Hid (Gr W0 wr)) (fun i _ => n - (intOf i).toNat)
  case atStart => exact ⟨0, Nat.zero_le _, rfl, Lib.hid rfl, Lib.hid (Gr.refl _)⟩
  case round =>
    obtain ⟨k, hk, rfl, HU, hg0⟩ := hrel
    have a0' := hg0.out.cell a0
    have a1' := hg0.out.cell a1
    have hg := Lib.hid (HG0.out.trans hg0.out)
    by_cases hlt : k < n
    · have k3 : k < l.length := by rw [HN.out]; exact hlt
      obtain ⟨b2, o2, s2, m2, rfl, -⟩ := (HL.out.gr hg.out).cell k3
      have p2 := (HL.out.gr hg.out).at1 k3
      have PY := Lib.hid (fun W (g : Gr wr W) => (⟨[(⟨sa, yn, sc⟩, yv)], at2_one (enc := encT) W ((⟨sa, yn, sc⟩, yv) : Pc) (.slice sa yn sc) (.float .f64 yv) rfl 64, Rds.one ⟨HYV.out.symm, HYN.out.symm, HY.out.gr ((hg.out.trans g).trans ((Gr.refl _).alloc _ _))⟩⟩ : PtsAt (W.alloc (.cells #[.slice sa yn sc, .float .f64 yv] 64)) (some ⟨W.heap.size, 0, none⟩) [y]))
      have hm2 := HS.out.at_ k3
      have HST := hasP_s (y := y) k3
      rw [HU.out, Bool.false_or] at HST
      have CC := Lib.hid (fun W (g : Gr wr W) (B : Option Addr) (hB : PtsAt W B [y]) => vsame_1 l[k] y _ B (c - k) 1 W (p2.gr g) hB hm2 HSY.out (HT.out.gv (hg.out.trans g)))
      obtain ⟨t, ht⟩ : ∃ t, sameP [l[k]] [y] = t := ⟨_, rfl⟩
      simp only [ht] at CC
      rw [ht] at HST
      have HST := Lib.hid HST
      have HMM := Lib.hid (fun (h : hasP (l.take (k + 1)) y = true) => hasP_sub (r := l) (fun q hq => List.mem_of_mem_take hq) h)
      clear p2 hm2 ht k3
      have f3 : (k : Int) < (n : Int) := by omega
      have f4 : (0 : Int) ≤ (k : Int) := by omega
      have f6 : IntKind.i64.wrap ((k : Int) + 1) = (k : Int) + 1 := IntWalk.i64_in _ (by omega)
      have f8 : (k : Int) + 1 ≤ (c : Int) := by omega
      have f10 : (0 : Int) ≤ (k : Int) + 1 := by omega
      have f12 : ¬ c = k := by omega
      go_upto_region 4 with fail
      go_region_held3 (fun w' => w'.cell? ⟨P, 0, none⟩ = some (.slice sa yn sc) ∧ w'.cell? ⟨P, 1, none⟩ = some (.float .f64 yv))
        (first | exact ks5 | exact ⟨a0', a1'⟩ | go_keep)
        (first
         | (go_simp
            go_at_call 80
            refine (CC.out _ ?_ _ ?_).mono ?_
            · repeat (first | exact Gr.refl _ | refine Gr.drew ?_ | refine Gr.alloc ?_ _ _)
            · first | exact PY.out _ (Gr.refl _) | exact PY.out _ (Gr.refl _).drew | exact (PY.out _ (Gr.refl _)).gr (Gr.refl _).drew | exact (PY.out _ (Gr.refl _).drew).gr (Gr.refl _).drew
            rintro e w5 ⟨rfl, g5⟩
            have gl5 : Gr wr w5 := Gr.trans (by repeat (first | exact Gr.refl _ | refine Gr.drew ?_ | refine Gr.alloc ?_ _ _)) g5
            have ks5 : w5.cell? ⟨P, 0, none⟩ = some (.slice sa yn sc) ∧ w5.cell? ⟨P, 1, none⟩ = some (.float .f64 yv) := ⟨gl5.cell a0', gl5.cell a1'⟩))
      cases t
      · go_wp2
        go_roundw
        case rel => exact ⟨k + 1, by omega, by go_num, HST, Lib.hid (hg0.out.trans gl5)⟩
        case measure => simp [intOf]; omega
      · have HN2 : Hid (z = true) := Lib.hid (by rw [← HZ.out]; exact HMM.out HST.out)
        go_wp2
        go_ret
        exact ⟨by rw [HN2.out]; rfl, hg.out.trans gl5⟩
    · obtain rfl : k = n := by omega
      have HN2 : Hid (z = false) := Lib.hid (by rw [← HZ.out]; have := HU.out; rwa [← HN.out, List.take_length] at this)
      go_wp2
      go_ret
      exact ⟨by rw [HN2.out]; rfl, hg.out⟩
theorem rnk_sm {l : List Pt} (h : SmP l) (tp : Bool) (m : Nat) : SmP (rnkP tp m l) :=
  h.sub (by rw [rnk_len]; omega) fun q hq => by
    obtain ⟨p, hp, rfl⟩ := rnk_mem.1 hq
    exact ⟨p, (srtK_perm (kP tp) l).mem_iff.1 (List.mem_of_mem_take hp), rfl⟩
/-- its walk from the chosen points on -/
theorem walkRanks (A : Option Addr) (c : Nat) (l : List Pt) (k : Int) (w : World) (h : PtsAt w A l) (hw : WdP l) (hb : ∀ p ∈ l, p.2 < 2 ^ 64) (hc : l.length ≤ c) (hcm : c ≤ maxLen) (ht : Fv.Tab w) (hn : Nmz w) (hkn : Kn w) :
    Calls Tryz.prog 6 #[.slice A l.length c, .int .i64 k] w fun e w' => e = .returned (.bool true) ∧ Gr w w' := by
  have HK := Lib.hid (known10_any w ht hn hkn)
  have HF := Lib.hid (fun W (g : Gr w W) => lawRight_any A l c W (h.gr g) hw (Nat.le_trans hc hcm))
  have HL := Lib.hid h; have HT := Lib.hid ht; have HKN := Lib.hid hkn
  obtain ⟨v, hv⟩ : ∃ v, rgtV l = v := ⟨_, rfl⟩
  rw [hv] at HF
  have hcm' := hcm
  clear h hw ht hn hkn
  unfold maxLen at hcm
  by_cases hbad : v = false ∨ k < 0 ∨ 100 < k
  · clear hv hb hc
    go_enter Tryz.func6, Tryz.ntmps6
    go_wp2_with fail
    refine HK.out.mono ?_
    rintro e w1 ⟨rfl, g1⟩
    go_wp2_with fail
    refine (HF.out w1 g1).mono ?_
    rintro e w2 ⟨rfl, g2⟩
    cases v
    · go_wp2
      go_ret
      exact ⟨rfl, g1.trans g2⟩
    · by_cases h0 : k < 0
      · go_wp2
        go_ret
        exact ⟨rfl, g1.trans g2⟩
      · have h1 : 100 < k := by simpa [h0] using hbad
        go_wp2
        go_ret
        exact ⟨rfl, g1.trans g2⟩
  obtain ⟨rfl, hk0, hk1⟩ : v = true ∧ 0 ≤ k ∧ k ≤ 100 := by
    refine ⟨?_, by omega, by omega⟩
    cases v
    · exact absurd (Or.inl rfl) hbad
    · rfl
  obtain ⟨m, rfl⟩ : ∃ m : Nat, k = m := ⟨k.toNat, by omega⟩
  obtain ⟨hfew, hvec⟩ : fewV l = true ∧ vecB l = true := by unfold rgtV at hv; rwa [Bool.and_eq_true] at hv
  have hs := fewV_sm hfew
  have hok := (vec_ok2 hvec).1
  have hlm : l.length ≤ 1000 := hs.1
  have HS := Lib.hid hs
  have CA := fun (op : Int) (kb : Nat) W (g : Gr w W) => agg_any op 0 kb A none l c 0 [] W (HL.out.gr g) hs hok (StrsAt.none_ _ _) (Nat.le_refl _) (by unfold maxLen; decide) (fun s hs => by simp at hs) (by decide) (HT.out.gv g) (HKN.out.gr g) hb
  have C6 := CA 6 (Wv.Flo.ofI m)
  have C7 := CA 7 (Wv.Flo.ofI m)
  have C8 := CA 6 (Wv.Flo.ofI (m + 1 : Nat))
  have R0 := agV_rnk hvec hs m (by omega)
  have R1 := agV_rnk hvec hs (m + 1) (by omega)
  rw [R0.1.1, R0.1.2] at C6
  rw [R0.2.1, R0.2.2] at C7
  rw [R1.1.1, R1.1.2] at C8
  have L6 := rnk_len true (min m l.length) l
  have L7 := rnk_len false (min m l.length) l
  have L8 := rnk_len true (min (m + 1) l.length) l
  have F1 : ∀ y, hasP (rnkP true (min m l.length) l) y = true → hasP (rnkP true (min (m + 1) l.length) l) y = true := fun y => hasP_sub (rnk_sub (by omega) l)
  have F2 := fun (y : Pt) => rnk_top hb (min m l.length) (v := y)
  have S6 := rnk_sm hs true (min m l.length)
  have S8 := rnk_sm hs true (min (m + 1) l.length)
  obtain ⟨R6, hR6⟩ : ∃ R, rnkP true (min m l.length) l = R := ⟨_, rfl⟩
  obtain ⟨R7, hR7⟩ : ∃ R, rnkP false (min m l.length) l = R := ⟨_, rfl⟩
  obtain ⟨R8, hR8⟩ : ∃ R, rnkP true (min (m + 1) l.length) l = R := ⟨_, rfl⟩
  rw [hR6] at C6 L6 F1 F2 S6
  rw [hR7] at C7 L7
  rw [hR8] at C8 L8 F1 S8
  obtain ⟨n, hln⟩ : ∃ n, l.length = n := ⟨_, rfl⟩
  have HN := Lib.hid hln
  rw [hln] at hlm HF hc C6 C7 C8 L6 L7 L8 ⊢
  rw [Nat.min_eq_left (Nat.min_le_right _ _)] at L6 L7 L8
  obtain ⟨a, ha⟩ : ∃ a, min m n = a := ⟨_, rfl⟩
  obtain ⟨a8, ha8⟩ : ∃ a, min (m + 1) n = a := ⟨_, rfl⟩
  rw [ha] at L6 L7
  rw [ha8] at L8
  have hmn : (n < m ∧ a = n) ∨ (¬ n < m ∧ a = m) := by omega
  have h8 : a ≤ a8 := by omega
  have ha1 : a ≤ 1000 := by omega
  have ha81 : a8 ≤ 1000 := by omega
  have C6 := Lib.hid C6; have C7 := Lib.hid C7; have C8 := Lib.hid C8
  have L6 := Lib.hid L6; have L7 := Lib.hid L7; have L8 := Lib.hid L8
  have F1 := Lib.hid F1; have F2 := Lib.hid F2; have S6 := Lib.hid S6; have S8 := Lib.hid S8
  have HBD := Lib.hid hb
  clear hv hfew hvec hs hok CA R0 R1 hR6 hR7 hR8 hln ha ha8 hbad hb
  have e1 : floatOfInt FloatKind.f64 ((m : Nat) : Int) = Wv.Flo.ofI (m : Nat) := rfl
  have e2 : IntKind.i64.wrap ((m : Int) + 1) = ((m + 1 : Nat) : Int) := by rw [IntWalk.i64_in _ (by omega)]; rfl
  have f1 : ¬ (m : Int) < 0 := by omega
  have f2 : ¬ (100 : Int) < (m : Int) := by omega
  go_enter Tryz.func6, Tryz.ntmps6
  go_wp2_with fail
  refine HK.out.mono ?_
  rintro e w1 ⟨rfl, g1⟩
  go_wp2_with fail
  refine (HF.out w1 g1).mono ?_
  rintro e w2 ⟨rfl, g2⟩
  have G2 := Lib.hid (g1.trans g2)
  clear g1 g2 HK HF
  go_upto_if 32 with fail
  go_cut [5] from 33 to 34 (fun s wx => s = .int .i64 (a : Int) ∧ w2 = wx)
  case first =>
    rcases hmn with ⟨q1, q2⟩ | ⟨q1, q2⟩
    · go_wp2
      go_meet
      exact ⟨by rw [q2], rfl⟩
    · go_wp2
      go_meet
      exact ⟨by rw [q2], rfl⟩
  case rest =>
  obtain ⟨rfl, rfl⟩ := hcut
  go_wp2_with fail
  refine (C6.out _ G2.out).mono ?_
  rintro e w3 ⟨A6, c6, he, hp6, hc6, hm6, g3⟩
  rw [L6.out] at he hc6
  subst he
  have P6 := Lib.hid hp6; have G3 := Lib.hid (G2.out.trans g3); clear hp6 g3 C6
  go_wp2_with fail
  refine (C7.out _ G3.out).mono ?_
  rintro e w4 ⟨A7, c7, he, hp7, -, -, g4⟩
  rw [L7.out] at he
  subst he
  have P6' := Lib.hid (P6.out.gr g4); have G4 := Lib.hid (G3.out.trans g4); clear hp7 g4 C7 P6 G3 G2
  go_wp2_with fail
  refine (C8.out _ G4.out).mono ?_
  rintro e w5 ⟨A8, c8, he, hp8, hc8, hm8, g5⟩
  rw [L8.out] at he hc8
  subst he
  have P6 := Lib.hid (P6'.out.gr g5); have P8 := Lib.hid hp8; have G5 := Lib.hid (G4.out.trans g5); clear hp8 g5 C8 P6' G4
  have f3 : decide (a8 < a) = false := decide_eq_false (by omega)
  go_wp2
  clear f3 h8
  go_loopw [12] (fun i wr => ∃ k : Nat, k ≤ n ∧ i = .int .i64 k ∧ Hid (Gr w5 wr)) (fun i _ => n - (intOf i).toNat)
  case atStart => exact ⟨0, Nat.zero_le _, rfl, Lib.hid (Gr.refl _)⟩
  case round =>
    obtain ⟨k, hk, rfl, hg⟩ := hrel
    by_cases hlt : k < n
    · have k3 : k < l.length := by rw [HN.out]; exact hlt
      have gg := Lib.hid (G5.out.trans hg.out)
      obtain ⟨b2, o2, s2, m2, hA, q1, q2, q3, -⟩ := (HL.out.gr gg.out).cell k3
      have hsm := HS.out.at_ k3
      have hmem := List.getElem_mem k3
      obtain ⟨y, hy⟩ : ∃ y, l[k] = y := ⟨_, rfl⟩
      rw [hy] at q1 q2 q3 hsm hmem
      have CH6 := Lib.hid (fun W (g : Gr wr W) => has_any A6 R6 c6 s2 m2 y W ((P6.out.gr hg.out).gr g) S6.out (q3.gr g) hsm (by rw [L6.out]; exact hc6) hm6 (HT.out.gv (gg.out.trans g)))
      have CH8 := Lib.hid (fun W (g : Gr wr W) => has_any A8 R8 c8 s2 m2 y W ((P8.out.gr hg.out).gr g) S8.out (q3.gr g) hsm (by rw [L8.out]; exact hc8) hm8 (HT.out.gv (gg.out.trans g)))
      rw [L6.out] at CH6
      rw [L8.out] at CH8
      have HF1 := Lib.hid (F1.out y)
      have HF2 := Lib.hid (F2.out y hmem)
      obtain ⟨yn, hyn⟩ : ∃ yn, y.1.length = yn := ⟨_, rfl⟩
      obtain ⟨yv, hyv⟩ : ∃ yv, y.2 = yv := ⟨_, rfl⟩
      rw [hyn] at q1 CH6 CH8
      rw [hyv] at q2 CH6 CH8 HF2
      obtain ⟨z6, hz6⟩ : ∃ z, hasP R6 y = z := ⟨_, rfl⟩
      obtain ⟨z8, hz8⟩ : ∃ z, hasP R8 y = z := ⟨_, rfl⟩
      rw [hz6] at CH6 HF1 HF2
      rw [hz8] at CH8 HF1
      clear q3 hsm hmem hy hyn hyv hz6 hz8 k3
      subst hA
      have d1 : (k : Int) < (n : Int) := by omega
      cases z6
      · go_wp2_with fail
        refine (CH6.out _ (Gr.refl _)).mono ?_
        rintro e w6 ⟨rfl, g6⟩
        have q1' := g6.cell q1; have q2' := g6.cell q2
        have G6 := Lib.hid (hg.out.trans g6)
        clear g6 CH6 CH8 HF1
        go_wp2
        go_loopw [14] (fun i wx => ∃ j : Nat, j ≤ a ∧ i = .int .i64 j ∧ Hid (Gr w6 wx)) (fun i _ => a - (intOf i).toNat)
        case atStart => exact ⟨0, Nat.zero_le _, rfl, Lib.hid (Gr.refl _)⟩
        case round =>
          obtain ⟨j, hj, rfl, hx⟩ := hrel
          by_cases hja : j < a
          · have j3 : j < R6.length := by rw [L6.out]; exact hja
            have gx := Lib.hid (G6.out.trans hx.out)
            obtain ⟨b1, o1, s1, m1, rfl, p1, p2, -, -⟩ := (P6.out.gr gx.out).cell j3
            have hbf := HF2.out trivial _ (List.getElem_mem j3)
            obtain ⟨t, ht⟩ : ∃ t, R6[j].2 = t := ⟨_, rfl⟩
            rw [ht] at p2 hbf
            have gx' := Lib.hid (G5.out.trans gx.out)
            have CB := Lib.hid (fun W (g : Gr w W) => Fv.before_any t yv W (HT.out.gv g))
            simp only [hbf] at CB
            have CB2 := Lib.hid (gq (W := wr) fun W' g => (CB.out W' (gx'.out.trans g)).mono fun _ _ ⟨e, _, h2⟩ => ⟨e, h2 ▸ (Gr.refl _).drewN _⟩)
            clear CB
            have r1 := cell_regrown p2
            have r2 := cell_regrown (hx.out.cell q2')
            clear ht hbf j3 p1 p2
            have d2 : (j : Int) < (a : Int) := by omega
            go_wp2_with fail
            refine wp_region_quiet_below (by kernel_rfl) (by kernel_rfl) ?_
            repeat (quiet_step ((go_at_call 33; exact CB2.out _ _)))
            refine wpQuiet_nil ?_
            intro _ hw'
            obtain ⟨⟨dq, osq⟩, hw''⟩ := hw'
            subst hw''
            have hg5 := Lib.hid (hx.out.trans ⟨below_regrown wr dq osq⟩)
            clear CB2 r1 r2
            generalize Go.Sort.grow (redrawn wr dq) osq = w8 at *
            go_wp2
            go_roundw
            case rel => exact ⟨j + 1, by omega, by go_num, hg5⟩
            case measure => simp [intOf]; omega
          · go_wp2
            go_roundw
            case rel => exact ⟨k + 1, by omega, by go_num, Lib.hid (G6.out.trans hx.out)⟩
            case measure => simp [intOf]; omega
      · obtain rfl : z8 = true := HF1.out rfl
        clear HF1 HF2
        go_wp2_with fail
        refine (CH6.out _ (Gr.refl _)).mono ?_
        rintro e w6 ⟨rfl, g6⟩
        have q1' := g6.cell q1; have q2' := g6.cell q2
        go_wp2_with fail
        refine (CH8.out _ g6).mono ?_
        rintro e w7 ⟨rfl, g7⟩
        have G7 := Lib.hid (hg.out.trans (g6.trans g7))
        clear g6 g7 CH6 CH8 q1 q2 q1' q2'
        go_wp2
        go_loopw [14] (fun i wx => ∃ j : Nat, i = .int .i64 j ∧ w7 = wx) (fun _ _ => 0)
        case atStart => exact ⟨0, rfl, rfl⟩
        case round =>
          obtain ⟨j, rfl, rfl⟩ := hrel
          by_cases h0 : j < a
          · have d2 : (j : Int) < (a : Int) := by omega
            go_wp2
            go_roundw
            case rel => exact ⟨k + 1, by omega, by go_num, G7⟩
            case measure => simp [intOf]; omega
          · go_wp2
            go_roundw
            case rel => exact ⟨k + 1, by omega, by go_num, G7⟩
            case measure => simp [intOf]; omega
    · obtain rfl : k = n := by omega
      go_wp2
      go_ret
      exact ⟨rfl, G5.out.trans hg.out⟩
end Go.Proofs.YtihiklmomhhdbaaGreatDoor.Pt
