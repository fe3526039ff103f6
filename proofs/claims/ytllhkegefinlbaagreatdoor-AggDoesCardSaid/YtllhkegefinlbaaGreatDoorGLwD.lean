/- The walk of AggDoes. -/
import Derived.Test.YtllhkegefinlbaaGreatDoorGRAg
import Derived.Test.YtllhkegefinlbaaGreatDoorGKnw
import Derived.Test.YtllhkegefinlbaaGreatDoorGLwM
namespace Go.Proofs.YtllhkegefinlbaaGreatDoor.Pt
open Go.RowKit Go.Sort
set_option maxRecDepth 100000
set_option maxHeartbeats 8000000
attribute [local irreducible] wpQuiet

theorem agV_sm {l : List Pt} (h : SmP l) (op how : Int) (ns : List ByteArray) (k : Nat) : SmP (agV op how ns k l) := by
  unfold agV
  split
  · exact (agg_sm h op how ns k).nor
  · exact ⟨by simp, fun p hp => by simp at hp⟩
theorem walkDoes (op : Int) (N : Option Addr) (d : Nat) (how : Int) (ns : List ByteArray) (k : Nat) (A : Option Addr) (c : Nat) (l : List Pt) (w : World) (hN : StrsAt w N ns) (hnd : ns.length ≤ d) (hdm : d ≤ maxLen) (hz : ∀ s ∈ ns, s.size ≤ maxLen)
    (h : PtsAt w A l) (hw : WdP l) (hb : ∀ p ∈ l, p.2 < 2 ^ 64) (hc : l.length ≤ c) (hcm : c ≤ maxLen) (ht : Fv.Tab w) (hn : Nmz w) (hkn : Kn w) :
    Calls Tryz.prog 3 #[.int .i64 op, .agg #[.int .i64 how, .slice N ns.length d], .float .f64 k, .slice A l.length c] w fun e w' => e = .returned (.bool true) ∧ Gr w w' := by
  obtain ⟨nn, hnn⟩ : ∃ nn, ns.length = nn := ⟨_, rfl⟩
  obtain ⟨W1, hW1, g1, hb1⟩ := fresh w #[.int .i64 how, .slice N nn d] 24
  have a0 := hb1 0 (.int .i64 how) rfl
  have a1 := hb1 1 (.slice N nn d) rfl
  obtain ⟨P, hP⟩ : ∃ P, w.heap.size = P := ⟨_, rfl⟩
  rw [hP] at a0 a1
  have HP := Lib.hid hP; have HW1 := Lib.hid hW1; have HG1 := Lib.hid g1
  have HL := Lib.hid (h.gr g1); have HS := Lib.hid (hN.gr g1); have HT := Lib.hid (ht.gv g1); have HNZ := Lib.hid (hn.gv g1); have HKN := Lib.hid (hkn.gr g1)
  have HZ := Lib.hid hz; have HBD := Lib.hid hb
  have CK := Lib.hid (known10_any W1 HT.out HNZ.out HKN.out)
  have CR := Lib.hid (fun W (g : Gr W1 W) => lawRight_any A l c W (HL.out.gr g) hw (Nat.le_trans hc hcm))
  have CF := Lib.hid (fun W (g : Gr W1 W) => few10_any N ns d how W (HS.out.gr g) (Nat.le_trans hnd hdm) hz)
  have C1 := Lib.hid (fun W (g : Gr W1 W) => check_any N ns d how W (HS.out.gr g) hnd hdm hz)
  have C2 := Lib.hid (fun W (g : Gr W1 W) => rcheck_any N ns d how W (HS.out.gr g) hnd hdm hz)
  have HND := Lib.hid hnd; have HDM := Lib.hid hdm
  rw [hnn] at CF C1 C2 ⊢
  have HNN := Lib.hid hnn
  clear h hw hb ht hn hkn hN hz hnd hdm hb1 hW1 g1 hP hnn
  obtain ⟨r, hr⟩ : ∃ r, rgtV l = r := ⟨_, rfl⟩
  obtain ⟨fw, hfw⟩ : ∃ r, fewG ns = r := ⟨_, rfl⟩
  obtain ⟨ck, hck⟩ : ∃ r, ckV (chkG how ns) = r := ⟨_, rfl⟩
  have HR := Lib.hid hr; have HFW := Lib.hid hfw
  rw [hr] at CR
  rw [hfw] at CF
  rw [hck] at C1 C2
  clear hr hfw hck
  unfold maxLen at hcm
  obtain ⟨n, hln⟩ : ∃ n, l.length = n := ⟨_, rfl⟩
  have HN := Lib.hid hln
  rw [hln] at CR hc ⊢
  clear hln
  go_enter Tryz.func3, Tryz.ntmps3
  go_upto_region 1 with fail
  rw [HW1.out, HP.out]
  go_wp2_with fail
  refine CK.out.mono ?_
  rintro e w1 ⟨rfl, g1⟩
  have b0 := g1.cell a0; have b1 := g1.cell a1
  have G1 := Lib.hid g1
  clear g1 CK
  go_wp2_with fail
  refine (CR.out _ G1.out).mono ?_
  rintro e w2 ⟨rfl, g2⟩
  have c0 := g2.cell b0; have c1 := g2.cell b1
  have G2 := Lib.hid (G1.out.trans g2)
  clear g2 CR b0 b1 G1
  cases r
  · go_wp2
    go_ret
    exact ⟨rfl, HG1.out.trans G2.out⟩
  go_wp2_with fail
  refine (CF.out _ G2.out).mono ?_
  rintro e w3 ⟨rfl, g3⟩
  have b0 := g3.cell c0; have b1 := g3.cell c1
  have G3 := Lib.hid (G2.out.trans g3)
  clear g3 CF c0 c1 G2
  cases fw
  · go_wp2
    go_ret
    exact ⟨rfl, HG1.out.trans G3.out⟩
  obtain ⟨hfew, hvec⟩ : fewV l = true ∧ vecB l = true := by have hv := HR.out; unfold rgtV at hv; rwa [Bool.and_eq_true] at hv
  have hs := fewV_sm hfew
  have hok := (vec_ok2 hvec).1
  have hns : ns.length ≤ 40 := by have := HFW.out; unfold fewG at this; rw [Bool.and_eq_true, decide_eq_true_eq] at this; exact this.1
  have hlm : n ≤ 1000 := by rw [← HN.out]; exact hs.1
  have HSM := Lib.hid (fun (o : Int) => agV_sm hs o how ns k)
  have CA := Lib.hid (fun (o : Int) W (g : Gr W1 W) => agg_any o how k A N l c d ns W (HL.out.gr g) hs hok (HS.out.gr g) HND.out HDM.out HZ.out (by omega) (HT.out.gv g) (HKN.out.gr g) HBD.out)
  have CB := Lib.hid (fun (o : Int) W (g : Gr W1 W) => ragg_any o how k A N l c d ns W (HL.out.gr g) hs (HS.out.gr g) HND.out HDM.out HZ.out (by omega) HBD.out)
  rw [HNN.out, HN.out] at CA CB
  have CS := Lib.hid (fun (o : Int) (A B : Option Addr) (p q : Nat) W (ha : PtsAt W A (agV o how ns k l)) (hb : PtsAt W B (agV o how ns k l)) => rvsame_any A B (agV o how ns k l) (agV o how ns k l) p q W ha hb (HSM.out o) (HSM.out o))
  clear hfew hvec hs hok hns HR HFW HND HDM HZ HBD HKN HNZ HSM
  go_wp2
  go_loopw [9] (fun i wr => ∃ o : Nat, o ≤ 10 ∧ i = .int .i64 o ∧ Gr w3 wr) (fun i _ => 10 - (intOf i).toNat)
  case atStart => exact ⟨0, Nat.zero_le _, rfl, Gr.refl _⟩
  case round =>
    obtain ⟨o, ho, rfl, hg⟩ := hrel
    have c0 := hg.cell b0; have c1 := hg.cell b1
    have GG := Lib.hid (G3.out.trans hg)
    have HGR := Lib.hid hg
    by_cases hlt : o ≤ 9
    · have n1 : (o : Int) ≤ 9 := by omega
      have CA1 := CA.out (o : Int)
      have CB1 := CB.out (o : Int)
      have CS1 := CS.out (o : Int)
      obtain ⟨V, hV⟩ : ∃ V, agV (o : Int) how ns k l = V := ⟨_, rfl⟩
      obtain ⟨E, hE⟩ : ∃ E, agE (o : Int) how ns k l = E := ⟨_, rfl⟩
      rw [hV, hE] at CA1 CB1
      rw [hV, sameP_refl] at CS1
      have CA1 := Lib.hid CA1; have CB1 := Lib.hid CB1; have CS1 := Lib.hid CS1
      clear hV hE hg
      go_wp2_with fail
      refine (CA1.out _ GG.out).mono ?_
      rintro e w5 ⟨A5, c5, rfl, hp5, -, -, g5⟩
      have d0 := g5.cell c0; have d1 := g5.cell c1
      have P5 := Lib.hid hp5; have G5 := Lib.hid (GG.out.trans g5); have G5' := Lib.hid g5
      clear hp5 g5 c0 c1
      go_wp2_with fail
      refine (CB1.out _ G5.out).mono ?_
      rintro e w6 ⟨A6, c6, rfl, hp6, -, -, g6⟩
      have P5' := Lib.hid (P5.out.gr g6); have P6 := Lib.hid hp6; have G6' := Lib.hid (G5'.out.trans g6)
      clear hp6 g6 d0 d1 CA1 CB1
      go_wp2_with fail
      refine (CS1.out _ _ _ _ _ P5'.out P6.out).mono ?_
      rintro e w7 ⟨rfl, g7⟩
      have G7 := Lib.hid (HGR.out.trans (G6'.out.trans g7))
      clear g7 CS1
      go_wp2
      go_roundw
      case rel => exact ⟨o + 1, by omega, by go_num, G7.out⟩
      case measure => simp [intOf]; omega
    · have n1 : ¬ (o : Int) ≤ 9 := by omega
      have CA1 := CA.out op
      have CB1 := CB.out op
      have CS1 := CS.out op
      obtain ⟨V, hV⟩ : ∃ V, agV op how ns k l = V := ⟨_, rfl⟩
      obtain ⟨E, hE⟩ : ∃ E, agE op how ns k l = E := ⟨_, rfl⟩
      rw [hV, hE] at CA1 CB1
      rw [hV, sameP_refl] at CS1
      obtain ⟨vn, hvn⟩ : ∃ vn, V.length = vn := ⟨_, rfl⟩
      rw [hvn] at CS1
      have HVN := Lib.hid hvn
      have CA1 := Lib.hid CA1; have CB1 := Lib.hid CB1; have CS1 := Lib.hid CS1
      clear hV hE hg hvn
      go_wp2_with fail
      refine (CA1.out _ GG.out).mono ?_
      rintro e w5 ⟨A5, c5, rfl, hp5, -, -, g5⟩
      rw [HVN.out]
      have d0 := g5.cell c0; have d1 := g5.cell c1
      have P5 := Lib.hid hp5; have G5 := Lib.hid (GG.out.trans g5); have G5' := Lib.hid g5
      clear hp5 g5 c0 c1
      go_wp2_with fail
      refine (CB1.out _ G5.out).mono ?_
      rintro e w6 ⟨A6, c6, rfl, hp6, -, -, g6⟩
      rw [HVN.out]
      have G6 := Lib.hid (G5.out.trans g6)
      have P5' := Lib.hid (P5.out.gr g6); have P6 := Lib.hid hp6
      have c0 := cell_regrown (g6.cell d0); have c1 := cell_regrown (g6.cell d1)
      have T0 := Lib.hid (gq (W := w6) fun W' g => CS1.out A5 A6 c5 c6 W' (P5'.out.gr g) (P6.out.gr g))
      have T1 := Lib.hid (gq (W := w6) fun W' g => C1.out W' (G6.out.trans g))
      have T2 := Lib.hid (gq (W := w6) fun W' g => C2.out W' (G6.out.trans g))
      clear hp6 g6 d0 d1 CA1 CB1 CS1
      go_upto_region 14 with fail
      refine wp_region_quiet_below (by kernel_rfl) (by kernel_rfl) ?_
      repeat (quiet_step (first | (go_at_call 9; exact T0.out _ _) | (go_at_call 10; exact T1.out _ _) | (go_at_call 11; exact T2.out _ _)))
      refine wpQuiet_nil ?_
      intro _ hw'
      obtain ⟨⟨dq, osq⟩, hw''⟩ := hw'
      subst hw''
      have g10 : Gr w6 (Go.Sort.grow (redrawn w6 dq) osq) := ⟨below_regrown w6 dq osq⟩
      clear T0 T1 T2 c0 c1
      generalize Go.Sort.grow (redrawn w6 dq) osq = w10 at *
      go_wp2
      go_ret
      exact ⟨rfl, HG1.out.trans (G6.out.trans g10)⟩
end Go.Proofs.YtllhkegefinlbaaGreatDoor.Pt
