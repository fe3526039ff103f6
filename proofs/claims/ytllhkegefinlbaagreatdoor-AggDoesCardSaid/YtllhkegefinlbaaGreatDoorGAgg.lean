/- Agg, the program's. -/
import Derived.Test.YtllhkegefinlbaaGreatDoorGAgM
import Derived.Test.YtllhkegefinlbaaGreatDoorGChs
namespace Go.Proofs.YtllhkegefinlbaaGreatDoor.Pt
open Go.RowKit Go.Sort
set_option maxRecDepth 100000
set_option maxHeartbeats 4000000
attribute [local irreducible] wpQuiet

/-- the first errors -/
theorem agg_bad (op how : Int) (k : Nat) (A N : Option Addr) (n c d : Nat) (ns : List ByteArray) (w : World) (hN : StrsAt w N ns) (hl : ns.length ≤ d) (hd : d ≤ maxLen) (hz : ∀ s ∈ ns, s.size ≤ maxLen) (hb : (isA op && chkG how ns) = false) :
    Calls Tryz.prog 7 #[.int .i64 op, .agg #[.int .i64 how, .slice N ns.length d], .float .f64 k, .slice A n c] w (VPost [] 1 w) := by
  obtain ⟨W1, hW1, g1, hb1⟩ := fresh w #[.int .i64 how, .slice N ns.length d] 24
  have a0 := hb1 0 (.int .i64 how) rfl
  have a1 := hb1 1 (.slice N ns.length d) rfl
  have CI := Lib.hid (fun W => isA_any op W)
  have CC := Lib.hid (fun W (g : Gr w W) => check_any N ns d how W (hN.gr g) hl hd hz)
  have HW1 := Lib.hid hW1; have HG1 := Lib.hid g1
  obtain ⟨v1, hv1⟩ : ∃ v, isA op = v := ⟨_, rfl⟩
  obtain ⟨v2, hv2⟩ : ∃ v, chkG how ns = v := ⟨_, rfl⟩
  rw [hv1] at CI hb
  rw [hv2] at CC hb
  obtain ⟨P, hP⟩ : ∃ P, w.heap.size = P := ⟨_, rfl⟩
  rw [hP] at a0 a1
  have HP := Lib.hid hP
  clear hN hl hd hz hW1 g1 hb1 hv1 hv2 hP
  cases v1
  · clear hb
    go_enter Tryz.func7, Tryz.ntmps7
    go_upto_region 1 with fail
    rw [HW1.out, HP.out]
    go_wp2_with fail
    refine (CI.out _).mono ?_
    rintro e w' ⟨rfl, rfl⟩
    go_wp2
    go_ret2
    exact ⟨none, 0, rfl, PtsAt.nil _ _, by simp, by unfold maxLen; omega, HG1.out⟩
  · cases v2
    · clear hb
      go_enter Tryz.func7, Tryz.ntmps7
      go_upto_region 1 with fail
      rw [HW1.out, HP.out]
      go_wp2_with fail
      refine (CI.out _).mono ?_
      rintro e w' ⟨rfl, rfl⟩
      go_wp2_with fail
      refine (CC.out _ HG1.out).mono ?_
      rintro e w2 ⟨rfl, g2⟩
      go_wp2
      go_ret2
      exact ⟨none, 0, rfl, PtsAt.nil _ _, by simp, by unfold maxLen; omega, HG1.out.trans g2⟩
    · cases hb
/-- up to a NaN's bits -/
def EqC (l r : List Pt) : Prop := l.map canP = r.map canP
theorem EqC.len {l r : List Pt} (h : EqC l r) : l.length = r.length := by
  have := congrArg List.length h
  simpa using this
theorem EqC.app {a b c d : List Pt} (h : EqC a b) (g : EqC c d) : EqC (a ++ c) (b ++ d) := by unfold EqC at *; rw [List.map_append, List.map_append, h, g]
theorem EqC.refl (l : List Pt) : EqC l l := rfl
theorem EqC.sm {l r : List Pt} (h : EqC l r) (hs : SmP r) : SmP l := by
  have h1 : l.map (·.1) = r.map (·.1) := by rw [← map_can l, ← map_can r, h]
  refine ⟨by rw [h.len]; exact hs.1, fun p hp => ?_⟩
  have : p.1 ∈ r.map (·.1) := by rw [← h1]; exact List.mem_map_of_mem hp
  obtain ⟨q, hq, e⟩ := List.mem_map.1 this
  rw [← e]; exact hs.2 q hq
/-- the groups as they are read -/
structure Grs (w W : World) (A : Option Addr) (cs : List Sc) (gs : List Gp) : Prop where
  at_ : At2 encS W A cs
  len : cs.length = gs.length
  rd : ∀ (k : Nat) (c : Sc) (s : Gp), cs[k]? = some c → gs[k]? = some s → LabV W c.1 s.1 ∧ OwnG w W w.heap.size c.2.v s.2
theorem Grs.gr {w W W' : World} {A : Option Addr} {cs : List Sc} {gs : List Gp} (h : Grs w W A cs gs) (g : Gr W W') : Grs w W' A cs gs :=
  ⟨h.at_.gr g, h.len, fun k c s hc hs => ⟨(h.rd k c s hc hs).1.gr g, (h.rd k c s hc hs).2.gr g⟩⟩
theorem GSt.grs {w W : World} {M : Nat} {v : Value} {cs : List Sc} {gs : List Gp} {ks : List (List Lb)} (h : GSt w W M v cs gs ks) : ∃ A c, v = .slice A gs.length c ∧ Grs w W A cs gs ∧ gs.length ≤ c ∧ c ≤ maxLen := by
  obtain ⟨A, c, e, hat, h1, h2, -⟩ := h.row.form (fun _ => rfl)
  have hl := h.len
  rw [hl] at e h1
  exact ⟨A, c, e, ⟨hat, hl, h.rd⟩, h1, h2⟩
theorem outG_takes {op : Int} (ho : tksB op = true) (k : Nat) (s : Gp) : outG op k s = chsP op k s.2 := by unfold outG; rw [ho]; rfl
theorem outG_ones {op : Int} (ho : tksB op = false) (k : Nat) (s : Gp) : outG op k s = [(s.1, oneV op (vals s.2))] := by unfold outG; rw [ho]; rfl
theorem flatMap_take {α β : Type} (f : α → List β) {l : List α} {i : Nat} {x : α} (h : l[i]? = some x) : (l.take (i + 1)).flatMap f = (l.take i).flatMap f ++ f x := by
  obtain ⟨hi, rfl⟩ := List.getElem?_eq_some_iff.1 h
  rw [List.take_succ_eq_append_getElem hi, List.flatMap_append]
  simp
theorem grps_ne {f : Pt → List Lb} {l : List Pt} {i : Nat} {s : Gp} (h : (grpsP f l)[i]? = some s) : 0 < s.2.length := by
  obtain ⟨h1, h2⟩ := grps_get h
  obtain ⟨p, hp, e⟩ := mem_keys.1 (List.mem_of_getElem? h1)
  rw [h2]
  exact List.length_pos_of_mem (List.mem_filter.2 ⟨hp, by simp [e]⟩)
theorem grps_sub {f : Pt → List Lb} {l : List Pt} {i : Nat} {s : Gp} (h : (grpsP f l)[i]? = some s) : s.2.length ≤ l.length ∧ ∀ p ∈ s.2, p ∈ l := by
  obtain ⟨h1, h2⟩ := grps_get h
  rw [h2]
  exact ⟨memG_len _ _ _, fun p hp => (List.mem_filter.1 hp).1⟩
/-- one point of each group -/
theorem agg_one (op how : Int) (k : Nat) (A N : Option Addr) (l : List Pt) (c d : Nat) (ns : List ByteArray) (w : World) (h : PtsAt w A l) (hs : SmP l) (hok : okP l = true) (hN : StrsAt w N ns) (hl : ns.length ≤ d) (hd : d ≤ maxLen) (hz : ∀ s ∈ ns, s.size ≤ maxLen) (hns : ns.length ≤ 1000) (ht : Fv.Tab w) (hkn : Kn w)
    (hA : isA op = true) (hC : chkG how ns = true) (ho : tksB op = false) :
    Calls Tryz.prog 7 #[.int .i64 op, .agg #[.int .i64 how, .slice N ns.length d], .float .f64 k, .slice A l.length c] w (VPost (norV (aggP op (grpF how ns) k l)) (norE (aggP op (grpF how ns) k l)) w) := by
  obtain ⟨W1, hW1, g1, hb1⟩ := fresh w #[.int .i64 how, .slice N ns.length d] 24
  have a0 := hb1 0 (.int .i64 how) rfl
  have a1 := hb1 1 (.slice N ns.length d) rfl
  have hopn : op = 1 ∨ op = 2 ∨ op = 3 ∨ op = 4 ∨ op = 5 ∨ op = 8 := by
    unfold isA at hA
    unfold tksB at ho
    rw [Bool.and_eq_true, decide_eq_true_eq, decide_eq_true_eq] at hA
    rw [Bool.or_eq_false_iff, beq_eq_false_iff_ne, beq_eq_false_iff_ne] at ho
    omega
  have CI := Lib.hid (fun W => isA_any op W)
  have CC := Lib.hid (fun W (g : Gr w W) => check_any N ns d how W (hN.gr g) hl hd hz)
  have CT := Lib.hid (fun W => takes_any op W)
  have CG := Lib.hid (fun W (g : Gr w W) => grouped_any A N l ns c d how W (h.gr g) hs hok (hN.gr g) hns (hkn.gr g))
  have HSM := Lib.hid (agg_sm hs op how ns k)
  have HAG : Hid (aggP op (grpF how ns) k l = (grpsP (grpF how ns) l).flatMap (outG op k)) := Lib.hid rfl
  have HNE : Hid (∀ (i : Nat) (s : Gp), (grpsP (grpF how ns) l)[i]? = some s → 0 < s.2.length ∧ s.2.length ≤ 1000) := Lib.hid fun i s h => ⟨grps_ne h, Nat.le_trans (grps_sub h).1 hs.1⟩
  have HGL : Hid ((grpsP (grpF how ns) l).length ≤ 1000) := Lib.hid (Nat.le_trans (grps_len _ _) hs.1)
  have HO := Lib.hid (outG_ones ho k)
  have HT := Lib.hid ht
  rw [hA] at CI
  rw [hC] at CC
  rw [ho] at CT
  have HW1 := Lib.hid hW1; have HG1 := Lib.hid g1
  obtain ⟨P, hP⟩ : ∃ P, w.heap.size = P := ⟨_, rfl⟩
  rw [hP] at a0 a1
  have HP := Lib.hid hP
  obtain ⟨L, hL⟩ : ∃ L, aggP op (grpF how ns) k l = L := ⟨_, rfl⟩
  rw [hL] at HSM HAG ⊢
  clear h hs hok hN hl hd hz hns ht hkn hA hC ho hW1 g1 hb1 hP hL
  go_enter Tryz.func7, Tryz.ntmps7
  go_upto_region 1 with fail
  rw [HW1.out, HP.out]
  go_wp2_with fail
  refine (CI.out _).mono ?_
  rintro e w' ⟨rfl, rfl⟩
  go_wp2_with fail
  refine (CC.out _ HG1.out).mono ?_
  rintro e w2 ⟨rfl, g2⟩
  have HG2 := Lib.hid (HG1.out.trans g2)
  have b0 := g2.cell a0
  have b1 := g2.cell a1
  clear g2 a0 a1
  go_wp2_with fail
  refine (CG.out _ HG2.out).mono ?_
  rintro e w3 ⟨W3, v3, cs, M, g3, rfl, hst⟩
  obtain ⟨A3, c3, rfl, hgrs, hc3, hm3⟩ := hst.grs
  have HST := Lib.hid hst.g
  have HGR := Lib.hid hgrs
  have HGW3 := Lib.hid (HG2.out.trans g3)
  obtain ⟨gs, hgs⟩ : ∃ gs, grpsP (grpF how ns) l = gs := ⟨_, rfl⟩
  rw [hgs] at HGR HAG HNE HGL hc3 ⊢
  clear hst hgrs hgs g3
  go_wp2
  have H0 : Hid (∃ cs' l', PSt w3 w3 (.slice none 0 0) cs' l' ∧ EqC l' ((gs.take 0).flatMap (outG op k))) := Lib.hid ⟨[], [], PSt.none_ (Gr.refl _), rfl⟩
  go_loopw [11, 26] (fun v i wr => ∃ j : Nat, j ≤ gs.length ∧ i = .int .i64 j ∧ Hid (∃ cs' l', PSt w3 wr v cs' l' ∧ EqC l' ((gs.take j).flatMap (outG op k)))) (fun _ i _ => gs.length - (intOf i).toNat)
  case atStart => exact ⟨0, Nat.zero_le _, rfl, H0⟩
  case round =>
    clear H0
    obtain ⟨j, hj, rfl, HP0⟩ := hrel
    by_cases hlt : j < gs.length
    · obtain ⟨cs', l', hps, heq⟩ := HP0.out
      have hjc : j < cs.length := by rw [HGR.out.len]; exact hlt
      have hcc := List.getElem?_eq_getElem hjc
      have hss := List.getElem?_eq_getElem hlt
      obtain ⟨cc, hce⟩ : ∃ y, cs[j] = y := ⟨_, rfl⟩
      obtain ⟨ss, hse⟩ : ∃ y, gs[j] = y := ⟨_, rfl⟩
      rw [hce] at hcc
      rw [hse] at hss
      obtain ⟨hlv, hog⟩ := (HGR.out.gr hps.g).rd j cc ss hcc hss
      obtain ⟨b, o, rfl, d1, d2, -⟩ := (HGR.out.gr hps.g).at_.at_ hjc (u := (cs[j]).1.v) (v := (cs[j]).2.v) rfl
      rw [hce] at d1 d2
      obtain ⟨⟨la, ln, lc⟩, c2⟩ := cc
      obtain ⟨x, ps⟩ := ss
      obtain ⟨rfl, hlab⟩ := hlv
      obtain ⟨pa, pc, hpv, hpts, hpc, -⟩ := hog.pts (HST.out.trans hps.g)
      simp only at hpv d1 d2 hlab hpts
      rw [hpv] at d2
      change wr.cell? ⟨b, o + j * 2, none⟩ = some (.slice la x.length lc) at d1
      obtain ⟨hne, hn1000⟩ := HNE.out j _ hss
      simp only at hne hn1000
      have HFT := Lib.hid (flatMap_take (outG op k) hss)
      have HOX := Lib.hid (HO.out (x, ps))
      obtain ⟨X, hX, g0, hb⟩ := fresh wr #[.slice la x.length lc, .slice pa ps.length pc] 52
      have b0' := hb 0 (.slice la x.length lc) rfl
      have b1' := hb 1 (.slice pa ps.length pc) rfl
      have HX := Lib.hid hX
      have HPS := Lib.hid (hps.gr g0)
      have HLAB := Lib.hid (hlab.gr g0)
      have CV := Lib.hid (fun W (g : Gr X W) => values_any la x.length lc pa pc ps W ((hpts.gr g0).gr g) hn1000)
      have HG0 := Lib.hid g0
      obtain ⟨Q, hQ⟩ : ∃ Q, wr.heap.size = Q := ⟨_, rfl⟩
      rw [hQ] at b0' b1'
      have HQ := Lib.hid hQ
      have HNQ : Hid (some Q ≠ u11.ownBlock) := Lib.hid (fun e => by have h1 := (hps.row.lt e.symm).2; rw [← hQ] at h1; exact Nat.lt_irrefl _ h1)
      have HEQ := Lib.hid heq
      have n1 : (j : Int) < (gs.length : Int) := by omega
      obtain ⟨v0, vr, hvv⟩ : ∃ v0 vr, vals ps = v0 :: vr := by
        cases hv : vals ps with
        | nil => have := vals_len ps; rw [hv] at this; simp at this; omega
        | cons a b => exact ⟨a, b, rfl⟩
      have hvl : vr.length + 1 = ps.length := by have := vals_len ps; rw [hvv] at this; simpa using this
      have CO := Lib.hid (fun gq W (hf : FlL W (some ⟨gq, 0, none⟩) (vals ps)) (g : Gr X W) => (show Calls Tryz.prog 20 #[.int .i64 op, .slice (some ⟨gq, 0, none⟩) ps.length ps.length] W (CanPost (oneV op (vals ps)) W) by
        have := outcome_any op (some ⟨gq, 0, none⟩) ps.length v0 vr W (by rw [← hvv]; exact hf) (by omega) (by omega) ((HT.out.gv (HGW3.out.trans HST.out)).gv ((hps.g.trans g0).trans g)) hopn
        rwa [hvl, ← hvv] at this))
      have HOLD : Hid (Rd w3 ((⟨la, x.length, lc⟩, 0) : Pc) (x, 0)) := Lib.hid ⟨rfl, rfl, (HGR.out.rd j _ _ hcc hss).1.2⟩
      have hcsl : cs'.length ≤ 1000 := by
        rw [hps.rds.len, heq.len]
        have : ((gs.take j).flatMap (outG op k)).length ≤ j := by
          have e : (gs.take j).flatMap (outG op k) = (gs.take j).map fun s => (s.1, oneV op (vals s.2)) := by
            have e2 : outG op k = fun s => [(s.1, oneV op (vals s.2))] := funext HO.out
            rw [e2]
            induction gs.take j with
            | nil => rfl
            | cons a r ih => rw [List.flatMap_cons, ih]; rfl
          rw [e, List.length_map, List.length_take]; omega
        have := HGL.out; omega
      clear hps heq hjc hcc hss hce hse hog hpts hpv hX g0 hb hQ hlab hvv hvl
      go_upto_region 6 with fail
      rw [HX.out, HQ.out]
      refine (CT.out _).mono ?_
      rintro e w' ⟨rfl, rfl⟩
      clear d1 d2
      go_wp2_with fail
      go_region_held3 (fun w' => w'.cell? ⟨Q, 0, none⟩ = some (.slice la x.length lc) ∧ w'.cell? ⟨Q, 1, none⟩ = some (.slice pa ps.length pc))
        (first | exact ks6 | exact ks5 | exact ks7 | exact ⟨b0', b1'⟩ | go_keep)
        (first
          | (go_simp
             go_at_call 21
             refine (CV.out _ (Gr.refl _).drew).mono ?_
             rintro e w5 ⟨gq, rfl, hfl, g5⟩
             have gl5 : Gr X w5 := (Gr.refl _).drew.trans g5
             have ks5 : w5.cell? ⟨Q, 0, none⟩ = some (.slice la x.length lc) ∧ w5.cell? ⟨Q, 1, none⟩ = some (.slice pa ps.length pc) := ⟨gl5.cell b0', gl5.cell b1'⟩)
          | (go_simp
             go_at_call 20
             refine (CO.out _ _ hfl gl5).mono ?_
             rintro e w6 ⟨bq, rfl, hcan, g6⟩
             have gl6 : Gr X w6 := gl5.trans g6
             have ks6 : w6.cell? ⟨Q, 0, none⟩ = some (.slice la x.length lc) ∧ w6.cell? ⟨Q, 1, none⟩ = some (.slice pa ps.length pc) := ⟨gl6.cell b0', gl6.cell b1'⟩)
          | (refine step_app2 rfl (.tmp 38) (.tmp 46) (by rfl) (by rfl) (by rfl) (by rfl) (run_appR1 (B := w3.heap.size) (l := cs') ((⟨la, x.length, lc⟩, bq) : Pc) ?_ ?_ ?_ ?_ ?_) ?_
             · exact (HPS.out.gr (gl6.alloc _ _)).row
             · show _ = some (Value.slice la x.length lc)
               go_simp
             · show _ = some (Value.float .f64 bq)
               go_simp
             · omega
             · exact (HPS.out.gr (gl6.alloc _ _)).g.size
             rintro v7 w7 ⟨ho7, hg7, hv7⟩
             have ks7 : w7.cell? ⟨Q, 0, none⟩ = some (.slice la x.length lc) ∧ w7.cell? ⟨Q, 1, none⟩ = some (.slice pa ps.length pc) := ⟨hg7.cell (((Gr.refl _).alloc _ _).cell ks6.1) HNQ.out, hg7.cell (((Gr.refl _).alloc _ _).cell ks6.2) HNQ.out⟩))
      have hgl := HGL.out
      have HN : Hid (∃ cs' l', PSt w3 w7 v7 cs' l' ∧ EqC l' ((gs.take (j + 1)).flatMap (outG op k))) := Lib.hid (by
        refine ⟨cs' ++ [((⟨la, x.length, lc⟩, bq) : Pc)], l' ++ [(x, bq)], ?_, ?_⟩
        · have hps := HPS.out.gr (gl6.alloc #[.slice la x.length lc, .float .f64 bq] 45)
          refine hps.app (r := [(x, bq)]) (Rds.one ⟨rfl, rfl, (HLAB.out.gr gl6).gr ((Gr.refl _).alloc _ _)⟩) ?_ ho7 hg7 hv7
          exact off_old hps (Rds.one (W := w3) (c := ((⟨la, x.length, lc⟩, bq) : Pc)) (p := (x, bq)) ⟨rfl, rfl, HOLD.out.2.2⟩) (Nat.le_refl _)
        · rw [HFT.out]
          refine HEQ.out.app ?_
          rw [HOX.out]
          unfold EqC canP
          simp only [List.map_cons, List.map_nil, hcan])
      clear ho7 hg7 hv7 ks7 ks6 ks5 hcan g6 g5 hfl gl5 gl6
      go_wp2_with fail
      go_roundw
      case rel => exact ⟨j + 1, by omega, by go_num, HN⟩
      case measure => simp [intOf]; omega
    · obtain rfl : j = gs.length := by omega
      obtain ⟨cs', l', hps, heq⟩ := HP0.out
      rw [List.take_length, ← HAG.out] at heq
      obtain ⟨A', c', rfl, hpt, -, -, -⟩ := hps.at_
      have hnc := nor_can heq
      have CN := Lib.hid (normal_any A' l' c' wr hpt (heq.sm HSM.out) (HT.out.gv ((HGW3.out.trans HST.out).trans hps.g)))
      rw [hnc.1, hnc.2] at CN
      have HGF := Lib.hid ((HGW3.out.trans HST.out).trans hps.g)
      clear hps heq hpt hnc HP0
      go_wp2_with fail
      refine CN.out.mono ?_
      rintro e w4 ⟨A4, c4, rfl, hp4, h1, h2, g4⟩
      have HP4 := Lib.hid hp4
      clear hp4
      go_wp2
      go_ret2
      exact ⟨A4, c4, rfl, HP4.out, h1, h2, HGF.out.trans g4⟩
/-- on the way: the groups' rows from the i-th on as grouped left them; a row of the call's own behind them -/
structure TSt (W3 w3 wr : World) (A : Option Addr) (cs : List Sc) (gs : List Gp) (i : Nat) (v : Value) (ds : List Pc) (l : List Pt) : Prop where
  g : Gr W3 wr
  sz : w3.heap.size ≤ wr.heap.size
  at_ : At2 encS wr A cs
  rd : ∀ (j : Nat) (c : Sc) (s : Gp), i ≤ j → cs[j]? = some c → gs[j]? = some s → OwnG W3 wr W3.heap.size c.2.v s.2
  row : OwnT wr w3.heap.size v ds
  rds : Rds W3 ds l
theorem GSt.t0 {W3 w3 : World} {M : Nat} {v : Value} {A : Option Addr} {cs : List Sc} {gs : List Gp} {ks : List (List Lb)} (h : GSt W3 w3 M v cs gs ks) (hat : At2 encS w3 A cs) : TSt W3 w3 w3 A cs gs 0 (.slice none 0 0) [] [] :=
  ⟨h.g, Nat.le_refl _, hat, fun j c s _ hc hs => (h.rd j c s hc hs).2, Own2.nil _ _, Rds.nil _⟩
theorem TSt.gr {W3 w3 wr W : World} {A : Option Addr} {cs : List Sc} {gs : List Gp} {i : Nat} {v : Value} {ds : List Pc} {l : List Pt} (h : TSt W3 w3 wr A cs gs i v ds l) (g : Gr wr W) : TSt W3 w3 W A cs gs i v ds l :=
  ⟨h.g.trans g, Nat.le_trans h.sz g.size, h.at_.gr g, fun j c s hj hc hs => (h.rd j c s hj hc hs).gr g, h.row.gr g, h.rds⟩
/-- the i-th group's row is put in order, and what is chosen of it appended -/
theorem TSt.next {W3 w3 X w2 w4 : World} {M : Nat} {v0 v v' : Value} {A : Option Addr} {n0 c0 : Nat} {cs : List Sc} {gs : List Gp} {ks : List (List Lb)} {i : Nat} {ds ds2 : List Pc} {l l2 : List Pt} (h : TSt W3 w3 X A cs gs i v ds l) (hst : GSt W3 w3 M v0 cs gs ks) (hv0 : v0 = .slice A n0 c0)
    {c : Sc} {b : Nat} (hc : cs[i]? = some c) (hi : i < gs.length) (hcb : c.2.v.ownBlock = some b) (hg2 : X.grownBy w2 (some b)) (hr2 : Rds W3 ds2 l2) (ho : OwnT w4 w3.heap.size v' (ds ++ ds2)) (hg4 : w2.grownBy w4 v.ownBlock) : TSt W3 w3 w4 A cs gs (i + 1) v' (ds ++ ds2) (l ++ l2) := by
  have hsi := List.getElem?_eq_getElem hi
  have hb3 := (hst.rd i c _ hc hsi).2.lt hcb
  have hvb : ∀ (k : Nat) (cc : Sc) (bb : Nat), cs[k]? = some cc → cc.2.v.ownBlock = some bb → bb < w3.heap.size := fun k cc bb hc hb => by
    obtain ⟨ss, hss⟩ : ∃ ss, gs[k]? = some ss := ⟨_, List.getElem?_eq_getElem (by have := (List.getElem?_eq_some_iff.1 hc).1; have := hst.len; omega)⟩
    exact ((hst.rd k cc ss hc hss).2.lt hb).2
  have hrow := h.row
  have hvr : ∀ bb, v.ownBlock = some bb → w3.heap.size ≤ bb := fun bb hb => (hrow.lt hb).1
  have g2 : Gr W3 w2 := h.g.grown hg2 (fun k hk => by cases hk; exact hb3.1)
  have hW3 : W3.heap.size ≤ w3.heap.size := hst.g.size
  refine ⟨g2.grown hg4 (fun k hk => Nat.le_trans hW3 (hvr k hk)), Nat.le_trans h.sz (Nat.le_trans hg2.size hg4.size), ?_, fun j cc s hj hcj hsj => ?_, ho, h.rds.append hr2⟩
  · have hA : ∀ b' o, A = some ⟨b', o, none⟩ → v0.ownBlock = some b' := fun b' o e => by rw [hv0, e]; rfl
    refine (h.at_.only hg2 fun b' o e hbb => ?_).only hg4 fun b' o e hbb => ?_
    · injection hbb with hbb
      rcases ((hst.rd i c _ hc hsi).2.ne hst.row).1 with h1 | h1
      · rw [hcb] at h1; cases h1
      · exact h1 (by rw [hcb, hA b' o e, hbb])
    · have h1 := (hst.row.lt (hA b' o e)).2
      have h2 := hvr b' hbb.symm
      omega
  · have h1 := h.rd j cc s (by omega) hcj hsj
    have h2 := h1.kept hg2 (by
      rcases hst.inj j i cc c hcj hc (by omega) with e | e
      · exact .inl e
      · exact .inr (fun e2 => e (by rw [e2, hcb])))
    refine h2.kept hg4 ?_
    by_cases e : cc.2.v.ownBlock = none
    · exact .inl e
    · refine .inr (fun e2 => ?_)
      obtain ⟨bb, hbb⟩ := Option.ne_none_iff_exists'.1 e
      have h3 := hvb j cc bb hcj hbb
      have h4 := hvr bb (by rw [← e2, hbb])
      omega
/-- some points of each group -/
theorem agg_some (op how : Int) (k : Nat) (A N : Option Addr) (l : List Pt) (c d : Nat) (ns : List ByteArray) (w : World) (h : PtsAt w A l) (hs : SmP l) (hok : okP l = true) (hN : StrsAt w N ns) (hl : ns.length ≤ d) (hd : d ≤ maxLen) (hz : ∀ s ∈ ns, s.size ≤ maxLen) (hns : ns.length ≤ 1000) (ht : Fv.Tab w) (hkn : Kn w)
    (hA : isA op = true) (hC : chkG how ns = true) (ho : tksB op = true) (hb : ∀ p ∈ l, p.2 < 2 ^ 64) :
    Calls Tryz.prog 7 #[.int .i64 op, .agg #[.int .i64 how, .slice N ns.length d], .float .f64 k, .slice A l.length c] w (VPost (norV (aggP op (grpF how ns) k l)) (norE (aggP op (grpF how ns) k l)) w) := by
  obtain ⟨W1, hW1, g1, hb1⟩ := fresh w #[.int .i64 how, .slice N ns.length d] 24
  have a0 := hb1 0 (.int .i64 how) rfl
  have a1 := hb1 1 (.slice N ns.length d) rfl
  have CI := Lib.hid (fun W => isA_any op W)
  have CC := Lib.hid (fun W (g : Gr w W) => check_any N ns d how W (hN.gr g) hl hd hz)
  have CT := Lib.hid (fun W => takes_any op W)
  have CG := Lib.hid (fun W (g : Gr w W) => grouped_any A N l ns c d how W (h.gr g) hs hok (hN.gr g) hns (hkn.gr g))
  have HSM := Lib.hid (agg_sm hs op how ns k)
  have HAG : Hid (aggP op (grpF how ns) k l = (grpsP (grpF how ns) l).flatMap (outG op k)) := Lib.hid rfl
  have HNE : Hid (∀ (i : Nat) (s : Gp), (grpsP (grpF how ns) l)[i]? = some s → 0 < s.2.length ∧ s.2.length ≤ 1000) := Lib.hid fun i s h => ⟨grps_ne h, Nat.le_trans (grps_sub h).1 hs.1⟩
  have HGL : Hid ((grpsP (grpF how ns) l).length ≤ 1000) := Lib.hid (Nat.le_trans (grps_len _ _) hs.1)
  have HO := Lib.hid (outG_takes ho k)
  have HBD : Hid (∀ (i : Nat) (s : Gp), (grpsP (grpF how ns) l)[i]? = some s → ∀ p ∈ s.2, p.2 < 2 ^ 64) := Lib.hid fun i s h p hp => hb p ((grps_sub h).2 p hp)
  have HT := Lib.hid ht
  rw [hA] at CI
  rw [hC] at CC
  rw [ho] at CT
  have HW1 := Lib.hid hW1; have HG1 := Lib.hid g1
  obtain ⟨P, hP⟩ : ∃ P, w.heap.size = P := ⟨_, rfl⟩
  rw [hP] at a0 a1
  have HP := Lib.hid hP
  obtain ⟨L, hL⟩ : ∃ L, aggP op (grpF how ns) k l = L := ⟨_, rfl⟩
  rw [hL] at HSM HAG ⊢
  clear h hs hok hN hl hd hz hns ht hkn hA hC ho hb hW1 g1 hb1 hP hL
  go_enter Tryz.func7, Tryz.ntmps7
  go_upto_region 1 with fail
  rw [HW1.out, HP.out]
  go_wp2_with fail
  refine (CI.out _).mono ?_
  rintro e w' ⟨rfl, rfl⟩
  go_wp2_with fail
  refine (CC.out _ HG1.out).mono ?_
  rintro e w2 ⟨rfl, g2⟩
  have HG2 := Lib.hid (HG1.out.trans g2)
  have b0 := g2.cell a0
  have b1 := g2.cell a1
  clear g2 a0 a1
  go_wp2_with fail
  refine (CG.out _ HG2.out).mono ?_
  rintro e w3 ⟨W3, v3, cs, M, g3, rfl, hst⟩
  obtain ⟨A3, c3, hv3, hat3, hc3', hm3, -⟩ := hst.row.form (fun _ => rfl)
  have HGW3 := Lib.hid (HG2.out.trans g3)
  obtain ⟨gs, hgs⟩ : ∃ gs, grpsP (grpF how ns) l = gs := ⟨_, rfl⟩
  rw [hgs] at hst HAG HNE HGL HBD
  have hlen3 := hst.len
  have HLEN := Lib.hid hlen3
  have HST := Lib.hid hst
  have HAT := Lib.hid hat3
  have hcl : cs.length ≤ c3 := hc3'
  have HVB : Hid (∀ (j : Nat) (cc : Sc) (b : Nat), cs[j]? = some cc → cc.2.v.ownBlock = some b → v3.ownBlock ≠ some b) := Lib.hid (fun j cc b hc hb e => by
    obtain ⟨ss, hss⟩ : ∃ ss, gs[j]? = some ss := ⟨_, List.getElem?_eq_getElem (by have := (List.getElem?_eq_some_iff.1 hc).1; omega)⟩
    rcases ((hst.rd j cc ss hc hss).2.ne hst.row).1 with h | h
    · rw [hb] at h; cases h
    · exact h (by rw [hb, e]))
  clear hgs g3 hat3 hc3' hst
  rw [hlen3] at hv3 hcl
  subst hv3
  go_wp2
  have H0 : Hid (∃ cs' l', TSt W3 w3 w3 A3 cs gs 0 (.slice none 0 0) cs' l' ∧ l' = (gs.take 0).flatMap (outG op k)) := Lib.hid ⟨[], [], HST.out.t0 HAT.out, rfl⟩
  go_loopw [11, 26] (fun v i wr => ∃ j : Nat, j ≤ gs.length ∧ i = .int .i64 j ∧ Hid (∃ cs' l', TSt W3 w3 wr A3 cs gs j v cs' l' ∧ l' = (gs.take j).flatMap (outG op k))) (fun _ i _ => gs.length - (intOf i).toNat)
  case atStart => exact ⟨0, Nat.zero_le _, rfl, H0⟩
  case round =>
    clear H0
    obtain ⟨j, hj, rfl, HP0⟩ := hrel
    by_cases hlt : j < gs.length
    · obtain ⟨cs', l', hts, hle⟩ := HP0.out
      have hjc : j < cs.length := by rw [HLEN.out]; exact hlt
      have hcc := List.getElem?_eq_getElem hjc
      have hss := List.getElem?_eq_getElem hlt
      obtain ⟨cc, hce⟩ : ∃ y, cs[j] = y := ⟨_, rfl⟩
      obtain ⟨ss, hse⟩ : ∃ y, gs[j] = y := ⟨_, rfl⟩
      rw [hce] at hcc
      rw [hse] at hss
      obtain ⟨hlv, -⟩ := HST.out.rd j cc ss hcc hss
      have hog := hts.rd j cc ss (Nat.le_refl _) hcc hss
      obtain ⟨b, o, rfl, d1, d2, -⟩ := hts.at_.at_ hjc (u := (cs[j]).1.v) (v := (cs[j]).2.v) rfl
      rw [hce] at d1 d2
      have HBD2 := HBD.out j ss hss
      obtain ⟨⟨la, ln, lc⟩, c2⟩ := cc
      obtain ⟨x, ps⟩ := ss
      obtain ⟨rfl, -⟩ := hlv
      obtain ⟨pa, pc, hpv, hpc, hpm, hpa⟩ := hog.form
      simp only at hpv d1 d2 hog HBD2 hpc
      obtain ⟨hne, hn1000⟩ := HNE.out j _ hss
      simp only at hne hn1000 hpa
      obtain ⟨rb, rfl, hrb⟩ := hpa hne
      rw [hpv] at d2 hog
      change wr.cell? ⟨b, o + j * 2, none⟩ = some (.slice la x.length lc) at d1
      have HFT := Lib.hid (flatMap_take (outG op k) hss)
      have HOX := Lib.hid (HO.out (x, ps))
      obtain ⟨X, hX, g0, hb⟩ := fresh wr #[.slice la x.length lc, .slice (some ⟨rb, 0, none⟩) ps.length pc] 52
      have b0' := hb 0 (.slice la x.length lc) rfl
      have b1' := hb 1 (.slice (some ⟨rb, 0, none⟩) ps.length pc) rfl
      have HX := Lib.hid hX
      have HTS := Lib.hid (hts.gr g0)
      obtain ⟨ds, hod, hrd⟩ := hog.gr g0
      have CK := Lib.hid (fun (_ : Unit) => chosen_any la x.length lc rb pc W3.heap.size op k ds ps W3 X hod hrd HBD2 hne hn1000 hpc ((HT.out.gv HGW3.out).gv HTS.out.g))
      have HNX : Hid (∀ w2 w4 v' ds2, X.grownBy w2 (some rb) → Rds W3 ds2 (chsP op k ps) → OwnT w4 w3.heap.size v' (cs' ++ ds2) → w2.grownBy w4 u11.ownBlock → TSt W3 w3 w4 (some ⟨b, o, none⟩) cs gs (j + 1) v' (cs' ++ ds2) (l' ++ chsP op k ps)) := Lib.hid (fun w2 w4 v' ds2 hg2 hr2 ho hg4 => HTS.out.next HST.out rfl hcc hlt (by show c2.v.ownBlock = some rb; rw [hpv]; rfl) hg2 hr2 ho hg4)
      have HOW : Hid (∀ w2, X.grownBy w2 (some rb) → OwnT w2 w3.heap.size u11 cs' ∧ w3.heap.size ≤ w2.heap.size) := Lib.hid (fun w2 hg2 => ⟨HTS.out.row.kept hg2 (by
        by_cases e : u11.ownBlock = none
        · exact .inl e
        · refine .inr (fun e2 => ?_)
          have h1 := (HTS.out.row.lt e2).1
          have h2 := ((HST.out.rd j _ _ hcc hss).2.lt (k := rb) (by show c2.v.ownBlock = some rb; rw [hpv]; rfl)).2
          omega), Nat.le_trans HTS.out.sz hg2.size⟩)
      have hcsl : cs'.length ≤ 1000 := by
        rw [hts.rds.len, hle]
        have h1 : ((gs.take j).flatMap (outG op k)).length ≤ (gs.flatMap (outG op k)).length := by
          conv => rhs; rw [← List.take_append_drop j gs, List.flatMap_append, List.length_append]
          omega
        rw [← HAG.out] at h1
        have := HSM.out.1
        omega
      have hcut : (chsP op k ps).length ≤ 1000 := by
        unfold chsP
        rw [List.length_take, srtK_len]; omega
      have HLE := Lib.hid hle
      obtain ⟨Q, hQ⟩ : ∃ Q, wr.heap.size = Q := ⟨_, rfl⟩
      rw [hQ] at b0' b1'
      have HQ := Lib.hid hQ
      have n1 : (j : Int) < (gs.length : Int) := by omega
      have hgl := HGL.out
      clear hts hle hjc hcc hss hce hse hog hpv hX g0 hb hQ hod hrd HBD2 hrb hpa hpm
      go_upto_region 6 with fail
      rw [HX.out, HQ.out]
      refine (CT.out _).mono ?_
      rintro e w' ⟨rfl, rfl⟩
      clear d1 d2
      go_wp2_with fail
      refine (CK.out ()).mono ?_
      rintro e w2 ⟨rfl, hg2, ds2, hat2, hr2⟩
      have hl2 := hr2.len
      have hap := run_appR (c := pc) (HOW.out w2 hg2).1 hat2 (by omega) (HOW.out w2 hg2).2
      rw [hl2] at hap
      obtain ⟨q, hq⟩ : ∃ q, (chsP op k ps).length = q := ⟨_, rfl⟩
      rw [hq] at hap ⊢
      have HAP := Lib.hid hap
      have HG2' := Lib.hid hg2; have HR2 := Lib.hid hr2
      clear hap hg2 hr2 hat2 hl2 hq
      go_wp2_with (at_builtin; refine wpList_app2 rfl _ _ (by rfl) (by rfl) rfl rfl HAP.out ?_; rintro v7 w7 ⟨ho7, hg7, hv7⟩)
      have HN : Hid (∃ cs' l', TSt W3 w3 w7 (some ⟨b, o, none⟩) cs gs (j + 1) v7 cs' l' ∧ l' = (gs.take (j + 1)).flatMap (outG op k)) := Lib.hid ⟨_, _, HNX.out w2 w7 v7 ds2 HG2'.out HR2.out ho7 hg7, by rw [HFT.out, HOX.out, ← HLE.out]⟩
      clear ho7 hg7 hv7
      go_roundw
      case rel => exact ⟨j + 1, by omega, by go_num, HN⟩
      case measure => simp [intOf]; omega
    · obtain rfl : j = gs.length := by omega
      obtain ⟨cs', l', hts, hle⟩ := HP0.out
      rw [List.take_length, ← HAG.out] at hle
      rw [hle] at hts
      obtain ⟨A', c', hvv, hat, -, -, -⟩ := hts.row.form (fun _ => rfl)
      rw [hts.rds.len] at hvv
      subst hvv
      have hpt : PtsAt wr A' L := ⟨cs', hat, hts.rds.gr hts.g⟩
      have CN := Lib.hid (normal_any A' L c' wr hpt HSM.out (HT.out.gv (HGW3.out.trans hts.g)))
      have HGF := Lib.hid (HGW3.out.trans hts.g)
      clear hts hat hpt HP0 hle
      go_wp2_with fail
      refine CN.out.mono ?_
      rintro e w4 ⟨A4, c4, rfl, hp4, h1, h2, g4⟩
      have HP4 := Lib.hid hp4
      clear hp4
      go_wp2
      go_ret2
      exact ⟨A4, c4, rfl, HP4.out, h1, h2, HGF.out.trans g4⟩
/-- Agg, whatever is asked -/
theorem agg_any (op how : Int) (k : Nat) (A N : Option Addr) (l : List Pt) (c d : Nat) (ns : List ByteArray) (w : World) (h : PtsAt w A l) (hs : SmP l) (hok : okP l = true) (hN : StrsAt w N ns) (hl : ns.length ≤ d) (hd : d ≤ maxLen) (hz : ∀ s ∈ ns, s.size ≤ maxLen) (hns : ns.length ≤ 1000) (ht : Fv.Tab w) (hkn : Kn w) (hb : ∀ p ∈ l, p.2 < 2 ^ 64) :
    Calls Tryz.prog 7 #[.int .i64 op, .agg #[.int .i64 how, .slice N ns.length d], .float .f64 k, .slice A l.length c] w (VPost (agV op how ns k l) (agE op how ns k l) w) := by
  unfold agV agE
  cases hA : isA op
  · exact agg_bad op how k A N l.length c d ns w hN hl hd hz (by rw [hA]; rfl)
  · cases hC : chkG how ns
    · exact agg_bad op how k A N l.length c d ns w hN hl hd hz (by rw [hA, hC]; rfl)
    · cases ho : tksB op
      · exact agg_one op how k A N l c d ns w h hs hok hN hl hd hz hns ht hkn hA hC ho
      · exact agg_some op how k A N l c d ns w h hs hok hN hl hd hz hns ht hkn hA hC ho hb
end Go.Proofs.YtllhkegefinlbaaGreatDoor.Pt
