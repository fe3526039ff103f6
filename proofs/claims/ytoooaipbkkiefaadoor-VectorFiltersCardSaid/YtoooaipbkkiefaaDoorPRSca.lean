/- nameless, Map, the reference's. -/
import Derived.Test.YtoooaipbkkiefaaDoorPRNorm
import Derived.Test.YtoooaipbkkiefaaDoorPSca
namespace Go.Proofs.YtoooaipbkkiefaaDoor.Pt
open Go.RowKit Go.Sort
set_option maxRecDepth 100000
set_option maxHeartbeats 4000000
attribute [local irreducible] wpQuiet

theorem rnmls_any (A : Option Addr) (l : List Lb) (c : Nat) (w : World) (h : LabsAt w A l) (hl : l.length ≤ 1000) :
    Calls Tryd.prog 42 #[.slice A l.length c] w (FrPost (pickL l [nmB] false) w) := by
  have CD := Lib.hid (rDrop_any A (some ⟨w.heap.size, 0, none⟩) l [nmB] c 1 (w.alloc (.cells #[.string nmB] 9)) (h.gr ((Gr.refl w).alloc _ _)) (strs_one w nmB) (by omega) (by simp))
  clear h
  go_enter Tryd.func42, Tryd.ntmps42
  go_wp2_with fail
  refine CD.out.mono ?_
  rintro e w1 ⟨v1, rfl, hown, hg⟩
  obtain ⟨A1, c1, rfl, hl1, -⟩ := hown.form
  have HB1 : Hid (∀ b, (Value.slice A1 (pickL l [nmB] false).length c1).ownBlock = some b → w.heap.size ≤ b) := Lib.hid (fun b hb => by have := (hown.lt (k := b) hb).1; simp at this; omega)
  have HL1 := Lib.hid hl1
  have HG1 : Hid (Gr w w1) := Lib.hid (((Gr.refl w).alloc _ _).trans hg)
  clear hown hl1 hg
  go_wp2
  go_ret
  exact ⟨A1, c1, rfl, HL1.out, HG1.out, fun _ b hb => HB1.out b hb⟩
/-- one point more, its labels in new memory -/
theorem PSt.one {w W w4 w5 w7 : World} {v v7 : Value} {cs : List Pc} {l : List Pt} (h : PSt w W v cs l) (g4 : Gr W w4) (g5 : Gr w4 w5) {A : Option Addr} {c : Nat} {p : Pt} (hl : LabsAt w4 A p.1) (hf : 0 < p.1.length → ∀ b, (Value.slice A p.1.length c).ownBlock = some b → W.heap.size ≤ b)
    (ho : OwnT w7 w.heap.size v7 (cs ++ [((⟨A, p.1.length, c⟩, p.2) : Pc)])) (hg : w5.grownBy w7 v.ownBlock) (hv : v7.ownBlock = v.ownBlock ∨ v7.ownBlock = some w5.heap.size) : PSt w w7 v7 (cs ++ [((⟨A, p.1.length, c⟩, p.2) : Pc)]) (l ++ [p]) := by
  refine (h.gr (g4.trans g5)).app (r := [p]) (Rds.one ⟨rfl, rfl, hl.gr g5⟩) (fun j c' q hc hp h0 b hb e => ?_) ho hg hv
  match j, hc, hp with
  | 0, hc, hp =>
    obtain rfl : _ = c' := by simpa using hc
    obtain rfl : _ = q := by simpa using hp
    have h1 := hf h0 b hb
    have h2 := (h.row.lt e).2
    omega

theorem rmap_yes (fn : Int) (arg : Nat) (A : Option Addr) (l : List Pt) (c : Nat) (w : World) (h : PtsAt w A l) (hs : SmP l) (ho : Fv.fnOk fn = true) :
    Calls Tryd.prog 16 #[.slice A l.length c, .int .i64 fn, .float .f64 arg] w (VPost (norV (l.map (nmP fun x => Fv.fnV fn x arg))) (norE (l.map (nmP fun x => Fv.fnV fn x arg))) w) := by
  have HL := Lib.hid h; have HS := Lib.hid hs
  have hlen : l.length ≤ 1000 := hs.1
  have CF := Lib.hid (fun v W => Fv.rfn_any fn v arg W)
  have CF0 := Lib.hid (fun v W => Fv.rfn_any fn v 0 W)
  rw [ho] at CF CF0
  obtain ⟨L, hL⟩ : ∃ L, l.map (nmP fun x => Fv.fnV fn x arg) = L := ⟨_, rfl⟩
  have HM : Hid (SmP L) := Lib.hid (by rw [← hL]; exact hs.nm _)
  have HLL := Lib.hid hL
  rw [hL]
  clear h hs ho hL
  go_enter Tryd.func16, Tryd.ntmps16
  go_wp2_with fail
  refine (CF0.out 0 _).mono ?_
  rintro e w0 ⟨rfl, n0, rfl⟩
  go_wp2
  go_loopw [10, 11] (fun v i wr => ∃ (k : Nat) (cs : List Pc), k ≤ l.length ∧ i = .int .i64 k ∧ Hid (PSt w wr v cs ((l.take k).map (nmP fun x => Fv.fnV fn x arg)))) (fun _ i _ => l.length - (intOf i).toNat)
  case atStart => exact ⟨0, [], Nat.zero_le _, rfl, Lib.hid (PSt.none_ ((Gr.refl _).drewN _))⟩
  case round =>
    obtain ⟨k, cs, hk, rfl, HG⟩ := hrel
    by_cases hlt : k < l.length
    · have hg := HG.out.g
      obtain ⟨b, o, s1, n1, rfl, c1, c2, la1, hbl⟩ := (HL.out.gr hg).cell hlt
      have m1 := HS.out.at_ hlt
      obtain ⟨x, hx⟩ : ∃ x, l[k] = x := ⟨_, rfl⟩
      have HTK : Hid ((l.take (k + 1)).map (nmP fun x => Fv.fnV fn x arg) = (l.take k).map (nmP fun x => Fv.fnV fn x arg) ++ [nmP (fun x => Fv.fnV fn x arg) x]) := Lib.hid (by rw [List.take_succ_eq_append_getElem hlt, List.map_append, hx]; rfl)
      rw [hx] at c1 c2 la1 m1
      obtain ⟨x1, x2⟩ := x
      simp only at c1 c2 la1 m1
      have CN := Lib.hid (fun W (g : Gr wr W) => rnmls_any s1 x1 n1 W (la1.gr g) m1.1)
      have hcs : cs.length ≤ 1000 := by rw [HG.out.rds.len]; simp; omega
      have f4 : (k : Int) < (l.length : Int) := by omega
      have f5 : (0 : Int) ≤ (k : Int) := by omega
      have HC1 : Hid (∀ n, (wr.drewN n).cell? ⟨b, o + k * 2, none⟩ = some (.slice s1 x1.length n1)) := Lib.hid (fun n => c1)
      have CF1 := Lib.hid (CF.out x2 wr)
      obtain ⟨y, hy⟩ : ∃ y, Fv.fnV fn x2 arg = y := ⟨_, rfl⟩
      rw [hy] at CF1
      have HY : Hid (nmP (fun x => Fv.fnV fn x arg) (x1, x2) = (pickL x1 [nmB] false, y)) := Lib.hid (by unfold nmP; simp only [hy])
      clear hx la1 m1 hg hy
      go_wp2_with fail
      refine CF1.out.mono ?_
      rintro e w1 ⟨rfl, n1', rfl⟩
      have c1' := HC1.out n1'
      clear c1 c2
      go_wp2_with fail
      refine (CN.out _ ((Gr.refl _).drewN _)).mono ?_
      rintro e w4 ⟨A4, c4, rfl, hl4, g4, hf4⟩
      obtain ⟨z, hz⟩ : ∃ z, pickL x1 [nmB] false = z := ⟨_, rfl⟩
      rw [hz] at hl4 hf4 HY ⊢
      obtain ⟨w5, hw5, g5, hb5⟩ := fresh w4 #[.slice A4 z.length c4, .float .f64 y] 42
      have HGD := Lib.hid (HG.out.gr ((Gr.refl wr).drewN n1'))
      have HA5 := (run_appR1 (B := w.heap.size) (l := cs) ((⟨A4, z.length, c4⟩, y) : Pc) (HGD.out.gr (g4.trans g5)).row (hb5 0 _ rfl) (hb5 1 _ rfl) (by omega) (HGD.out.gr (g4.trans g5)).g.size)
      have HNX : Hid (∀ v7 w7, OwnT w7 w.heap.size v7 (cs ++ [((⟨A4, z.length, c4⟩, y) : Pc)]) → w5.grownBy w7 u10.ownBlock → (v7.ownBlock = u10.ownBlock ∨ v7.ownBlock = some w5.heap.size) → Hid (PSt w w7 v7 (cs ++ [((⟨A4, z.length, c4⟩, y) : Pc)]) ((l.take (k + 1)).map (nmP fun x => Fv.fnV fn x arg)))) := Lib.hid (fun v7 w7 ho hg hv => Lib.hid (by
        rw [HTK.out, HY.out]
        exact HGD.out.one g4 g5 (p := (z, y)) hl4 hf4 ho hg hv))
      rw [← hw5] at HA5 HNX
      have HA5 := Lib.hid HA5
      clear hl4 hf4 g4 g5 hb5 hw5 hz c1'
      go_wp2_with (at_builtin; refine wpList_app2 rfl (.tmp 38) (.tmp 47) (by rfl) (by rfl) (by rfl) (by rfl) HA5.out ?_; rintro v7 w7 ⟨ho7, hg7, hv7⟩)
      have HN := HNX.out v7 w7 ho7 hg7 hv7
      clear ho7 hg7 hv7
      go_roundw
      case rel => exact ⟨k + 1, _, by omega, by go_num, HN⟩
      case measure => simp [intOf]; omega
    · obtain rfl : k = l.length := by omega
      have hp := HG.out
      rw [List.take_length, HLL.out] at hp
      obtain ⟨A', c', rfl, hpt, -, -, -⟩ := hp.at_
      have HG1 := Lib.hid hp.g
      have CN := Lib.hid (rnormal_any A' L c' wr hpt HM.out)
      clear hp hpt HG
      go_wp2_with fail
      refine CN.out.mono ?_
      rintro e w4 ⟨A4, c4, rfl, hp4, h1, h2, g4⟩
      have HP4 := Lib.hid hp4
      clear hp4
      go_wp2
      go_ret2
      exact ⟨A4, c4, rfl, HP4.out, h1, h2, HG1.out.trans g4⟩
theorem rmap_no (fn : Int) (arg : Nat) (A : Option Addr) (n c : Nat) (w : World) (ho : Fv.fnOk fn = false) :
    Calls Tryd.prog 16 #[.slice A n c, .int .i64 fn, .float .f64 arg] w (VPost [] 1 w) := by
  have CF0 := Lib.hid (fun v W => Fv.rfn_any fn v 0 W)
  rw [ho] at CF0
  clear ho
  go_enter Tryd.func16, Tryd.ntmps16
  go_wp2_with fail
  refine (CF0.out 0 _).mono ?_
  rintro e w0 ⟨rfl, n0, rfl⟩
  go_wp2
  go_ret2
  exact ⟨none, 0, rfl, PtsAt.nil _ _, by simp, by unfold maxLen; omega, (Gr.refl _).drewN _⟩
end Go.Proofs.YtoooaipbkkiefaaDoor.Pt
/- Label, Scaled, the reference's. -/
namespace Go.Proofs.YtoooaipbkkiefaaDoor.Pt
open Go.RowKit Go.Sort
set_option maxRecDepth 100000
set_option maxHeartbeats 4000000
attribute [local irreducible] wpQuiet

theorem PSt.one2 {w W w4 w5 w7 : World} {v v7 : Value} {cs : List Pc} {l : List Pt} (h : PSt w W v cs l) (g4 : Gr W w4) (g5 : Gr w4 w5) {A : Option Addr} {c : Nat} {p : Pt} (hl : LabsAt w4 A p.1) (hf : 0 < p.1.length → ∀ b, (Value.slice A p.1.length c).ownBlock = some b → b < w.heap.size ∨ W.heap.size ≤ b)
    (ho : OwnT w7 w.heap.size v7 (cs ++ [((⟨A, p.1.length, c⟩, p.2) : Pc)])) (hg : w5.grownBy w7 v.ownBlock) (hv : v7.ownBlock = v.ownBlock ∨ v7.ownBlock = some w5.heap.size) : PSt w w7 v7 (cs ++ [((⟨A, p.1.length, c⟩, p.2) : Pc)]) (l ++ [p]) := by
  refine (h.gr (g4.trans g5)).app (r := [p]) (Rds.one ⟨rfl, rfl, hl.gr g5⟩) (fun j c' q hc hp h0 b hb e => ?_) ho hg hv
  match j, hc, hp with
  | 0, hc, hp =>
    obtain rfl : _ = c' := by simpa using hc
    obtain rfl : _ = q := by simpa using hp
    have h1 := hf h0 b hb
    have h2 := h.row.lt e
    omega
theorem lab_lt {W : World} {A : Option Addr} {l : List Lb} {n c b : Nat} (h : LabsAt W A l) (h0 : 0 < l.length) (hb : (Value.slice A n c).ownBlock = some b) : b < W.heap.size := by
  obtain ⟨b', o, rfl, hc⟩ := h h0
  have e : some b' = some b := hb
  injection e with e
  subst e
  exact World.block_lt_of_cell? W _ (hc 0 _ (List.getElem?_eq_getElem h0)).1
theorem rlabel_yes (nm vl : ByteArray) (A : Option Addr) (l : List Pt) (c : Nat) (w : World) (h : PtsAt w A l) (hs : SmP l) (h1 : nm.size ≤ maxLen) (ho : lokB nm vl = true) :
    Calls Tryd.prog 20 #[.slice A l.length c, .string nm, .string vl] w (VPost (norV (l.map (labP nm vl))) (norE (l.map (labP nm vl))) w) := by
  unfold lokB at ho
  rw [Bool.and_eq_true, decide_eq_true_eq] at ho
  obtain ⟨ho, hv⟩ := ho
  have hv2 : vl.size ≤ maxLen := by unfold maxLen; omega
  have HL := Lib.hid h; have HS := Lib.hid hs
  have hlen : l.length ≤ 1000 := hs.1
  have CNM := Lib.hid (fun W => rName_any nm W h1)
  rw [ho] at CNM
  obtain ⟨L, hL⟩ : ∃ L, l.map (labP nm vl) = L := ⟨_, rfl⟩
  have HM : Hid (SmP L) := Lib.hid (by rw [← hL]; exact hs.map fun p hp => (hs.2 p hp).with_ h1 hv2)
  have HLL := Lib.hid hL
  have H1 := Lib.hid h1; have H2 := Lib.hid hv2
  rw [hL]
  clear h hs ho hL h1 hv2
  go_enter Tryd.func20, Tryd.ntmps20
  go_wp2_with fail
  refine (CNM.out _).mono ?_
  rintro e w0 ⟨rfl, rfl⟩
  go_wp2
  go_loopw [8, 9] (fun v i wr => ∃ (k : Nat) (cs : List Pc), k ≤ l.length ∧ i = .int .i64 k ∧ Hid (PSt w wr v cs ((l.take k).map (labP nm vl)))) (fun _ i _ => l.length - (intOf i).toNat)
  case atStart => exact ⟨0, [], Nat.zero_le _, rfl, Lib.hid (PSt.none_ (Gr.refl _))⟩
  case round =>
    obtain ⟨k, cs, hk, rfl, HG⟩ := hrel
    by_cases hlt : k < l.length
    · have hg := HG.out.g
      obtain ⟨b, o, s1, n1, rfl, c1, c2, la1, hbl⟩ := HL.out.cell hlt
      have m1 := HS.out.at_ hlt
      obtain ⟨x, hx⟩ : ∃ x, l[k] = x := ⟨_, rfl⟩
      have HTK : Hid ((l.take (k + 1)).map (labP nm vl) = (l.take k).map (labP nm vl) ++ [labP nm vl x]) := Lib.hid (by rw [List.take_succ_eq_append_getElem hlt, List.map_append, hx]; rfl)
      rw [hx] at c1 c2 la1 m1
      obtain ⟨x1, x2⟩ := x
      simp only at c1 c2 la1 m1
      have CW := Lib.hid (fun W (g : Gr wr W) => rWithF_any s1 x1 n1 nm vl W ((la1.gr hg).gr g) m1.2 (by have := m1.1; omega) H1.out H2.out)
      have hcs : cs.length ≤ 1000 := by rw [HG.out.rds.len]; simp; omega
      have f4 : (k : Int) < (l.length : Int) := by omega
      have f5 : (0 : Int) ≤ (k : Int) := by omega
      have d1 := hg.cell c1
      have d2 := hg.cell c2
      have HLA := Lib.hid la1
      have HNE : Hid (some b ≠ u8.ownBlock) := Lib.hid (fun e => by have := (HG.out.row.lt e.symm).1; omega)
      obtain ⟨z, hz⟩ : ∃ z, withL x1 nm vl = z := ⟨_, rfl⟩
      have HY : Hid (labP nm vl (x1, x2) = (z, x2)) := Lib.hid (by unfold labP; rw [hz])
      rw [hz] at CW
      clear hx la1 m1 hg hz c1 c2 hbl
      go_wp2_with fail
      go_region_held3 (fun w' => w'.cell? ⟨b, o + k * 2, none⟩ = some (.slice s1 x1.length n1) ∧ w'.cell? ⟨b, o + k * 2 + 1, none⟩ = some (.float .f64 x2))
        (first | exact ks7 | exact ks4 | exact ⟨d1, d2⟩ | go_keep)
        (first
          | (go_simp
             go_at_call 56
             refine (CW.out _ (Gr.refl _).drew).mono ?_
             rintro e w4 ⟨A4, c4, rfl, hl4, g4, hf4⟩
             have gl5 : Gr wr w4 := (Gr.refl _).drew.trans g4
             have ks4 : w4.cell? ⟨b, o + k * 2, none⟩ = some (.slice s1 x1.length n1) ∧ w4.cell? ⟨b, o + k * 2 + 1, none⟩ = some (.float .f64 x2) := ⟨gl5.cell d1, gl5.cell d2⟩)
          | (refine step_app2 rfl (.tmp 24) (.tmp 39) (by rfl) (by rfl) (by rfl) (by rfl) (run_appR1 (B := w.heap.size) (l := cs) ((⟨A4, z.length, c4⟩, x2) : Pc) ?_ ?_ ?_ ?_ ?_) ?_
             · exact (HG.out.gr (gl5.alloc _ _)).row
             · show _ = some (Value.slice A4 z.length c4)
               go_simp
             · show _ = some (Value.float .f64 x2)
               go_simp
             · omega
             · exact (HG.out.gr (gl5.alloc _ _)).g.size
             rintro v7 w7 ⟨ho7, hg7, hv7⟩
             have ks7 : w7.cell? ⟨b, o + k * 2, none⟩ = some (.slice s1 x1.length n1) ∧ w7.cell? ⟨b, o + k * 2 + 1, none⟩ = some (.float .f64 x2) := ⟨hg7.cell (((Gr.refl _).alloc _ _).cell ks4.1) HNE.out, hg7.cell (((Gr.refl _).alloc _ _).cell ks4.2) HNE.out⟩))
      all_goals
        have HN : Hid (PSt w w7 v7 (cs ++ [((⟨A4, z.length, c4⟩, x2) : Pc)]) ((l.take (k + 1)).map (labP nm vl))) := Lib.hid (by
          rw [HTK.out, HY.out]
          refine HG.out.one2 gl5 ((Gr.refl _).alloc _ _) (p := (z, x2)) hl4 (fun h0 q hq => ?_) ho7 hg7 hv7
          rcases hf4 with ⟨e1, e2⟩ | hf4
          · left
            subst e1
            exact lab_lt HLA.out (by rw [← e2]; exact h0) hq
          · right
            have h3 : wr.drew.heap.size = wr.heap.size := rfl
            have := hf4 q hq
            omega)
        clear ho7 hg7 hv7 ks7 ks4 hf4 hl4 g4 gl5
        go_wp2_with fail
        go_roundw
        case rel => exact ⟨k + 1, _, by omega, by go_num, HN⟩
        case measure => simp [intOf]; omega
    · obtain rfl : k = l.length := by omega
      have hp := HG.out
      rw [List.take_length, HLL.out] at hp
      obtain ⟨A', c', rfl, hpt, -, -, -⟩ := hp.at_
      have HG1 := Lib.hid hp.g
      have CN := Lib.hid (rnormal_any A' L c' wr hpt HM.out)
      clear hp hpt HG
      go_wp2_with fail
      refine CN.out.mono ?_
      rintro e w4 ⟨A4, c4, rfl, hp4, h1, h2, g4⟩
      have HP4 := Lib.hid hp4
      clear hp4
      go_wp2
      go_ret2
      exact ⟨A4, c4, rfl, HP4.out, h1, h2, HG1.out.trans g4⟩
theorem rlabel_no (nm vl : ByteArray) (A : Option Addr) (n c : Nat) (w : World) (h1 : nm.size ≤ maxLen) (ho : lokB nm vl = false) (hvl : vl.size ≤ maxLen) :
    Calls Tryd.prog 20 #[.slice A n c, .string nm, .string vl] w (VPost [] 1 w) := by
  have CNM := Lib.hid (fun W => rName_any nm W h1)
  unfold maxLen at hvl
  cases hn : nameB nm
  · rw [hn] at CNM
    clear hn ho h1
    go_enter Tryd.func20, Tryd.ntmps20
    go_wp2_with fail
    refine (CNM.out _).mono ?_
    rintro e w0 ⟨rfl, rfl⟩
    go_wp2
    go_ret2
    exact ⟨none, 0, rfl, PtsAt.nil _ _, by simp, by unfold maxLen; omega, Gr.refl _⟩
  · have hv : 256 < vl.size := by simpa [lokB, hn] using ho
    rw [hn] at CNM
    clear hn ho h1
    go_enter Tryd.func20, Tryd.ntmps20
    go_wp2_with fail
    refine (CNM.out _).mono ?_
    rintro e w0 ⟨rfl, rfl⟩
    go_wp2
    go_ret2
    exact ⟨none, 0, rfl, PtsAt.nil _ _, by simp, by unfold maxLen; omega, Gr.refl _⟩
end Go.Proofs.YtoooaipbkkiefaaDoor.Pt
/- Scaled, the reference's. -/
namespace Go.Proofs.YtoooaipbkkiefaaDoor.Pt
open Go.RowKit Go.Sort
set_option maxRecDepth 100000
set_option maxHeartbeats 8000000
attribute [local irreducible] wpQuiet

theorem whP_sm {l : List Pt} (h : SmP l) (f : Nat → Bool) : SmP (whP f l) := h.sub (whP_len f l) fun p hp => ⟨p, (List.mem_filter.1 hp).1, rfl⟩
theorem rscaled_fil (op : Int) (x : Nat) (left : Bool) (A : Option Addr) (l : List Pt) (c : Nat) (w : World) (h : PtsAt w A l) (hs : SmP l) (ho : 5 ≤ op ∧ op ≤ 10) :
    Calls Tryd.prog 18 #[.slice A l.length c, .int .i64 op, .float .f64 x, .bool left, .bool false] w (VPost (norV (scW op left x l)) (norE (scW op left x l)) w) := by
  obtain ⟨h1, h2⟩ := ho
  have h3 : 1 ≤ op := by omega
  have HL := Lib.hid h; have HS := Lib.hid hs
  have hlen : l.length ≤ 1000 := hs.1
  obtain ⟨L, hL⟩ : ∃ L, scW op left x l = L := ⟨_, rfl⟩
  have HM : Hid (SmP L) := Lib.hid (by rw [← hL]; exact whP_sm hs _)
  have HLL : Hid (whP (fun y => Fv.holdsB op (sdA left x y) (sdB left x y)) l = L) := Lib.hid hL
  rw [hL]
  clear h hs hL
  cases left
  · go_enter Tryd.func18, Tryd.ntmps18
    go_wp2
    go_loopw [12, 13] (fun v i wr => ∃ (k : Nat) (cs : List Pc), k ≤ l.length ∧ i = .int .i64 k ∧ Hid (PSt w wr v cs (whP (fun y => Fv.holdsB op (sdA false x y) (sdB false x y)) (l.take k)))) (fun _ i _ => l.length - (intOf i).toNat)
    case atStart => exact ⟨0, [], Nat.zero_le _, rfl, Lib.hid (PSt.none_ (Gr.refl _))⟩
    case round =>
      obtain ⟨k, cs, hk, rfl, HG⟩ := hrel
      by_cases hlt : k < l.length
      · have hg := HG.out.g
        obtain ⟨b, o, s1, n1, rfl, c1, c2, la1, hbl⟩ := HL.out.cell hlt
        have HTK := Lib.hid (whP_take (f := fun y => Fv.holdsB op (sdA false x y) (sdB false x y)) hlt)
        obtain ⟨p, hx⟩ : ∃ p, l[k] = p := ⟨_, rfl⟩
        rw [hx] at c1 c2 la1 HTK
        obtain ⟨x1, x2⟩ := p
        simp only at c1 c2 la1
        have hcs : cs.length ≤ 1000 := by have h1 := HG.out.rds.len; have h2 := whP_len (fun y => Fv.holdsB op (sdA false x y) (sdB false x y)) (l.take k); have h3 : (l.take k).length ≤ l.length := List.length_take_le' ..; omega
        have f4 : (k : Int) < (l.length : Int) := by omega
        have f5 : (0 : Int) ≤ (k : Int) := by omega
        have d1 := hg.cell c1
        have d2 := hg.cell c2
        have HLA := Lib.hid la1
        have CH := Lib.hid (fun W => Fv.rholds_any op x2 x W)
        obtain ⟨t, ht⟩ : ∃ t, Fv.holdsB op x2 x = t := ⟨_, rfl⟩
        rw [ht] at CH
        have HTK2 : Hid (whP (fun y => Fv.holdsB op (sdA false x y) (sdB false x y)) (l.take (k + 1)) = whP (fun y => Fv.holdsB op (sdA false x y) (sdB false x y)) (l.take k) ++ if t then [(x1, x2)] else []) := Lib.hid (by rw [HTK.out, ← ht]; rfl)
        clear hx la1 hg c1 c2 hbl HTK ht
        cases t
        · have HN : Hid (whP (fun y => Fv.holdsB op (sdA false x y) (sdB false x y)) (l.take (k + 1)) = whP (fun y => Fv.holdsB op (sdA false x y) (sdB false x y)) (l.take k)) := Lib.hid (by rw [HTK2.out]; simp)
          go_wp2_with fail
          refine (CH.out _).mono ?_
          rintro e w1 ⟨rfl, rfl⟩
          go_wp2
          go_roundw
          case rel => exact ⟨k + 1, cs, by omega, by go_num, Lib.hid (by rw [HN.out]; exact HG.out)⟩
          case measure => simp [intOf]; omega
        · obtain ⟨w5, hw5, g5, hb5⟩ := fresh wr #[.slice s1 x1.length n1, .float .f64 x2] 42
          have HA5 := (run_appR1 (B := w.heap.size) (l := cs) ((⟨s1, x1.length, n1⟩, x2) : Pc) (HG.out.gr g5).row (hb5 0 _ rfl) (hb5 1 _ rfl) (by omega) (HG.out.gr g5).g.size)
          have HNX : Hid (∀ v7 w7, OwnT w7 w.heap.size v7 (cs ++ [((⟨s1, x1.length, n1⟩, x2) : Pc)]) → w5.grownBy w7 u12.ownBlock → (v7.ownBlock = u12.ownBlock ∨ v7.ownBlock = some w5.heap.size) → Hid (PSt w w7 v7 (cs ++ [((⟨s1, x1.length, n1⟩, x2) : Pc)]) (whP (fun y => Fv.holdsB op (sdA false x y) (sdB false x y)) (l.take (k + 1))))) := Lib.hid (fun v7 w7 ho hg hv => Lib.hid (by
            rw [HTK2.out, if_pos rfl]
            exact HG.out.one2 (Gr.refl _) g5 (p := (x1, x2)) (HLA.out.gr HG.out.g) (fun h0 q hq => .inl (lab_lt HLA.out h0 hq)) ho hg hv))
          rw [← hw5] at HA5 HNX
          have HA5 := Lib.hid HA5
          clear g5 hb5 hw5
          go_wp2_with fail
          refine (CH.out _).mono ?_
          rintro e w1 ⟨rfl, rfl⟩
          go_wp2_with (at_builtin; refine wpList_app2 rfl (.tmp 53) (.tmp 58) (by rfl) (by rfl) (by rfl) (by rfl) HA5.out ?_; rintro v7 w7 ⟨ho7, hg7, hv7⟩)
          have HN := HNX.out v7 w7 ho7 hg7 hv7
          clear ho7 hg7 hv7
          go_roundw
          case rel => exact ⟨k + 1, _, by omega, by go_num, HN⟩
          case measure => simp [intOf]; omega
      · obtain rfl : k = l.length := by omega
        have hp := HG.out
        rw [List.take_length, HLL.out] at hp
        obtain ⟨A', c', rfl, hpt, -, -, -⟩ := hp.at_
        have HG1 := Lib.hid hp.g
        have CN := Lib.hid (rnormal_any A' L c' wr hpt HM.out)
        clear hp hpt HG
        go_wp2_with fail
        refine CN.out.mono ?_
        rintro e w4 ⟨A4, c4, rfl, hp4, h1, h2, g4⟩
        have HP4 := Lib.hid hp4
        clear hp4
        go_wp2
        go_ret2
        exact ⟨A4, c4, rfl, HP4.out, h1, h2, HG1.out.trans g4⟩
  · go_enter Tryd.func18, Tryd.ntmps18
    go_wp2
    go_loopw [12, 13] (fun v i wr => ∃ (k : Nat) (cs : List Pc), k ≤ l.length ∧ i = .int .i64 k ∧ Hid (PSt w wr v cs (whP (fun y => Fv.holdsB op (sdA true x y) (sdB true x y)) (l.take k)))) (fun _ i _ => l.length - (intOf i).toNat)
    case atStart => exact ⟨0, [], Nat.zero_le _, rfl, Lib.hid (PSt.none_ (Gr.refl _))⟩
    case round =>
      obtain ⟨k, cs, hk, rfl, HG⟩ := hrel
      by_cases hlt : k < l.length
      · have hg := HG.out.g
        obtain ⟨b, o, s1, n1, rfl, c1, c2, la1, hbl⟩ := HL.out.cell hlt
        have HTK := Lib.hid (whP_take (f := fun y => Fv.holdsB op (sdA true x y) (sdB true x y)) hlt)
        obtain ⟨p, hx⟩ : ∃ p, l[k] = p := ⟨_, rfl⟩
        rw [hx] at c1 c2 la1 HTK
        obtain ⟨x1, x2⟩ := p
        simp only at c1 c2 la1
        have hcs : cs.length ≤ 1000 := by have h1 := HG.out.rds.len; have h2 := whP_len (fun y => Fv.holdsB op (sdA true x y) (sdB true x y)) (l.take k); have h3 : (l.take k).length ≤ l.length := List.length_take_le' ..; omega
        have f4 : (k : Int) < (l.length : Int) := by omega
        have f5 : (0 : Int) ≤ (k : Int) := by omega
        have d1 := hg.cell c1
        have d2 := hg.cell c2
        have HLA := Lib.hid la1
        have CH := Lib.hid (fun W => Fv.rholds_any op x x2 W)
        obtain ⟨t, ht⟩ : ∃ t, Fv.holdsB op x x2 = t := ⟨_, rfl⟩
        rw [ht] at CH
        have HTK2 : Hid (whP (fun y => Fv.holdsB op (sdA true x y) (sdB true x y)) (l.take (k + 1)) = whP (fun y => Fv.holdsB op (sdA true x y) (sdB true x y)) (l.take k) ++ if t then [(x1, x2)] else []) := Lib.hid (by rw [HTK.out, ← ht]; rfl)
        clear hx la1 hg c1 c2 hbl HTK ht
        cases t
        · have HN : Hid (whP (fun y => Fv.holdsB op (sdA true x y) (sdB true x y)) (l.take (k + 1)) = whP (fun y => Fv.holdsB op (sdA true x y) (sdB true x y)) (l.take k)) := Lib.hid (by rw [HTK2.out]; simp)
          go_wp2_with fail
          refine (CH.out _).mono ?_
          rintro e w1 ⟨rfl, rfl⟩
          go_wp2
          go_roundw
          case rel => exact ⟨k + 1, cs, by omega, by go_num, Lib.hid (by rw [HN.out]; exact HG.out)⟩
          case measure => simp [intOf]; omega
        · obtain ⟨w5, hw5, g5, hb5⟩ := fresh wr #[.slice s1 x1.length n1, .float .f64 x2] 42
          have HA5 := (run_appR1 (B := w.heap.size) (l := cs) ((⟨s1, x1.length, n1⟩, x2) : Pc) (HG.out.gr g5).row (hb5 0 _ rfl) (hb5 1 _ rfl) (by omega) (HG.out.gr g5).g.size)
          have HNX : Hid (∀ v7 w7, OwnT w7 w.heap.size v7 (cs ++ [((⟨s1, x1.length, n1⟩, x2) : Pc)]) → w5.grownBy w7 u12.ownBlock → (v7.ownBlock = u12.ownBlock ∨ v7.ownBlock = some w5.heap.size) → Hid (PSt w w7 v7 (cs ++ [((⟨s1, x1.length, n1⟩, x2) : Pc)]) (whP (fun y => Fv.holdsB op (sdA true x y) (sdB true x y)) (l.take (k + 1))))) := Lib.hid (fun v7 w7 ho hg hv => Lib.hid (by
            rw [HTK2.out, if_pos rfl]
            exact HG.out.one2 (Gr.refl _) g5 (p := (x1, x2)) (HLA.out.gr HG.out.g) (fun h0 q hq => .inl (lab_lt HLA.out h0 hq)) ho hg hv))
          rw [← hw5] at HA5 HNX
          have HA5 := Lib.hid HA5
          clear g5 hb5 hw5
          go_wp2_with fail
          refine (CH.out _).mono ?_
          rintro e w1 ⟨rfl, rfl⟩
          go_wp2_with (at_builtin; refine wpList_app2 rfl (.tmp 53) (.tmp 58) (by rfl) (by rfl) (by rfl) (by rfl) HA5.out ?_; rintro v7 w7 ⟨ho7, hg7, hv7⟩)
          have HN := HNX.out v7 w7 ho7 hg7 hv7
          clear ho7 hg7 hv7
          go_roundw
          case rel => exact ⟨k + 1, _, by omega, by go_num, HN⟩
          case measure => simp [intOf]; omega
      · obtain rfl : k = l.length := by omega
        have hp := HG.out
        rw [List.take_length, HLL.out] at hp
        obtain ⟨A', c', rfl, hpt, -, -, -⟩ := hp.at_
        have HG1 := Lib.hid hp.g
        have CN := Lib.hid (rnormal_any A' L c' wr hpt HM.out)
        clear hp hpt HG
        go_wp2_with fail
        refine CN.out.mono ?_
        rintro e w4 ⟨A4, c4, rfl, hp4, h1, h2, g4⟩
        have HP4 := Lib.hid hp4
        clear hp4
        go_wp2
        go_ret2
        exact ⟨A4, c4, rfl, HP4.out, h1, h2, HG1.out.trans g4⟩
theorem rscaled_opf (op : Int) (x : Nat) (left : Bool) (A : Option Addr) (l : List Pt) (c : Nat) (w : World) (h : PtsAt w A l) (hs : SmP l) (ho : 1 ≤ op ∧ op ≤ 4) :
    Calls Tryd.prog 18 #[.slice A l.length c, .int .i64 op, .float .f64 x, .bool left, .bool false] w (VPost (norV (l.map (scF op left x))) (norE (l.map (scF op left x))) w) := by
  obtain ⟨h1, h2⟩ := ho
  have h3 : op ≤ 10 := by omega
  have h5 : op < 5 := by omega
  have HL := Lib.hid h; have HS := Lib.hid hs
  have hlen : l.length ≤ 1000 := hs.1
  obtain ⟨L, hL⟩ : ∃ L, l.map (scF op left x) = L := ⟨_, rfl⟩
  have HM : Hid (SmP L) := Lib.hid (by rw [← hL]; exact hs.nm (fun y => Fv.opV op (sdA left x y) (sdB left x y)))
  have HLL := Lib.hid hL
  rw [hL]
  clear h hs hL
  cases left
  · go_enter Tryd.func18, Tryd.ntmps18
    go_wp2
    go_loopw [12, 13] (fun v i wr => ∃ (k : Nat) (cs : List Pc), k ≤ l.length ∧ i = .int .i64 k ∧ Hid (PSt w wr v cs ((l.take k).map (scF op false x)))) (fun _ i _ => l.length - (intOf i).toNat)
    case atStart => exact ⟨0, [], Nat.zero_le _, rfl, Lib.hid (PSt.none_ (Gr.refl _))⟩
    case round =>
      obtain ⟨k, cs, hk, rfl, HG⟩ := hrel
      by_cases hlt : k < l.length
      · have hg := HG.out.g
        obtain ⟨b, o, s1, n1, rfl, c1, c2, la1, hbl⟩ := (HL.out.gr hg).cell hlt
        have m1 := HS.out.at_ hlt
        obtain ⟨p, hx⟩ : ∃ p, l[k] = p := ⟨_, rfl⟩
        have HTK : Hid ((l.take (k + 1)).map (scF op false x) = (l.take k).map (scF op false x) ++ [scF op false x p]) := Lib.hid (by rw [List.take_succ_eq_append_getElem hlt, List.map_append, hx]; rfl)
        rw [hx] at c1 c2 la1 m1
        obtain ⟨x1, x2⟩ := p
        simp only at c1 c2 la1 m1
        have CN := Lib.hid (fun W (g : Gr wr W) => rnmls_any s1 x1 n1 W (la1.gr g) m1.1)
        have hcs : cs.length ≤ 1000 := by rw [HG.out.rds.len]; simp; omega
        have f4 : (k : Int) < (l.length : Int) := by omega
        have f5 : (0 : Int) ≤ (k : Int) := by omega
        have HC1 : Hid (∀ n, (wr.drewN n).cell? ⟨b, o + k * 2, none⟩ = some (.slice s1 x1.length n1)) := Lib.hid (fun n => c1)
        have CF1 := Lib.hid (fun W => Fv.rop_any op x2 x W)
        obtain ⟨y, hy⟩ : ∃ y, Fv.opV op x2 x = y := ⟨_, rfl⟩
        obtain ⟨q, hq⟩ : ∃ q, Fv.opOk op = q := ⟨_, rfl⟩
        rw [hy, hq] at CF1
        have HY : Hid (scF op false x (x1, x2) = (pickL x1 [nmB] false, y)) := Lib.hid (by rw [← hy]; rfl)
        clear hx la1 m1 hg hy hq
        go_wp2_with fail
        refine (CF1.out _).mono ?_
        rintro e w1 ⟨rfl, n1', rfl⟩
        have c1' := HC1.out n1'
        clear c1 c2
        go_wp2_with fail
        refine (CN.out _ ((Gr.refl _).drewN _)).mono ?_
        rintro e w4 ⟨A4, c4, rfl, hl4, g4, hf4⟩
        obtain ⟨z, hz⟩ : ∃ z, pickL x1 [nmB] false = z := ⟨_, rfl⟩
        rw [hz] at hl4 hf4 HY ⊢
        obtain ⟨w5, hw5, g5, hb5⟩ := fresh w4 #[.slice A4 z.length c4, .float .f64 y] 42
        have HGD := Lib.hid (HG.out.gr ((Gr.refl wr).drewN n1'))
        have HA5 := (run_appR1 (B := w.heap.size) (l := cs) ((⟨A4, z.length, c4⟩, y) : Pc) (HGD.out.gr (g4.trans g5)).row (hb5 0 _ rfl) (hb5 1 _ rfl) (by omega) (HGD.out.gr (g4.trans g5)).g.size)
        have HNX : Hid (∀ v7 w7, OwnT w7 w.heap.size v7 (cs ++ [((⟨A4, z.length, c4⟩, y) : Pc)]) → w5.grownBy w7 u12.ownBlock → (v7.ownBlock = u12.ownBlock ∨ v7.ownBlock = some w5.heap.size) → Hid (PSt w w7 v7 (cs ++ [((⟨A4, z.length, c4⟩, y) : Pc)]) ((l.take (k + 1)).map (scF op false x)))) := Lib.hid (fun v7 w7 ho hg hv => Lib.hid (by
          rw [HTK.out, HY.out]
          exact HGD.out.one g4 g5 (p := (z, y)) hl4 hf4 ho hg hv))
        rw [← hw5] at HA5 HNX
        have HA5 := Lib.hid HA5
        clear hl4 hf4 g4 g5 hb5 hw5 hz c1'
        go_wp2_with (at_builtin; refine wpList_app2 rfl (.tmp 67) (.tmp 76) (by rfl) (by rfl) (by rfl) (by rfl) HA5.out ?_; rintro v7 w7 ⟨ho7, hg7, hv7⟩)
        have HN := HNX.out v7 w7 ho7 hg7 hv7
        clear ho7 hg7 hv7
        go_roundw
        case rel => exact ⟨k + 1, _, by omega, by go_num, HN⟩
        case measure => simp [intOf]; omega
      · obtain rfl : k = l.length := by omega
        have hp := HG.out
        rw [List.take_length, HLL.out] at hp
        obtain ⟨A', c', rfl, hpt, -, -, -⟩ := hp.at_
        have HG1 := Lib.hid hp.g
        have CN := Lib.hid (rnormal_any A' L c' wr hpt HM.out)
        clear hp hpt HG
        go_wp2_with fail
        refine CN.out.mono ?_
        rintro e w4 ⟨A4, c4, rfl, hp4, h1, h2, g4⟩
        have HP4 := Lib.hid hp4
        clear hp4
        go_wp2
        go_ret2
        exact ⟨A4, c4, rfl, HP4.out, h1, h2, HG1.out.trans g4⟩
  · go_enter Tryd.func18, Tryd.ntmps18
    go_wp2
    go_loopw [12, 13] (fun v i wr => ∃ (k : Nat) (cs : List Pc), k ≤ l.length ∧ i = .int .i64 k ∧ Hid (PSt w wr v cs ((l.take k).map (scF op true x)))) (fun _ i _ => l.length - (intOf i).toNat)
    case atStart => exact ⟨0, [], Nat.zero_le _, rfl, Lib.hid (PSt.none_ (Gr.refl _))⟩
    case round =>
      obtain ⟨k, cs, hk, rfl, HG⟩ := hrel
      by_cases hlt : k < l.length
      · have hg := HG.out.g
        obtain ⟨b, o, s1, n1, rfl, c1, c2, la1, hbl⟩ := (HL.out.gr hg).cell hlt
        have m1 := HS.out.at_ hlt
        obtain ⟨p, hx⟩ : ∃ p, l[k] = p := ⟨_, rfl⟩
        have HTK : Hid ((l.take (k + 1)).map (scF op true x) = (l.take k).map (scF op true x) ++ [scF op true x p]) := Lib.hid (by rw [List.take_succ_eq_append_getElem hlt, List.map_append, hx]; rfl)
        rw [hx] at c1 c2 la1 m1
        obtain ⟨x1, x2⟩ := p
        simp only at c1 c2 la1 m1
        have CN := Lib.hid (fun W (g : Gr wr W) => rnmls_any s1 x1 n1 W (la1.gr g) m1.1)
        have hcs : cs.length ≤ 1000 := by rw [HG.out.rds.len]; simp; omega
        have f4 : (k : Int) < (l.length : Int) := by omega
        have f5 : (0 : Int) ≤ (k : Int) := by omega
        have HC1 : Hid (∀ n, (wr.drewN n).cell? ⟨b, o + k * 2, none⟩ = some (.slice s1 x1.length n1)) := Lib.hid (fun n => c1)
        have CF1 := Lib.hid (fun W => Fv.rop_any op x x2 W)
        obtain ⟨y, hy⟩ : ∃ y, Fv.opV op x x2 = y := ⟨_, rfl⟩
        obtain ⟨q, hq⟩ : ∃ q, Fv.opOk op = q := ⟨_, rfl⟩
        rw [hy, hq] at CF1
        have HY : Hid (scF op true x (x1, x2) = (pickL x1 [nmB] false, y)) := Lib.hid (by rw [← hy]; rfl)
        clear hx la1 m1 hg hy hq
        go_wp2_with fail
        refine (CF1.out _).mono ?_
        rintro e w1 ⟨rfl, n1', rfl⟩
        have c1' := HC1.out n1'
        clear c1 c2
        go_wp2_with fail
        refine (CN.out _ ((Gr.refl _).drewN _)).mono ?_
        rintro e w4 ⟨A4, c4, rfl, hl4, g4, hf4⟩
        obtain ⟨z, hz⟩ : ∃ z, pickL x1 [nmB] false = z := ⟨_, rfl⟩
        rw [hz] at hl4 hf4 HY ⊢
        obtain ⟨w5, hw5, g5, hb5⟩ := fresh w4 #[.slice A4 z.length c4, .float .f64 y] 42
        have HGD := Lib.hid (HG.out.gr ((Gr.refl wr).drewN n1'))
        have HA5 := (run_appR1 (B := w.heap.size) (l := cs) ((⟨A4, z.length, c4⟩, y) : Pc) (HGD.out.gr (g4.trans g5)).row (hb5 0 _ rfl) (hb5 1 _ rfl) (by omega) (HGD.out.gr (g4.trans g5)).g.size)
        have HNX : Hid (∀ v7 w7, OwnT w7 w.heap.size v7 (cs ++ [((⟨A4, z.length, c4⟩, y) : Pc)]) → w5.grownBy w7 u12.ownBlock → (v7.ownBlock = u12.ownBlock ∨ v7.ownBlock = some w5.heap.size) → Hid (PSt w w7 v7 (cs ++ [((⟨A4, z.length, c4⟩, y) : Pc)]) ((l.take (k + 1)).map (scF op true x)))) := Lib.hid (fun v7 w7 ho hg hv => Lib.hid (by
          rw [HTK.out, HY.out]
          exact HGD.out.one g4 g5 (p := (z, y)) hl4 hf4 ho hg hv))
        rw [← hw5] at HA5 HNX
        have HA5 := Lib.hid HA5
        clear hl4 hf4 g4 g5 hb5 hw5 hz c1'
        go_wp2_with (at_builtin; refine wpList_app2 rfl (.tmp 67) (.tmp 76) (by rfl) (by rfl) (by rfl) (by rfl) HA5.out ?_; rintro v7 w7 ⟨ho7, hg7, hv7⟩)
        have HN := HNX.out v7 w7 ho7 hg7 hv7
        clear ho7 hg7 hv7
        go_roundw
        case rel => exact ⟨k + 1, _, by omega, by go_num, HN⟩
        case measure => simp [intOf]; omega
      · obtain rfl : k = l.length := by omega
        have hp := HG.out
        rw [List.take_length, HLL.out] at hp
        obtain ⟨A', c', rfl, hpt, -, -, -⟩ := hp.at_
        have HG1 := Lib.hid hp.g
        have CN := Lib.hid (rnormal_any A' L c' wr hpt HM.out)
        clear hp hpt HG
        go_wp2_with fail
        refine CN.out.mono ?_
        rintro e w4 ⟨A4, c4, rfl, hp4, h1, h2, g4⟩
        have HP4 := Lib.hid hp4
        clear hp4
        go_wp2
        go_ret2
        exact ⟨A4, c4, rfl, HP4.out, h1, h2, HG1.out.trans g4⟩
theorem rscaled_opt1 (op : Int) (x : Nat) (left : Bool) (A : Option Addr) (l : List Pt) (c : Nat) (w : World) (h : PtsAt w A l) (hs : SmP l) (ho : 1 ≤ op ∧ op ≤ 4) :
    Calls Tryd.prog 18 #[.slice A l.length c, .int .i64 op, .float .f64 x, .bool left, .bool true] w (VPost (norV (l.map (scF op left x))) (norE (l.map (scF op left x))) w) := by
  obtain ⟨h1, h2⟩ := ho
  have h3 : op ≤ 10 := by omega
  have h5 : op < 5 := by omega
  have HL := Lib.hid h; have HS := Lib.hid hs
  have hlen : l.length ≤ 1000 := hs.1
  obtain ⟨L, hL⟩ : ∃ L, l.map (scF op left x) = L := ⟨_, rfl⟩
  have HM : Hid (SmP L) := Lib.hid (by rw [← hL]; exact hs.nm (fun y => Fv.opV op (sdA left x y) (sdB left x y)))
  have HLL := Lib.hid hL
  rw [hL]
  clear h hs hL
  cases left
  · go_enter Tryd.func18, Tryd.ntmps18
    go_wp2
    go_loopw [12, 13] (fun v i wr => ∃ (k : Nat) (cs : List Pc), k ≤ l.length ∧ i = .int .i64 k ∧ Hid (PSt w wr v cs ((l.take k).map (scF op false x)))) (fun _ i _ => l.length - (intOf i).toNat)
    case atStart => exact ⟨0, [], Nat.zero_le _, rfl, Lib.hid (PSt.none_ (Gr.refl _))⟩
    case round =>
      obtain ⟨k, cs, hk, rfl, HG⟩ := hrel
      by_cases hlt : k < l.length
      · have hg := HG.out.g
        obtain ⟨b, o, s1, n1, rfl, c1, c2, la1, hbl⟩ := (HL.out.gr hg).cell hlt
        have m1 := HS.out.at_ hlt
        obtain ⟨p, hx⟩ : ∃ p, l[k] = p := ⟨_, rfl⟩
        have HTK : Hid ((l.take (k + 1)).map (scF op false x) = (l.take k).map (scF op false x) ++ [scF op false x p]) := Lib.hid (by rw [List.take_succ_eq_append_getElem hlt, List.map_append, hx]; rfl)
        rw [hx] at c1 c2 la1 m1
        obtain ⟨x1, x2⟩ := p
        simp only at c1 c2 la1 m1
        have CN := Lib.hid (fun W (g : Gr wr W) => rnmls_any s1 x1 n1 W (la1.gr g) m1.1)
        have hcs : cs.length ≤ 1000 := by rw [HG.out.rds.len]; simp; omega
        have f4 : (k : Int) < (l.length : Int) := by omega
        have f5 : (0 : Int) ≤ (k : Int) := by omega
        have HC1 : Hid (∀ n, (wr.drewN n).cell? ⟨b, o + k * 2, none⟩ = some (.slice s1 x1.length n1)) := Lib.hid (fun n => c1)
        have CF1 := Lib.hid (fun W => Fv.rop_any op x2 x W)
        obtain ⟨y, hy⟩ : ∃ y, Fv.opV op x2 x = y := ⟨_, rfl⟩
        obtain ⟨q, hq⟩ : ∃ q, Fv.opOk op = q := ⟨_, rfl⟩
        rw [hy, hq] at CF1
        have HY : Hid (scF op false x (x1, x2) = (pickL x1 [nmB] false, y)) := Lib.hid (by rw [← hy]; rfl)
        clear hx la1 m1 hg hy hq
        go_wp2_with fail
        refine (CF1.out _).mono ?_
        rintro e w1 ⟨rfl, n1', rfl⟩
        have c1' := HC1.out n1'
        clear c1 c2
        go_wp2_with fail
        refine (CN.out _ ((Gr.refl _).drewN _)).mono ?_
        rintro e w4 ⟨A4, c4, rfl, hl4, g4, hf4⟩
        obtain ⟨z, hz⟩ : ∃ z, pickL x1 [nmB] false = z := ⟨_, rfl⟩
        rw [hz] at hl4 hf4 HY ⊢
        obtain ⟨w5, hw5, g5, hb5⟩ := fresh w4 #[.slice A4 z.length c4, .float .f64 y] 42
        have HGD := Lib.hid (HG.out.gr ((Gr.refl wr).drewN n1'))
        have HA5 := (run_appR1 (B := w.heap.size) (l := cs) ((⟨A4, z.length, c4⟩, y) : Pc) (HGD.out.gr (g4.trans g5)).row (hb5 0 _ rfl) (hb5 1 _ rfl) (by omega) (HGD.out.gr (g4.trans g5)).g.size)
        have HNX : Hid (∀ v7 w7, OwnT w7 w.heap.size v7 (cs ++ [((⟨A4, z.length, c4⟩, y) : Pc)]) → w5.grownBy w7 u12.ownBlock → (v7.ownBlock = u12.ownBlock ∨ v7.ownBlock = some w5.heap.size) → Hid (PSt w w7 v7 (cs ++ [((⟨A4, z.length, c4⟩, y) : Pc)]) ((l.take (k + 1)).map (scF op false x)))) := Lib.hid (fun v7 w7 ho hg hv => Lib.hid (by
          rw [HTK.out, HY.out]
          exact HGD.out.one g4 g5 (p := (z, y)) hl4 hf4 ho hg hv))
        rw [← hw5] at HA5 HNX
        have HA5 := Lib.hid HA5
        clear hl4 hf4 g4 g5 hb5 hw5 hz c1'
        go_wp2_with (at_builtin; refine wpList_app2 rfl (.tmp 67) (.tmp 76) (by rfl) (by rfl) (by rfl) (by rfl) HA5.out ?_; rintro v7 w7 ⟨ho7, hg7, hv7⟩)
        have HN := HNX.out v7 w7 ho7 hg7 hv7
        clear ho7 hg7 hv7
        go_roundw
        case rel => exact ⟨k + 1, _, by omega, by go_num, HN⟩
        case measure => simp [intOf]; omega
      · obtain rfl : k = l.length := by omega
        have hp := HG.out
        rw [List.take_length, HLL.out] at hp
        obtain ⟨A', c', rfl, hpt, -, -, -⟩ := hp.at_
        have HG1 := Lib.hid hp.g
        have CN := Lib.hid (rnormal_any A' L c' wr hpt HM.out)
        clear hp hpt HG
        go_wp2_with fail
        refine CN.out.mono ?_
        rintro e w4 ⟨A4, c4, rfl, hp4, h1, h2, g4⟩
        have HP4 := Lib.hid hp4
        clear hp4
        go_wp2
        go_ret2
        exact ⟨A4, c4, rfl, HP4.out, h1, h2, HG1.out.trans g4⟩
  · go_enter Tryd.func18, Tryd.ntmps18
    go_wp2
    go_loopw [12, 13] (fun v i wr => ∃ (k : Nat) (cs : List Pc), k ≤ l.length ∧ i = .int .i64 k ∧ Hid (PSt w wr v cs ((l.take k).map (scF op true x)))) (fun _ i _ => l.length - (intOf i).toNat)
    case atStart => exact ⟨0, [], Nat.zero_le _, rfl, Lib.hid (PSt.none_ (Gr.refl _))⟩
    case round =>
      obtain ⟨k, cs, hk, rfl, HG⟩ := hrel
      by_cases hlt : k < l.length
      · have hg := HG.out.g
        obtain ⟨b, o, s1, n1, rfl, c1, c2, la1, hbl⟩ := (HL.out.gr hg).cell hlt
        have m1 := HS.out.at_ hlt
        obtain ⟨p, hx⟩ : ∃ p, l[k] = p := ⟨_, rfl⟩
        have HTK : Hid ((l.take (k + 1)).map (scF op true x) = (l.take k).map (scF op true x) ++ [scF op true x p]) := Lib.hid (by rw [List.take_succ_eq_append_getElem hlt, List.map_append, hx]; rfl)
        rw [hx] at c1 c2 la1 m1
        obtain ⟨x1, x2⟩ := p
        simp only at c1 c2 la1 m1
        have CN := Lib.hid (fun W (g : Gr wr W) => rnmls_any s1 x1 n1 W (la1.gr g) m1.1)
        have hcs : cs.length ≤ 1000 := by rw [HG.out.rds.len]; simp; omega
        have f4 : (k : Int) < (l.length : Int) := by omega
        have f5 : (0 : Int) ≤ (k : Int) := by omega
        have HC1 : Hid (∀ n, (wr.drewN n).cell? ⟨b, o + k * 2, none⟩ = some (.slice s1 x1.length n1)) := Lib.hid (fun n => c1)
        have CF1 := Lib.hid (fun W => Fv.rop_any op x x2 W)
        obtain ⟨y, hy⟩ : ∃ y, Fv.opV op x x2 = y := ⟨_, rfl⟩
        obtain ⟨q, hq⟩ : ∃ q, Fv.opOk op = q := ⟨_, rfl⟩
        rw [hy, hq] at CF1
        have HY : Hid (scF op true x (x1, x2) = (pickL x1 [nmB] false, y)) := Lib.hid (by rw [← hy]; rfl)
        clear hx la1 m1 hg hy hq
        go_wp2_with fail
        refine (CF1.out _).mono ?_
        rintro e w1 ⟨rfl, n1', rfl⟩
        have c1' := HC1.out n1'
        clear c1 c2
        go_wp2_with fail
        refine (CN.out _ ((Gr.refl _).drewN _)).mono ?_
        rintro e w4 ⟨A4, c4, rfl, hl4, g4, hf4⟩
        obtain ⟨z, hz⟩ : ∃ z, pickL x1 [nmB] false = z := ⟨_, rfl⟩
        rw [hz] at hl4 hf4 HY ⊢
        obtain ⟨w5, hw5, g5, hb5⟩ := fresh w4 #[.slice A4 z.length c4, .float .f64 y] 42
        have HGD := Lib.hid (HG.out.gr ((Gr.refl wr).drewN n1'))
        have HA5 := (run_appR1 (B := w.heap.size) (l := cs) ((⟨A4, z.length, c4⟩, y) : Pc) (HGD.out.gr (g4.trans g5)).row (hb5 0 _ rfl) (hb5 1 _ rfl) (by omega) (HGD.out.gr (g4.trans g5)).g.size)
        have HNX : Hid (∀ v7 w7, OwnT w7 w.heap.size v7 (cs ++ [((⟨A4, z.length, c4⟩, y) : Pc)]) → w5.grownBy w7 u12.ownBlock → (v7.ownBlock = u12.ownBlock ∨ v7.ownBlock = some w5.heap.size) → Hid (PSt w w7 v7 (cs ++ [((⟨A4, z.length, c4⟩, y) : Pc)]) ((l.take (k + 1)).map (scF op true x)))) := Lib.hid (fun v7 w7 ho hg hv => Lib.hid (by
          rw [HTK.out, HY.out]
          exact HGD.out.one g4 g5 (p := (z, y)) hl4 hf4 ho hg hv))
        rw [← hw5] at HA5 HNX
        have HA5 := Lib.hid HA5
        clear hl4 hf4 g4 g5 hb5 hw5 hz c1'
        go_wp2_with (at_builtin; refine wpList_app2 rfl (.tmp 67) (.tmp 76) (by rfl) (by rfl) (by rfl) (by rfl) HA5.out ?_; rintro v7 w7 ⟨ho7, hg7, hv7⟩)
        have HN := HNX.out v7 w7 ho7 hg7 hv7
        clear ho7 hg7 hv7
        go_roundw
        case rel => exact ⟨k + 1, _, by omega, by go_num, HN⟩
        case measure => simp [intOf]; omega
      · obtain rfl : k = l.length := by omega
        have hp := HG.out
        rw [List.take_length, HLL.out] at hp
        obtain ⟨A', c', rfl, hpt, -, -, -⟩ := hp.at_
        have HG1 := Lib.hid hp.g
        have CN := Lib.hid (rnormal_any A' L c' wr hpt HM.out)
        clear hp hpt HG
        go_wp2_with fail
        refine CN.out.mono ?_
        rintro e w4 ⟨A4, c4, rfl, hp4, h1, h2, g4⟩
        have HP4 := Lib.hid hp4
        clear hp4
        go_wp2
        go_ret2
        exact ⟨A4, c4, rfl, HP4.out, h1, h2, HG1.out.trans g4⟩
theorem rscaled_opt2 (op : Int) (x : Nat) (left : Bool) (A : Option Addr) (l : List Pt) (c : Nat) (w : World) (h : PtsAt w A l) (hs : SmP l) (ho : 5 ≤ op ∧ op ≤ 10) :
    Calls Tryd.prog 18 #[.slice A l.length c, .int .i64 op, .float .f64 x, .bool left, .bool true] w (VPost (norV (l.map (scF op left x))) (norE (l.map (scF op left x))) w) := by
  obtain ⟨h1, h2⟩ := ho
  have h3 : 1 ≤ op := by omega
  have HL := Lib.hid h; have HS := Lib.hid hs
  have hlen : l.length ≤ 1000 := hs.1
  obtain ⟨L, hL⟩ : ∃ L, l.map (scF op left x) = L := ⟨_, rfl⟩
  have HM : Hid (SmP L) := Lib.hid (by rw [← hL]; exact hs.nm (fun y => Fv.opV op (sdA left x y) (sdB left x y)))
  have HLL := Lib.hid hL
  rw [hL]
  clear h hs hL
  cases left
  · go_enter Tryd.func18, Tryd.ntmps18
    go_wp2
    go_loopw [12, 13] (fun v i wr => ∃ (k : Nat) (cs : List Pc), k ≤ l.length ∧ i = .int .i64 k ∧ Hid (PSt w wr v cs ((l.take k).map (scF op false x)))) (fun _ i _ => l.length - (intOf i).toNat)
    case atStart => exact ⟨0, [], Nat.zero_le _, rfl, Lib.hid (PSt.none_ (Gr.refl _))⟩
    case round =>
      obtain ⟨k, cs, hk, rfl, HG⟩ := hrel
      by_cases hlt : k < l.length
      · have hg := HG.out.g
        obtain ⟨b, o, s1, n1, rfl, c1, c2, la1, hbl⟩ := (HL.out.gr hg).cell hlt
        have m1 := HS.out.at_ hlt
        obtain ⟨p, hx⟩ : ∃ p, l[k] = p := ⟨_, rfl⟩
        have HTK : Hid ((l.take (k + 1)).map (scF op false x) = (l.take k).map (scF op false x) ++ [scF op false x p]) := Lib.hid (by rw [List.take_succ_eq_append_getElem hlt, List.map_append, hx]; rfl)
        rw [hx] at c1 c2 la1 m1
        obtain ⟨x1, x2⟩ := p
        simp only at c1 c2 la1 m1
        have CN := Lib.hid (fun W (g : Gr wr W) => rnmls_any s1 x1 n1 W (la1.gr g) m1.1)
        have hcs : cs.length ≤ 1000 := by rw [HG.out.rds.len]; simp; omega
        have f4 : (k : Int) < (l.length : Int) := by omega
        have f5 : (0 : Int) ≤ (k : Int) := by omega
        have HC1 : Hid (∀ n, (wr.drewN n).cell? ⟨b, o + k * 2, none⟩ = some (.slice s1 x1.length n1)) := Lib.hid (fun n => c1)
        have CF1 := Lib.hid (fun W => Fv.rop_any op x2 x W)
        obtain ⟨y, hy⟩ : ∃ y, Fv.opV op x2 x = y := ⟨_, rfl⟩
        obtain ⟨q, hq⟩ : ∃ q, Fv.opOk op = q := ⟨_, rfl⟩
        rw [hy, hq] at CF1
        have HY : Hid (scF op false x (x1, x2) = (pickL x1 [nmB] false, y)) := Lib.hid (by rw [← hy]; rfl)
        clear hx la1 m1 hg hy hq
        go_wp2_with fail
        refine (CF1.out _).mono ?_
        rintro e w1 ⟨rfl, n1', rfl⟩
        have c1' := HC1.out n1'
        clear c1 c2
        go_wp2_with fail
        refine (CN.out _ ((Gr.refl _).drewN _)).mono ?_
        rintro e w4 ⟨A4, c4, rfl, hl4, g4, hf4⟩
        obtain ⟨z, hz⟩ : ∃ z, pickL x1 [nmB] false = z := ⟨_, rfl⟩
        rw [hz] at hl4 hf4 HY ⊢
        obtain ⟨w5, hw5, g5, hb5⟩ := fresh w4 #[.slice A4 z.length c4, .float .f64 y] 42
        have HGD := Lib.hid (HG.out.gr ((Gr.refl wr).drewN n1'))
        have HA5 := (run_appR1 (B := w.heap.size) (l := cs) ((⟨A4, z.length, c4⟩, y) : Pc) (HGD.out.gr (g4.trans g5)).row (hb5 0 _ rfl) (hb5 1 _ rfl) (by omega) (HGD.out.gr (g4.trans g5)).g.size)
        have HNX : Hid (∀ v7 w7, OwnT w7 w.heap.size v7 (cs ++ [((⟨A4, z.length, c4⟩, y) : Pc)]) → w5.grownBy w7 u12.ownBlock → (v7.ownBlock = u12.ownBlock ∨ v7.ownBlock = some w5.heap.size) → Hid (PSt w w7 v7 (cs ++ [((⟨A4, z.length, c4⟩, y) : Pc)]) ((l.take (k + 1)).map (scF op false x)))) := Lib.hid (fun v7 w7 ho hg hv => Lib.hid (by
          rw [HTK.out, HY.out]
          exact HGD.out.one g4 g5 (p := (z, y)) hl4 hf4 ho hg hv))
        rw [← hw5] at HA5 HNX
        have HA5 := Lib.hid HA5
        clear hl4 hf4 g4 g5 hb5 hw5 hz c1'
        go_wp2_with (at_builtin; refine wpList_app2 rfl (.tmp 67) (.tmp 76) (by rfl) (by rfl) (by rfl) (by rfl) HA5.out ?_; rintro v7 w7 ⟨ho7, hg7, hv7⟩)
        have HN := HNX.out v7 w7 ho7 hg7 hv7
        clear ho7 hg7 hv7
        go_roundw
        case rel => exact ⟨k + 1, _, by omega, by go_num, HN⟩
        case measure => simp [intOf]; omega
      · obtain rfl : k = l.length := by omega
        have hp := HG.out
        rw [List.take_length, HLL.out] at hp
        obtain ⟨A', c', rfl, hpt, -, -, -⟩ := hp.at_
        have HG1 := Lib.hid hp.g
        have CN := Lib.hid (rnormal_any A' L c' wr hpt HM.out)
        clear hp hpt HG
        go_wp2_with fail
        refine CN.out.mono ?_
        rintro e w4 ⟨A4, c4, rfl, hp4, h1, h2, g4⟩
        have HP4 := Lib.hid hp4
        clear hp4
        go_wp2
        go_ret2
        exact ⟨A4, c4, rfl, HP4.out, h1, h2, HG1.out.trans g4⟩
  · go_enter Tryd.func18, Tryd.ntmps18
    go_wp2
    go_loopw [12, 13] (fun v i wr => ∃ (k : Nat) (cs : List Pc), k ≤ l.length ∧ i = .int .i64 k ∧ Hid (PSt w wr v cs ((l.take k).map (scF op true x)))) (fun _ i _ => l.length - (intOf i).toNat)
    case atStart => exact ⟨0, [], Nat.zero_le _, rfl, Lib.hid (PSt.none_ (Gr.refl _))⟩
    case round =>
      obtain ⟨k, cs, hk, rfl, HG⟩ := hrel
      by_cases hlt : k < l.length
      · have hg := HG.out.g
        obtain ⟨b, o, s1, n1, rfl, c1, c2, la1, hbl⟩ := (HL.out.gr hg).cell hlt
        have m1 := HS.out.at_ hlt
        obtain ⟨p, hx⟩ : ∃ p, l[k] = p := ⟨_, rfl⟩
        have HTK : Hid ((l.take (k + 1)).map (scF op true x) = (l.take k).map (scF op true x) ++ [scF op true x p]) := Lib.hid (by rw [List.take_succ_eq_append_getElem hlt, List.map_append, hx]; rfl)
        rw [hx] at c1 c2 la1 m1
        obtain ⟨x1, x2⟩ := p
        simp only at c1 c2 la1 m1
        have CN := Lib.hid (fun W (g : Gr wr W) => rnmls_any s1 x1 n1 W (la1.gr g) m1.1)
        have hcs : cs.length ≤ 1000 := by rw [HG.out.rds.len]; simp; omega
        have f4 : (k : Int) < (l.length : Int) := by omega
        have f5 : (0 : Int) ≤ (k : Int) := by omega
        have HC1 : Hid (∀ n, (wr.drewN n).cell? ⟨b, o + k * 2, none⟩ = some (.slice s1 x1.length n1)) := Lib.hid (fun n => c1)
        have CF1 := Lib.hid (fun W => Fv.rop_any op x x2 W)
        obtain ⟨y, hy⟩ : ∃ y, Fv.opV op x x2 = y := ⟨_, rfl⟩
        obtain ⟨q, hq⟩ : ∃ q, Fv.opOk op = q := ⟨_, rfl⟩
        rw [hy, hq] at CF1
        have HY : Hid (scF op true x (x1, x2) = (pickL x1 [nmB] false, y)) := Lib.hid (by rw [← hy]; rfl)
        clear hx la1 m1 hg hy hq
        go_wp2_with fail
        refine (CF1.out _).mono ?_
        rintro e w1 ⟨rfl, n1', rfl⟩
        have c1' := HC1.out n1'
        clear c1 c2
        go_wp2_with fail
        refine (CN.out _ ((Gr.refl _).drewN _)).mono ?_
        rintro e w4 ⟨A4, c4, rfl, hl4, g4, hf4⟩
        obtain ⟨z, hz⟩ : ∃ z, pickL x1 [nmB] false = z := ⟨_, rfl⟩
        rw [hz] at hl4 hf4 HY ⊢
        obtain ⟨w5, hw5, g5, hb5⟩ := fresh w4 #[.slice A4 z.length c4, .float .f64 y] 42
        have HGD := Lib.hid (HG.out.gr ((Gr.refl wr).drewN n1'))
        have HA5 := (run_appR1 (B := w.heap.size) (l := cs) ((⟨A4, z.length, c4⟩, y) : Pc) (HGD.out.gr (g4.trans g5)).row (hb5 0 _ rfl) (hb5 1 _ rfl) (by omega) (HGD.out.gr (g4.trans g5)).g.size)
        have HNX : Hid (∀ v7 w7, OwnT w7 w.heap.size v7 (cs ++ [((⟨A4, z.length, c4⟩, y) : Pc)]) → w5.grownBy w7 u12.ownBlock → (v7.ownBlock = u12.ownBlock ∨ v7.ownBlock = some w5.heap.size) → Hid (PSt w w7 v7 (cs ++ [((⟨A4, z.length, c4⟩, y) : Pc)]) ((l.take (k + 1)).map (scF op true x)))) := Lib.hid (fun v7 w7 ho hg hv => Lib.hid (by
          rw [HTK.out, HY.out]
          exact HGD.out.one g4 g5 (p := (z, y)) hl4 hf4 ho hg hv))
        rw [← hw5] at HA5 HNX
        have HA5 := Lib.hid HA5
        clear hl4 hf4 g4 g5 hb5 hw5 hz c1'
        go_wp2_with (at_builtin; refine wpList_app2 rfl (.tmp 67) (.tmp 76) (by rfl) (by rfl) (by rfl) (by rfl) HA5.out ?_; rintro v7 w7 ⟨ho7, hg7, hv7⟩)
        have HN := HNX.out v7 w7 ho7 hg7 hv7
        clear ho7 hg7 hv7
        go_roundw
        case rel => exact ⟨k + 1, _, by omega, by go_num, HN⟩
        case measure => simp [intOf]; omega
      · obtain rfl : k = l.length := by omega
        have hp := HG.out
        rw [List.take_length, HLL.out] at hp
        obtain ⟨A', c', rfl, hpt, -, -, -⟩ := hp.at_
        have HG1 := Lib.hid hp.g
        have CN := Lib.hid (rnormal_any A' L c' wr hpt HM.out)
        clear hp hpt HG
        go_wp2_with fail
        refine CN.out.mono ?_
        rintro e w4 ⟨A4, c4, rfl, hp4, h1, h2, g4⟩
        have HP4 := Lib.hid hp4
        clear hp4
        go_wp2
        go_ret2
        exact ⟨A4, c4, rfl, HP4.out, h1, h2, HG1.out.trans g4⟩
theorem rscaled_no (op : Int) (x : Nat) (left flag : Bool) (A : Option Addr) (n c : Nat) (w : World) (ho : op < 1 ∨ 10 < op) :
    Calls Tryd.prog 18 #[.slice A n c, .int .i64 op, .float .f64 x, .bool left, .bool flag] w (VPost [] 1 w) := by
  rcases ho with ho | ho
  · go_enter Tryd.func18, Tryd.ntmps18
    go_wp2
    go_ret2
    exact ⟨none, 0, rfl, PtsAt.nil _ _, by simp, by unfold maxLen; omega, Gr.refl _⟩
  · have h2 : 1 ≤ op := by omega
    go_enter Tryd.func18, Tryd.ntmps18
    go_wp2
    go_ret2
    exact ⟨none, 0, rfl, PtsAt.nil _ _, by simp, by unfold maxLen; omega, Gr.refl _⟩
/-- the reference's Scaled -/
def rscV (op : Int) (x : Nat) (left flag : Bool) (l : List Pt) : List Pt := if op < 1 ∨ 10 < op then [] else if filB op flag then norV (scW op left x l) else norV (l.map (scF op left x))
def rscE (op : Int) (x : Nat) (left flag : Bool) (l : List Pt) : Int := if op < 1 ∨ 10 < op then 1 else if filB op flag then norE (scW op left x l) else norE (l.map (scF op left x))
theorem rscaled_any (op : Int) (x : Nat) (left flag : Bool) (A : Option Addr) (l : List Pt) (c : Nat) (w : World) (h : PtsAt w A l) (hs : SmP l) :
    Calls Tryd.prog 18 #[.slice A l.length c, .int .i64 op, .float .f64 x, .bool left, .bool flag] w (VPost (rscV op x left flag l) (rscE op x left flag l) w) := by
  unfold rscV rscE
  by_cases ho : op < 1 ∨ 10 < op
  · rw [if_pos ho, if_pos ho]
    exact rscaled_no op x left flag A _ c w ho
  rw [if_neg ho, if_neg ho]
  cases hf : filB op flag
  · rw [if_neg (by simp), if_neg (by simp)]
    cases flag
    · have h4 : 1 ≤ op ∧ op ≤ 4 := by
        simp only [filB, Bool.not_false, Bool.and_true, Bool.and_eq_false_iff, decide_eq_false_iff_not] at hf
        omega
      exact rscaled_opf op x left A l c w h hs h4
    · by_cases h4 : op ≤ 4
      · exact rscaled_opt1 op x left A l c w h hs (by omega)
      · exact rscaled_opt2 op x left A l c w h hs (by omega)
  · rw [if_pos rfl, if_pos rfl]
    simp only [filB, Bool.and_eq_true, decide_eq_true_eq, Bool.not_eq_true'] at hf
    obtain ⟨⟨h1, h2⟩, rfl⟩ := hf
    exact rscaled_fil op x left A l c w h hs ⟨h1, h2⟩
end Go.Proofs.YtoooaipbkkiefaaDoor.Pt
