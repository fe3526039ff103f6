/- grouped: its walk. -/
import Derived.Test.YtllhkegefinlbaaGreatDoorGGat
import Derived.Test.YtllhkegefinlbaaGreatDoorWith
import Derived.Test.YtllhkegefinlbaaGreatDoorPNorm
import Derived.Test.YtllhkegefinlbaaGreatDoorRefGroup
import Derived.Deep.RegionLaw
import Derived.Deep.RegionHeld3
namespace Go.Proofs.YtllhkegefinlbaaGreatDoor.Pt
open Go.RowKit Go.Maps Go.WideMaps
set_option maxRecDepth 100000
set_option maxHeartbeats 4000000

theorem name_le {s : ByteArray} (h : nameB s = true) : s.size ≤ 64 := by
  unfold nameB at h
  have hs : s.size = s.data.toList.length := by simp
  rw [hs]
  cases hd : s.data.toList with
  | nil => simp
  | cons c r =>
    rw [hd] at h
    simp [nameL] at h
    simp; omega
theorem szK_right {l : List Lb} (h : rightB l = true) : szK l ≤ 20000 := by
  obtain ⟨h32, ho, -⟩ := rightP_iff.1 (rightB_t.1 h)
  have key : ∀ l : List Lb, (∀ x ∈ l, okV x = true) → szK l ≤ l.length * 400 := by
    intro l
    induction l with
    | nil => intro _; simp [szK]
    | cons x r ih =>
      intro hx
      have h1 := hx x (by simp)
      have h2 := ih fun y hy => hx y (by simp [hy])
      simp only [okV, Bool.and_eq_true, decide_eq_true_eq] at h1
      have := name_le h1.1
      unfold szK at h2 ⊢
      rw [List.map_cons, List.sum_cons, List.length_cons]
      omega
  have := key l ho
  omega
theorem szK_mem {l : List Lb} {x : Lb} (h : x ∈ l) : x.1.size + x.2.size + 50 ≤ szK l := by
  unfold szK
  induction l with
  | nil => simp at h
  | cons y r ih =>
    rw [List.map_cons, List.sum_cons]
    rcases List.mem_cons.1 h with rfl | h
    · omega
    · have := ih h; omega
theorem keyL_right {l : List Lb} (h : rightB l = true) : (keyL l).length ≤ 20000 := by
  have h1 := szK_right h
  refine Nat.le_trans (keyL_len l fun x hx => ?_) h1
  have := szK_mem hx
  omega
/-- how the points are grouped -/
def grpF (how : Int) (ns : List ByteArray) (p : Pt) : List Lb := groupL p.1 how ns
theorem group_right {l : List Lb} (h : rightB l = true) (how : Int) (ns : List ByteArray) : rightB (groupL l how ns) = true := by
  unfold groupL
  split
  · exact right_pick h _ _
  · split
    · exact right_pick h _ _
    · decide
theorem right_len {l : List Lb} (h : rightB l = true) : l.length ≤ 32 := (rightP_iff.1 (rightB_t.1 h)).1
theorem okP_at {l : List Pt} (h : okP l = true) {k : Nat} (hk : k < l.length) : rightB (l[k]).1 = true := by
  unfold okP at h
  rw [List.all_eq_true] at h
  exact h _ (List.getElem_mem hk)
/-- what grouped hands back -/
def GatPost (f : Pt → List Lb) (l : List Pt) (w : World) (e : Ending) (w' : World) : Prop := ∃ W1 v cs M, Gr w W1 ∧ e = .returned v ∧ GSt W1 w' M v cs (grpsP f l) (keysP f l)
/-- at the head of a round -/
def GHd (f : Pt → List Lb) (w W : World) (M : Nat) (v : Value) (l : List Pt) (k : Nat) : Prop := ∃ cs, GSt w W M v cs (grpsP f (l.take k)) (keysP f (l.take k))
theorem GHd.g {f : Pt → List Lb} {w W : World} {M : Nat} {v : Value} {l : List Pt} {k : Nat} (h : GHd f w W M v l k) : Gr w W := by
  obtain ⟨cs, hg⟩ := h
  exact hg.g
theorem GSt.face {w W : World} {M : Nat} {v : Value} {cs : List Sc} {gs : List Gp} {ks : List (List Lb)} (h : GSt w W M v cs gs ks) {i : Nat} {c : Sc} {s : Gp} (hc : cs[i]? = some c) (hs : gs[i]? = some s) :
    ∃ g cap a2 c2, v = .slice (some ⟨g, 0, none⟩) cs.length cap ∧ c.2.v = .slice a2 s.2.length c2 ∧ W.cell? ⟨g, i * 2 + 1, none⟩ = some (.slice a2 s.2.length c2) ∧ W.cell? ⟨g, i * 2, none⟩ = some c.1.v ∧ g < W.heap.size := by
  have hi := (List.getElem?_eq_some_iff.1 hc).1
  obtain ⟨A0, c0, rfl, hat, -, -, hA⟩ := h.row.form (fun _ => rfl)
  obtain ⟨g, rfl, hB⟩ := hA (by omega)
  obtain ⟨a2, c2, e2, -⟩ := (h.rd i c s hc hs).2.form
  obtain ⟨b, o, e, hcells⟩ := hat (by omega)
  injection e with e; injection e with e1 e2'; subst e1; subst e2'
  obtain ⟨d1, d2⟩ := hcells i c hc _ _ rfl
  rw [Nat.zero_add] at d1 d2
  exact ⟨g, c0, a2, c2, rfl, e2, by rw [← e2]; exact d2, d1, World.block_lt_of_cell? W _ d1⟩
theorem set_end {gs : List Gp} {x : Gp} (q : Gp) : (gs ++ [x]).set gs.length q = gs ++ [q] := by
  rw [List.set_append_right _ _ (Nat.le_refl _), Nat.sub_self]; rfl
theorem own_of_none {W W' : World} (g : W.grownBy W' none) : Gr W W' := ⟨⟨g.os, g.tape, g.output, g.size, fun i hi => g.block i hi (by simp)⟩⟩
/-- a point more in a group's row -/
theorem OwnG.app {w W : World} {B : Nat} {a : Option Addr} {n c : Nat} {ps : List Pt} {pc : Pc} {p : Pt} (h : OwnG w W B (.slice a n c) ps) (hr : Rd w pc p) {g : Nat} (h1 : W.cell? ⟨g, 0, none⟩ = some pc.1.v) (h2 : W.cell? ⟨g, 1, none⟩ = some (.float .f64 pc.2)) (hn : ps.length ≤ 1000000) (hB : B ≤ W.heap.size) :
    ∃ v' W', (Builtin.append_ #[26, 26] 26 #[.slice a n c, .slice (some ⟨g, 0, none⟩) 1 1]).run Tryz.prog W = .ok v' W' ∧ OwnG w W' B v' (ps ++ [p]) ∧ W.grownBy W' (Value.slice a n c).ownBlock ∧ (v'.ownBlock = (Value.slice a n c).ownBlock ∨ v'.ownBlock = some W.heap.size) := by
  obtain ⟨ds, hd, hrd⟩ := h
  obtain ⟨v', W', hr1, ho, hg, hv⟩ := run_appR1 pc hd h1 h2 (by rw [hrd.len]; exact hn) hB
  exact ⟨v', W', hr1, ⟨ds ++ [pc], ho, hrd.append (Rds.one hr)⟩, hg, hv⟩
theorem grouped_any (A N : Option Addr) (l : List Pt) (ns : List ByteArray) (c d : Nat) (how : Int) (w : World) (h : PtsAt w A l) (hs : SmP l) (hok : okP l = true) (hN : StrsAt w N ns) (hns : ns.length ≤ 1000) (hk : Kn w) :
    Calls Tryz.prog 18 #[.agg #[.int .i64 how, .slice N ns.length d], .slice A l.length c] w (GatPost (grpF how ns) l w) := by
  have hmm := @run_makeMap Tryz.prog
  obtain ⟨W1, hW1, B1, hb1⟩ := fresh w #[.int .i64 how, .slice N ns.length d] 24
  have z1 : W1.heap.size = w.heap.size + 1 := by rw [← hW1]; simp
  have H0 : Hid (GHd (grpF how ns) W1 (W1.alloc (.map #[] 0)) W1.heap.size (.slice none 0 0) l 0) := Lib.hid (by
    refine ⟨[], ⟨own_of_none (World.grownBy_alloc _ _ none), Own2.nil _ _, rfl, fun k c s hc => by simp at hc, fun k c s hc => by simp at hc, fun i j c d hc => by simp at hc, Nat.le_refl _, ?_⟩⟩
    exact ⟨_, World.ownsMap_made _ _ _ _, fun k x hx => by simp [keysP] at hx, fun x _ => rfl⟩)
  have c0 := hb1 0 _ rfl
  have c1 := hb1 1 _ rfl
  have HL := Lib.hid h; have HS := Lib.hid hs; have HOK := Lib.hid hok; have HNS := Lib.hid hN; have HK := Lib.hid hk
  have HW1 := Lib.hid hW1; have HB1 := Lib.hid B1
  have hlen : l.length ≤ 1000 := hs.1
  obtain ⟨M, hM⟩ : ∃ M, W1.heap.size = M := ⟨_, rfl⟩
  rw [hM] at H0
  have HM : Hid (w.heap.size + 1 = M) := Lib.hid (by rw [← z1]; exact hM)
  obtain ⟨W0, hW0⟩ : ∃ W0, W1.alloc (.map #[] 0) = W0 := ⟨_, rfl⟩
  rw [hW0] at H0
  have HW0 := Lib.hid hW0
  have HG0 : Hid (Gr W1 W0) := Lib.hid (by rw [← hW0]; exact own_of_none (World.grownBy_alloc _ _ none))
  clear h hs hok hN hk hW1 B1 hb1 z1 hM hW0
  go_enter Tryz.func18, Tryz.ntmps18
  go_wp2
  rw [HW1.out, HM.out, HW0.out]
  have HC0 : Hid (∀ W, Gr W1 W → W.cell? ⟨w.heap.size, 0, none⟩ = some (.int .i64 how) ∧ W.cell? ⟨w.heap.size, 1, none⟩ = some (.slice N ns.length d)) := Lib.hid fun W g => ⟨g.cell c0, g.cell c1⟩
  have HBX : Hid (w.heap.size < W1.heap.size) := Lib.hid (World.block_lt_of_cell? W1 _ c0)
  clear c0 c1 hmm
  obtain ⟨GB, hGB⟩ : ∃ GB, w.heap.size = GB := ⟨_, rfl⟩
  rw [hGB] at HC0 HBX ⊢
  have HGB := Lib.hid hGB
  clear hGB
  go_loopw [5, 16] (fun v i wr => ∃ k : Nat, k ≤ l.length ∧ i = .int .i64 k ∧ Hid (GHd (grpF how ns) W1 wr M v l k)) (fun _ i _ => l.length - (intOf i).toNat)
  case atStart => exact ⟨0, Nat.zero_le _, rfl, H0⟩
  case round =>
    clear H0
    obtain ⟨k, hk, rfl, HG⟩ := hrel
    have HGW := Lib.hid HG.out.g
    by_cases hlt : k < l.length
    · obtain ⟨b, o, LA, lc, rfl, e1, e2, hLA, -⟩ := HL.out.cell hlt
      have m1 := HS.out.at_ hlt
      have hrt := okP_at HOK.out hlt
      have hT := List.take_succ_eq_append_getElem hlt
      obtain ⟨r, hr⟩ : ∃ r, l[k] = r := ⟨_, rfl⟩
      rw [hr] at e1 e2 hLA m1 hrt hT
      obtain ⟨rl, rv⟩ := r
      simp only at e1 e2 hLA m1 hrt
      have HTk := Lib.hid hT
      have HRD : Hid (Rd W1 ((⟨LA, rl.length, lc⟩, rv) : Pc) (rl, rv)) := Lib.hid ⟨rfl, rfl, hLA.gr HB1.out⟩
      have gw := HB1.out.trans HG.out.g
      have c1 := gw.cell e1
      have c2 := gw.cell e2
      obtain ⟨X, hX, g0, hb⟩ := fresh wr #[.slice LA rl.length lc, .float .f64 rv] 45
      have b0 := hb 0 (.slice LA rl.length lc) rfl
      have b1 := hb 1 (.float .f64 rv) rfl
      have hXR := HGW.out.trans g0
      obtain ⟨a0, a1⟩ := HC0.out X hXR
      have CL := Lib.hid (groupF_any LA N rl ns lc d how X ((hLA.gr gw).gr g0) (HNS.out.gr (HB1.out.trans hXR)) (by have := m1.1; omega) (by omega))
      have HX := Lib.hid hX
      have G0 := Lib.hid g0
      have hPw : wr.heap.size < X.heap.size := World.block_lt_of_cell? X _ b0
      obtain ⟨P, hP⟩ : ∃ P, wr.heap.size = P := ⟨_, rfl⟩
      rw [hP] at b0 b1 hPw
      have HP := Lib.hid hP
      have HPX := Lib.hid hPw
      have hgr := group_right hrt how ns
      have hkx : grpF how ns (rl, rv) = groupL rl how ns := rfl
      obtain ⟨x, hx⟩ : ∃ x, groupL rl how ns = x := ⟨_, rfl⟩
      rw [hx] at CL hgr hkx
      have HKX := Lib.hid hkx
      have HBB : Hid (X.cell? ⟨P, 0, none⟩ = some (.slice LA rl.length lc) ∧ X.cell? ⟨P, 1, none⟩ = some (.float .f64 rv)) := Lib.hid ⟨b0, b1⟩
      have h32 := right_len hgr
      have hsz := szK_right hgr
      have hky := keyL_right hgr
      have n1 : (k : Int) < (l.length : Int) := by omega
      clear hb hX g0 hr hLA e1 e2 m1 hrt hT gw hXR hP hPw hx hkx hgr
      go_upto_region 6 with fail
      rw [HX.out, HP.out]
      clear c1 c2
      go_wp2_with fail
      refine CL.out.mono ?_
      rintro e w1 ⟨A1, c1, rfl, hl1, g1, hf1⟩
      have G1 := Lib.hid (G0.out.trans g1)
      have hKN : Kn w1 := HK.out.gr (HB1.out.trans (HG.out.g.trans G1.out))
      have CK := Lib.hid (key_any A1 x c1 w1 hl1 (by omega) (by omega) hKN)
      have HF1 : Hid (∀ b, (Value.slice A1 x.length c1).ownBlock = some b → wr.heap.size ≤ b) := Lib.hid (fun b hb => Nat.le_trans G0.out.size (hf1 b hb))
      have HL1 := Lib.hid hl1
      have HBX1 : Hid (w1.cell? ⟨P, 0, none⟩ = some (.slice LA rl.length lc) ∧ w1.cell? ⟨P, 1, none⟩ = some (.float .f64 rv)) := Lib.hid ⟨g1.cell HBB.out.1, g1.cell HBB.out.2⟩
      clear hl1 hf1 hKN g1 hsz CL b0 b1 a0 a1
      go_wp2_with fail
      refine CK.out.mono ?_
      rintro e w2 ⟨rfl, g2⟩
      have G2 := Lib.hid (G1.out.trans g2)
      have hbx1 := g2.cell HBX1.out.1
      have hbx2 := g2.cell HBX1.out.2
      have HL2 := Lib.hid (HL1.out.gr g2)
      have HGW2 := Lib.hid ((HGW.out.trans G1.out).trans g2)
      have HP3 : Hid (P < w2.heap.size) := Lib.hid (World.block_lt_of_cell? w2 _ hbx1)
      clear CK g2 HBX1 HL1 G1 HBB
      obtain ⟨cs, hgs⟩ := HG.out
      obtain ⟨A0, c0, rfl, -, hnc, hcm, -⟩ := hgs.row.form (fun _ => rfl)
      have hgs2 := hgs.gr G2.out
      have hlen2 := hgs.len
      have hgl := grps_len (grpF how ns) (l.take k)
      have hkl := keys_len (grpF how ns) (l.take k)
      have hkl2 : (keysP (grpF how ns) (l.take k)).length = cs.length := by rw [hlen2, ← grps_fst, List.length_map]
      have hmg : ∀ s ∈ grpsP (grpF how ns) (l.take k), s.2.length ≤ 1000 := fun s hs => by
        obtain ⟨j, hj⟩ := List.getElem?_of_mem hs
        have h1 := (grps_get hj).2
        rw [h1]
        refine Nat.le_trans (memG_len _ _ _) ?_
        simp; omega
      have hold : ∀ (i : Nat) (s : Gp), (grpsP (grpF how ns) (l.take k))[i]? = some s → s.1 = x → grpsP (grpF how ns) (l.take (k + 1)) = (grpsP (grpF how ns) (l.take k)).set i (s.1, s.2 ++ [(rl, rv)]) ∧ keysP (grpF how ns) (l.take (k + 1)) = keysP (grpF how ns) (l.take k) := fun i s hs h1 => by
        rw [HTk.out]
        exact ⟨grps_old hs (by rw [h1, HKX.out]), by rw [keysP_snoc, HKX.out, ← h1]; exact step_in (List.mem_of_getElem? (grps_get hs).1)⟩
      have hnew : x ∉ keysP (grpF how ns) (l.take k) → grpsP (grpF how ns) (l.take (k + 1)) = grpsP (grpF how ns) (l.take k) ++ [(x, [(rl, rv)])] ∧ keysP (grpF how ns) (l.take (k + 1)) = keysP (grpF how ns) (l.take k) ++ [x] := fun hn => by
        rw [HTk.out]
        have e := grps_new (f := grpF how ns) (l := l.take k) (p := (rl, rv)) (by rw [HKX.out]; exact hn)
        rw [HKX.out] at e
        exact ⟨e, by rw [keysP_snoc, HKX.out]; exact step_out hn⟩
      have hgf : ∀ (i : Nat) (y : List Lb), (keysP (grpF how ns) (l.take k))[i]? = some y → ∃ s, (grpsP (grpF how ns) (l.take k))[i]? = some s ∧ s.1 = y := fun i y hy => by
        rw [← grps_fst, List.getElem?_map] at hy
        cases e : (grpsP (grpF how ns) (l.take k))[i]? with
        | none => rw [e] at hy; cases hy
        | some s => rw [e] at hy; exact ⟨s, rfl, by simpa using hy⟩
      have hkn := fun a (ha : a ∈ keysP (grpF how ns) (l.take k)) => ha
      have HGD : Hid (∀ W' v' cs', GSt W1 W' M v' cs' (grpsP (grpF how ns) (l.take (k + 1))) (keysP (grpF how ns) (l.take (k + 1))) → GHd (grpF how ns) W1 W' M v' l (k + 1)) := Lib.hid (fun W' v' cs' h => ⟨cs', h⟩)
      obtain ⟨gs, hgsz⟩ : ∃ gs, grpsP (grpF how ns) (l.take k) = gs := ⟨_, rfl⟩
      obtain ⟨ks, hksz⟩ : ∃ ks, keysP (grpF how ns) (l.take k) = ks := ⟨_, rfl⟩
      obtain ⟨gs', hgsz'⟩ : ∃ gs, grpsP (grpF how ns) (l.take (k + 1)) = gs := ⟨_, rfl⟩
      obtain ⟨ks', hksz'⟩ : ∃ ks, keysP (grpF how ns) (l.take (k + 1)) = ks := ⟨_, rfl⟩
      rw [hgsz, hksz] at hgs hgs2
      rw [hgsz, hgsz', hksz, hksz'] at hnew
      simp only [hgsz, hgsz', hksz, hksz'] at hold hgf hmg HGD
      rw [hgsz] at hlen2 hgl
      rw [hksz] at hkl hkl2
      have htk : (l.take k).length ≤ 1000 := by simp; omega
      obtain ⟨ci, bk, hrl, hyes, hno⟩ := hgs2.m.look x (by unfold maxLen; omega)
      have HGS := Lib.hid hgs; have HGS2 := Lib.hid hgs2; have HLEN := Lib.hid hlen2
      have HNEW := Lib.hid hnew; have HGF := Lib.hid hgf; have HMG := Lib.hid hmg
      have HOLD : Hid (∀ (i : Nat) (s : Gp), gs[i]? = some s → s.1 = x → gs' = gs.set i (s.1, s.2 ++ [(rl, rv)]) ∧ ks' = ks) := Lib.hid hold
      have hcl : cs.length ≤ 1000 := by omega
      have HKL := Lib.hid hkl2
      clear hgs hgs2 hlen2 hgsz hksz hgsz' hksz' hold hnew hgf hmg hgl hkl htk hkn hkl2
      cases bk
      · have HNO := Lib.hid (hno rfl)
        clear hyes hno
        obtain ⟨w3, hr3, hgs3, hg3⟩ := HGS2.out.put x (by unfold maxLen; omega) HNO.out (by have := HKL.out; omega)
        rw [HKL.out] at hr3
        have hM1 : M < wr.heap.size := by
          obtain ⟨es, ck, h⟩ := HGS.out.m.obj
          exact (Array.getElem?_eq_some_iff.1 h).1
        have hM2 : some P ≠ some M := by rw [← HP.out]; simp; omega
        have hby1 := hg3.cell hbx1 (by exact hM2)
        have hby2 := hg3.cell hbx2 (by exact hM2)
        have HL3 : Hid (LabV w3 ⟨A1, x.length, c1⟩ x) := Lib.hid ((show LabV w2 ⟨A1, x.length, c1⟩ x from ⟨rfl, HL2.out⟩).only hg3 (fun h0 b hb => by
          have := HF1.out b hb
          simp; omega))
        have g4 : Gr w3 (w3.alloc (.cells #[.slice A1 x.length c1, .slice none 0 0] 52)) := (Gr.refl w3).alloc _ _
        have HS4 := Lib.hid (hgs3.gr g4)
        have HAPP := Lib.hid (run_appC (c := 1) HS4.out.row (at2_one (enc := encS) w3 ((⟨A1, x.length, c1⟩, ⟨none, 0, 0⟩) : Sc) _ _ rfl 52) (by simp; omega) HS4.out.g.size)
        have hbz1 := g4.cell hby1
        have hbz2 := g4.cell hby2
        clear hgs3 hbx1 hbx2 hby1 hby2 hg3
        go_wp2_with (first
          | (at_builtin; refine wpList_app2 rfl _ _ (by rfl) (by rfl) rfl rfl HAPP.out ?_; rintro v5 w5 ⟨ho5, hg5, hv5⟩)
          | fail)
        have hbx0 : ∀ kk, (Value.slice A0 cs.length c0).ownBlock = some kk → some P ≠ some kk := fun kk hk2 e => by
          injection e with e
          have h1 := (HGS.out.row.lt hk2).2
          have h2 := HP.out
          omega
        have HS5 : Hid (GSt W1 w5 M v5 (cs ++ [(⟨A1, x.length, c1⟩, ⟨none, 0, 0⟩)]) (gs ++ [(x, [])]) (ks ++ [x])) := Lib.hid (HS4.out.more (HL3.out.gr g4) (fun h0 b hb => by
          have hge := HF1.out b hb
          refine ⟨fun e => ?_, by omega, fun j d hd e => ?_⟩
          · have := (HGS.out.row.lt e).2; omega
          · have hj := (List.getElem?_eq_some_iff.1 hd).1
            have := ((HGS.out.rd j d _ hd (List.getElem?_eq_getElem (by rw [← HLEN.out]; exact hj))).2.lt e).2
            omega) ho5 hg5 hv5)
        have e1 := hg5.cell hbz1 (by
          intro e
          exact hbx0 _ e.symm rfl)
        have e2 := hg5.cell hbz2 (by
          intro e
          exact hbx0 _ e.symm rfl)
        have hcc : (cs ++ [((⟨A1, x.length, c1⟩, ⟨none, 0, 0⟩) : Sc)])[cs.length]? = some (⟨A1, x.length, c1⟩, ⟨none, 0, 0⟩) := by simp
        have hss : (gs ++ [((x, []) : Gp)])[cs.length]? = some (x, []) := by rw [HLEN.out]; simp
        have HEND : Hid (∀ W' q, GSt W1 W' M v5 ((cs ++ [((⟨A1, x.length, c1⟩, ⟨none, 0, 0⟩) : Sc)]).set cs.length q) ((gs ++ [((x, []) : Gp)]).set cs.length (x, ([] : List Pt) ++ [(rl, rv)])) (ks ++ [x]) → GHd (grpF how ns) W1 W' M v5 l (k + 1)) := Lib.hid (fun W' q h => by
          obtain ⟨eg, ek⟩ := HNEW.out HNO.out
          refine HGD.out W' v5 ((cs ++ [((⟨A1, x.length, c1⟩, ⟨none, 0, 0⟩) : Sc)]).set cs.length q) ?_
          rw [eg, ek]
          have e3 : (gs ++ [((x, []) : Gp)]).set cs.length (x, ([] : List Pt) ++ [(rl, rv)]) = gs ++ [(x, [(rl, rv)])] := by rw [HLEN.out, set_end]; rfl
          rw [e3] at h
          exact h)
        have HW5 : Hid (Gr W1 w5) := Lib.hid HS5.out.g
        obtain ⟨sl5, hsl5⟩ : ∃ y : Sc, ((⟨A1, x.length, c1⟩, ⟨none, 0, 0⟩) : Sc) = y := ⟨_, rfl⟩
        rw [hsl5] at hcc HEND HS5
        obtain ⟨ss, hss5⟩ : ∃ y : Gp, ((x, []) : Gp) = y := ⟨_, rfl⟩
        have hssl : ss.2.length ≤ 1000 := by rw [← hss5]; simp
        have HEND : Hid (∀ W' q, GSt W1 W' M v5 ((cs ++ [sl5]).set cs.length q) ((gs ++ [ss]).set cs.length (ss.1, ss.2 ++ [(rl, rv)])) (ks ++ [x]) → GHd (grpF how ns) W1 W' M v5 l (k + 1)) := Lib.hid (by rw [← hss5]; exact HEND.out)
        rw [hss5] at hss HS5
        obtain ⟨i, hi⟩ : ∃ i, cs.length = i := ⟨_, rfl⟩
        rw [hi] at hcc hss HEND ⊢
        obtain ⟨csz, hcs⟩ : ∃ y, cs ++ [sl5] = y := ⟨_, rfl⟩
        obtain ⟨gsz, hgz⟩ : ∃ y, gs ++ [ss] = y := ⟨_, rfl⟩
        obtain ⟨ksz, hkz⟩ : ∃ y, ks ++ [x] = y := ⟨_, rfl⟩
        rw [hcs] at hcc HEND HS5
        rw [hgz] at hss HEND HS5
        rw [hkz] at HEND HS5
        have hcl : i ≤ 1000 := by omega
        clear hcs hgz hkz hi hss5 hsl5 ho5 hg5 hv5 hbz1 hbz2 HAPP HS4 HL3 g4 HGS HGS2 HLEN HNO HF1 HL2 G0 G2 HBX HX HG hr3 hM1 hM2 hbx0 HNEW HOLD HGD HGF HMG HKL
        obtain ⟨g, cap, a2, c2, hvf, hcv, d1, -, hgl2⟩ := HS5.out.face hcc hss
        have HPR : Hid (OwnG W1 w5 W1.heap.size (.slice a2 ss.2.length c2) ss.2) := Lib.hid (by rw [← hcv]; exact (HS5.out.rd i sl5 ss hcc hss).2)
        have HADD : Hid (∀ Wy W7 v7, Gr w5 Wy → OwnG W1 W7 W1.heap.size v7 (ss.2 ++ [(rl, rv)]) → Wy.grownBy W7 (Value.slice a2 ss.2.length c2).ownBlock → (v7.ownBlock = (Value.slice a2 ss.2.length c2).ownBlock ∨ v7.ownBlock = some Wy.heap.size) → ∃ A7 c7, v7 = .slice A7 (ss.2.length + 1) c7 ∧ W7.cell? ⟨g, i * 2 + 1, none⟩ = some (.slice a2 ss.2.length c2) ∧ W7.frozen? ⟨g, i * 2 + 1, none⟩ = false ∧ GHd (grpF how ns) W1 (W7.setCell ⟨g, i * 2 + 1, none⟩ v7) M v5 l (k + 1)) := Lib.hid (fun Wy W7 v7 gy ho hgr hv => by
          obtain ⟨A7, c7, rfl, -⟩ := ho.form
          obtain ⟨g', eg, -, k1, k2, hst⟩ := (HS5.out.gr gy).add hcc hss (rl, rv) (sl := ⟨A7, (ss.2 ++ [(rl, rv)]).length, c7⟩) ho (by rw [hcv]; exact hgr) (by rw [hcv]; exact hv)
          have : g' = g := by rw [hvf] at eg; simpa [Value.ownBlock] using eg.symm
          subst this
          rw [hcv] at k1
          refine ⟨A7, c7, by simp, k1, k2, HEND.out _ _ hst⟩)
        have HSZ : Hid (∀ W', Gr w5 W' → W1.heap.size ≤ W'.heap.size) := Lib.hid (fun W' gg => (HW5.out.trans gg).size)
        have hil : i < csz.length := (List.getElem?_eq_some_iff.1 hcc).1
        have m1 : (i : Int) < ((csz.length : Nat) : Int) := by omega
        have m2 : (0 : Int) ≤ (i : Int) := by omega
        rw [hvf] at HADD ⊢
        clear hcl
        clear hss hcc hcv HEND HS5 HW5
        have HAP : Hid (∀ Wy gq, Gr w5 Wy → Wy.cell? ⟨gq, 0, none⟩ = some (.slice LA rl.length lc) → Wy.cell? ⟨gq, 1, none⟩ = some (.float .f64 rv) → ∃ v' W', (Builtin.append_ #[26, 26] 26 #[.slice a2 ss.2.length c2, .slice (some ⟨gq, 0, none⟩) 1 1]).run Tryz.prog Wy = .ok v' W' ∧ OwnG W1 W' W1.heap.size v' (ss.2 ++ [(rl, rv)]) ∧ Wy.grownBy W' (Value.slice a2 ss.2.length c2).ownBlock ∧ (v'.ownBlock = (Value.slice a2 ss.2.length c2).ownBlock ∨ v'.ownBlock = some Wy.heap.size)) := Lib.hid (fun Wy gq gy h1 h2 => OwnG.app (HPR.out.gr gy) HRD.out h1 h2 (by omega) (HSZ.out _ gy))
        have d1a : ∀ n xs t, ((w5.drewN n).alloc (.cells xs t)).cell? ⟨g, i * 2 + 1, none⟩ = some (.slice a2 ss.2.length c2) := fun n xs t => (((Gr.refl w5).drewN n).alloc xs t).cell d1
        go_region_law
          (refine step_app2 rfl _ _ (by rfl) (by rfl) (by rfl) (by rfl) (HAP.out _ _ (((Gr.refl _).drewN _).alloc _ _) (by go_simp) (by go_simp)) ?_
           rintro v7 w7 ⟨ho7, hg7, hv7⟩
           obtain ⟨A7, c7, rfl, k1, k2, HN⟩ := HADD.out _ _ _ (((Gr.refl _).drewN _).alloc _ _) ho7 hg7 hv7
           clear ho7 hg7 hv7)
        all_goals
          go_wp2
          go_roundw
          case rel => exact ⟨k + 1, by omega, by go_num, Lib.hid HN⟩
          case measure => simp [intOf]; omega
      · obtain ⟨i, rfl, hki⟩ := hyes rfl
        clear hno hyes
        obtain ⟨ss, hss, hs1⟩ := HGF.out i x hki
        have hil0 : i < cs.length := by have := (List.getElem?_eq_some_iff.1 hss).1; have := HLEN.out; omega
        obtain ⟨sl5, hcc⟩ : ∃ y, cs[i]? = some y := ⟨_, List.getElem?_eq_getElem hil0⟩
        have hssl : ss.2.length ≤ 1000 := HMG.out ss (List.mem_of_getElem? hss)
        have HEND : Hid (∀ W' q, GSt W1 W' M (.slice A0 cs.length c0) (cs.set i q) (gs.set i (ss.1, ss.2 ++ [(rl, rv)])) ks → GHd (grpF how ns) W1 W' M (.slice A0 cs.length c0) l (k + 1)) := Lib.hid (fun W' q h => by
          obtain ⟨eg, ek⟩ := HOLD.out i ss hss hs1
          refine HGD.out W' _ (cs.set i q) ?_
          rw [eg, ek]
          exact h)
        have HW5 : Hid (Gr W1 w2) := Lib.hid HGS2.out.g
        have e1 := hbx1
        have e2 := hbx2
        have HS5 := HGS2
        have hcl : i ≤ 1000 := by omega
        clear hki hs1 HGS HGS2 HLEN HF1 HL2 G0 G2 HBX HX HG hbx1 hbx2 hil0 HNEW HOLD HGD HGF HMG HKL
        go_upto_region 13 with fail
        obtain ⟨g, cap, a2, c2, hvf, hcv, d1, -, hgl2⟩ := HS5.out.face hcc hss
        have HPR : Hid (OwnG W1 w2 W1.heap.size (.slice a2 ss.2.length c2) ss.2) := Lib.hid (by rw [← hcv]; exact (HS5.out.rd i sl5 ss hcc hss).2)
        have HADD : Hid (∀ Wy W7 v7, Gr w2 Wy → OwnG W1 W7 W1.heap.size v7 (ss.2 ++ [(rl, rv)]) → Wy.grownBy W7 (Value.slice a2 ss.2.length c2).ownBlock → (v7.ownBlock = (Value.slice a2 ss.2.length c2).ownBlock ∨ v7.ownBlock = some Wy.heap.size) → ∃ A7 c7, v7 = .slice A7 (ss.2.length + 1) c7 ∧ W7.cell? ⟨g, i * 2 + 1, none⟩ = some (.slice a2 ss.2.length c2) ∧ W7.frozen? ⟨g, i * 2 + 1, none⟩ = false ∧ GHd (grpF how ns) W1 (W7.setCell ⟨g, i * 2 + 1, none⟩ v7) M (.slice A0 cs.length c0) l (k + 1)) := Lib.hid (fun Wy W7 v7 gy ho hgr hv => by
          obtain ⟨A7, c7, rfl, -⟩ := ho.form
          obtain ⟨g', eg, -, k1, k2, hst⟩ := (HS5.out.gr gy).add hcc hss (rl, rv) (sl := ⟨A7, (ss.2 ++ [(rl, rv)]).length, c7⟩) ho (by rw [hcv]; exact hgr) (by rw [hcv]; exact hv)
          have : g' = g := by rw [hvf] at eg; simpa [Value.ownBlock] using eg.symm
          subst this
          rw [hcv] at k1
          refine ⟨A7, c7, by simp, k1, k2, HEND.out _ _ hst⟩)
        have HSZ : Hid (∀ W', Gr w2 W' → W1.heap.size ≤ W'.heap.size) := Lib.hid (fun W' gg => (HW5.out.trans gg).size)
        have hil : i < cs.length := (List.getElem?_eq_some_iff.1 hcc).1
        have m1 : (i : Int) < ((cs.length : Nat) : Int) := by omega
        have m2 : (0 : Int) ≤ (i : Int) := by omega
        obtain ⟨rfl, rfl⟩ : A0 = some ⟨g, 0, none⟩ ∧ c0 = cap := by injection hvf with h1 h2 h3; exact ⟨h1, h3⟩
        clear hvf hcl
        clear hss hcc hcv HEND HS5 HW5
        have HAP : Hid (∀ Wy gq, Gr w2 Wy → Wy.cell? ⟨gq, 0, none⟩ = some (.slice LA rl.length lc) → Wy.cell? ⟨gq, 1, none⟩ = some (.float .f64 rv) → ∃ v' W', (Builtin.append_ #[26, 26] 26 #[.slice a2 ss.2.length c2, .slice (some ⟨gq, 0, none⟩) 1 1]).run Tryz.prog Wy = .ok v' W' ∧ OwnG W1 W' W1.heap.size v' (ss.2 ++ [(rl, rv)]) ∧ Wy.grownBy W' (Value.slice a2 ss.2.length c2).ownBlock ∧ (v'.ownBlock = (Value.slice a2 ss.2.length c2).ownBlock ∨ v'.ownBlock = some Wy.heap.size)) := Lib.hid (fun Wy gq gy h1 h2 => OwnG.app (HPR.out.gr gy) HRD.out h1 h2 (by omega) (HSZ.out _ gy))
        have d1a : ∀ n xs t, ((w2.drewN n).alloc (.cells xs t)).cell? ⟨g, i * 2 + 1, none⟩ = some (.slice a2 ss.2.length c2) := fun n xs t => (((Gr.refl w2).drewN n).alloc xs t).cell d1
        go_region_law
          (refine step_app2 rfl _ _ (by rfl) (by rfl) (by rfl) (by rfl) (HAP.out _ _ (((Gr.refl _).drewN _).alloc _ _) (by go_simp) (by go_simp)) ?_
           rintro v7 w7 ⟨ho7, hg7, hv7⟩
           obtain ⟨A7, c7, rfl, k1, k2, HN⟩ := HADD.out _ _ _ (((Gr.refl _).drewN _).alloc _ _) ho7 hg7 hv7
           clear ho7 hg7 hv7)
        all_goals
          go_wp2
          go_roundw
          case rel => exact ⟨k + 1, by omega, by go_num, Lib.hid HN⟩
          case measure => simp [intOf]; omega
    · obtain rfl : k = l.length := by omega
      have HE : Hid (GatPost (grpF how ns) l w (.returned u5) wr) := Lib.hid (by
        obtain ⟨cs, h⟩ := HG.out
        rw [List.take_length] at h
        exact ⟨W1, _, cs, M, HB1.out, rfl, h⟩)
      clear HG HGW
      go_wp2
      go_ret
      exact HE.out
end Go.Proofs.YtllhkegefinlbaaGreatDoor.Pt
