/- gather: its walk. -/
import Derived.Test.YtoooaipbkkiefaaGreatDoorGath
import Derived.Deep.RegionLaw
import Derived.Deep.RegionHeld3
namespace Go.Proofs.YtoooaipbkkiefaaGreatDoor
open Go.RowKit Go.Maps Go.WideMaps
set_option maxRecDepth 100000
set_option maxHeartbeats 4000000

theorem name_le {s : ByteArray} (h : nameB s = true) : s.size ≤ 64 := by
  unfold nameB at h
  have hs : s.size = s.data.toList.length := by simp
  rw [hs]
  cases hd : s.data.toList with
  | nil => simp
  | cons c r =>
    rw [hd] at h
    simp [nameL] at h
    simp; omega
theorem szK_right {l : List Lb} (h : rightP l) : szK l ≤ 20000 := by
  obtain ⟨h32, ho, -⟩ := rightP_iff.1 h
  have key : ∀ l : List Lb, (∀ x ∈ l, okV x = true) → szK l ≤ l.length * 400 := by
    intro l
    induction l with
    | nil => intro _; simp [szK]
    | cons x r ih =>
      intro hx
      have h1 := hx x (by simp)
      have h2 := ih fun y hy => hx y (by simp [hy])
      simp only [okV, Bool.and_eq_true, decide_eq_true_eq] at h1
      have := name_le h1.1
      unfold szK at h2 ⊢
      rw [List.map_cons, List.sum_cons, List.length_cons]
      omega
  have := key l ho
  omega
theorem szK_set (l : List Lb) : szK (setV l) ≤ 20000 := by
  unfold setV
  split
  · exact szK_right (setL_right (by assumption))
  · simp [szK]
theorem keyL_set (l : List Lb) : (keyL (setV l)).length ≤ 20000 := by
  refine Nat.le_trans (keyL_len (setV l) fun x hx => ?_) (szK_set l)
  have := szK_set l
  obtain ⟨i, hi, rfl⟩ := List.getElem_of_mem hx
  have := szK_take hi
  omega
theorem setV_len (l : List Lb) : (setV l).length ≤ 32 := by
  unfold setV
  split
  · exact (setL_right (by assumption)).1
  · simp
/-- samples as they come, in memory -/
def RawsAt (W : World) (A : Option Addr) (l : List Rwm) : Prop :=
  0 < l.length → ∃ b o, A = some ⟨b, o, none⟩ ∧ ∀ i x, l[i]? = some x → ∃ LA lc, W.cell? ⟨b, o + i * 3, none⟩ = some (.slice LA x.l.length lc) ∧ LabsAt W LA x.l ∧ W.cell? ⟨b, o + i * 3 + 1, none⟩ = some (.int .i64 x.t) ∧ W.cell? ⟨b, o + i * 3 + 2, none⟩ = some (.float .f64 x.v)
theorem RawsAt.gr {W W' : World} {A : Option Addr} {l : List Rwm} (h : RawsAt W A l) (g : Gr W W') : RawsAt W' A l := fun h0 => by
  obtain ⟨b, o, e, hc⟩ := h h0
  refine ⟨b, o, e, fun i x hx => ?_⟩
  obtain ⟨LA, lc, c1, c2, c3, c4⟩ := hc i x hx
  exact ⟨LA, lc, g.cell c1, c2.gr g, g.cell c3, g.cell c4⟩
theorem RawsAt.at_ {W : World} {A : Option Addr} {l : List Rwm} (h : RawsAt W A l) {k : Nat} (hk : k < l.length) :
    ∃ b o LA lc, A = some ⟨b, o, none⟩ ∧ W.cell? ⟨b, o + k * 3, none⟩ = some (.slice LA (l[k]).l.length lc) ∧ LabsAt W LA (l[k]).l ∧ W.cell? ⟨b, o + k * 3 + 1, none⟩ = some (.int .i64 (l[k]).t) ∧ W.cell? ⟨b, o + k * 3 + 2, none⟩ = some (.float .f64 (l[k]).v) ∧ b < W.heap.size := by
  obtain ⟨b, o, e, hc⟩ := h (by omega)
  obtain ⟨LA, lc, c1, c2, c3, c4⟩ := hc k _ (List.getElem?_eq_getElem hk)
  exact ⟨b, o, LA, lc, e, c1, c2, c3, c4, World.block_lt_of_cell? W _ c1⟩
/-- such as the laws have -/
structure Wr (l : List Rwm) : Prop where
  n : l.length ≤ 1000
  l : ∀ r ∈ l, Wd r.l ∧ r.l.length ≤ 1000
def GatPost (l : List Rwm) (w : World) (e : Ending) (w' : World) : Prop :=
  if errA l = 0 then ∃ v cs gs M ks, e = .returned (.tuple #[v, .int .i64 0]) ∧ GSt w w' M v cs gs ks ∧ Gath gs l else e = .returned (.tuple #[.slice none 0 0, .int .i64 (errA l)]) ∧ Gr w w'
/-- at the head of a round -/
def GHd (w W : World) (M : Nat) (v : Value) (l : List Rwm) (k : Nat) : Prop := (∀ r ∈ l.take k, rawE r = 0) ∧ ∃ cs gs, GSt w W M v cs gs (gs.map (·.1)) ∧ Gath gs (l.take k) ∧ gs.length ≤ k
theorem GHd.g {w W : World} {M : Nat} {v : Value} {l : List Rwm} {k : Nat} (h : GHd w W M v l k) : Gr w W := by
  obtain ⟨-, cs, gs, hg, -⟩ := h
  exact hg.g
theorem GSt.face {w W : World} {M : Nat} {v : Value} {cs : List Sc} {gs : List Se} {ks : List (List Lb)} (h : GSt w W M v cs gs ks) {i : Nat} {c : Sc} {s : Se} (hc : cs[i]? = some c) (hs : gs[i]? = some s) :
    ∃ g cap a2 c2, v = .slice (some ⟨g, 0, none⟩) cs.length cap ∧ c.2.v = .slice a2 s.2.length c2 ∧ W.cell? ⟨g, i * 2 + 1, none⟩ = some (.slice a2 s.2.length c2) ∧ W.cell? ⟨g, i * 2, none⟩ = some c.1.v ∧ g < W.heap.size := by
  have hi := (List.getElem?_eq_some_iff.1 hc).1
  obtain ⟨A0, c0, rfl, hat, -, -, hA⟩ := h.row.form (fun _ => rfl)
  obtain ⟨g, rfl, hB⟩ := hA (by omega)
  obtain ⟨a2, c2, e2, -⟩ := (h.rd i c s hc hs).2.form (fun _ => rfl)
  obtain ⟨b, o, e, hcells⟩ := hat (by omega)
  injection e with e; injection e with e1 e2'; subst e1; subst e2'
  obtain ⟨d1, d2⟩ := hcells i c hc _ _ rfl
  rw [Nat.zero_add] at d1 d2
  exact ⟨g, c0, a2, c2, rfl, e2, by rw [← e2]; exact d2, d1, World.block_lt_of_cell? W _ d1⟩
theorem map_set_fst {gs : List Se} {i : Nat} {s : Se} (hs : gs[i]? = some s) (q : List Sm) : (gs.set i (s.1, q)).map (·.1) = gs.map (·.1) := by
  have hi := (List.getElem?_eq_some_iff.1 hs).1
  apply List.ext_getElem?
  intro j
  rw [List.getElem?_map, List.getElem?_map, List.getElem?_set]
  by_cases e : i = j
  · subst e; rw [if_pos rfl, if_pos hi, hs]; rfl
  · rw [if_neg e]
theorem set_end {gs : List Se} {x : Se} (q : Se) : (gs ++ [x]).set gs.length q = gs ++ [q] := by
  rw [List.set_append_right _ _ (Nat.le_refl _), Nat.sub_self]; rfl
theorem own_of_none {W W' : World} (g : W.grownBy W' none) : Gr W W' := ⟨⟨g.os, g.tape, g.output, g.size, fun i hi => g.block i hi (by simp)⟩⟩
theorem gather_any (A : Option Addr) (c : Nat) (l : List Rwm) (w : World) (h : RawsAt w A l) (hw : Wr l) (hk : Kn w) (ht : Tab w) :
    Calls Tryz.prog 47 #[.slice A l.length c] w (GatPost l w) := by
  have HL := Lib.hid h; have HW := Lib.hid hw; have HKn := Lib.hid hk; have HT := Lib.hid ht
  have hmm := @run_makeMap Tryz.prog
  have hn := hw.n
  clear h hw hk ht
  go_enter Tryz.func47, Tryz.ntmps47
  go_wp2
  have H0 : Hid (GHd w (w.alloc (.map #[] 0)) w.heap.size (.slice none 0 0) l 0) := Lib.hid (by
    refine ⟨fun r hr => by simp at hr, [], [], ⟨own_of_none (World.grownBy_alloc w _ none), Own2.nil _ _, rfl, fun k c s hc => by simp at hc, fun k c s hc => by simp at hc, fun i j c d hc => by simp at hc, Nat.le_refl _, ?_⟩, Gath.nil, Nat.le_refl _⟩
    exact ⟨_, World.ownsMap_made _ _ _ _, fun k x hx => by simp at hx, fun x _ => rfl⟩)
  obtain ⟨M, hM⟩ : ∃ M, w.heap.size = M := ⟨_, rfl⟩
  rw [hM] at H0 ⊢
  obtain ⟨W0, hW0⟩ : ∃ W0, w.alloc (.map #[] 0) = W0 := ⟨_, rfl⟩
  rw [hW0] at H0 ⊢
  clear hmm hW0
  go_loopw [4, 16] (fun v i wr => ∃ k : Nat, k ≤ l.length ∧ i = .int .i64 k ∧ Hid (GHd w wr M v l k)) (fun _ i _ => l.length - (intOf i).toNat)
  case atStart => exact ⟨0, Nat.zero_le _, rfl, H0⟩
  case round =>
    clear H0
    obtain ⟨k, hk, rfl, HG⟩ := hrel
    by_cases hlt : k < l.length
    · obtain ⟨b, o, LA, lc, rfl, c1, hLA, c2, c3, -⟩ := (HL.out.gr HG.out.g).at_ hlt
      have hwr := HW.out.l l[k] (List.getElem_mem hlt)
      obtain ⟨r, hr⟩ : ∃ r, l[k] = r := ⟨_, rfl⟩
      have GX : Hid (l[k]? = some r) := Lib.hid (by rw [List.getElem?_eq_getElem hlt, hr])
      have HTk : Hid (l.take (k + 1) = l.take k ++ [r]) := Lib.hid (by rw [List.take_succ_eq_append_getElem hlt, hr])
      rw [hr] at c1 hLA c2 c3 hwr
      have n1 : (k : Int) < (l.length : Int) := by omega
      obtain ⟨X, hX, g0, hb⟩ := fresh wr #[.slice LA r.l.length lc, .int .i64 r.t, .float .f64 r.v] 58
      have b0 := hb 0 (.slice LA r.l.length lc) rfl
      have b1 := hb 1 (.int .i64 r.t) rfl
      have b2 := hb 2 (.float .f64 r.v) rfl
      have CL := Lib.hid (labelsOf_any LA lc r X (hLA.gr g0) hwr.1 (by omega))
      have HX := Lib.hid hX
      have G0 := Lib.hid g0
      have HBX : Hid (X.cell? ⟨wr.heap.size, 1, none⟩ = some (.int .i64 r.t) ∧ X.cell? ⟨wr.heap.size, 2, none⟩ = some (.float .f64 r.v)) := Lib.hid ⟨b1, b2⟩
      clear hb hX g0 hr hwr hLA
      obtain ⟨rl, rt, rv⟩ := r
      simp only at c1 c2 c3 b0 b1 b2 HX HBX
      go_upto_region 6 with fail
      rw [HX.out]
      clear c1 c2 c3
      go_wp2_with fail
      refine CL.out.mono ?_
      rintro e w1 ⟨g1, h1⟩
      have G1 := Lib.hid (G0.out.trans g1)
      clear CL b0 b1 b2
      by_cases hre : rawE ⟨rl, rt, rv⟩ = 0
      · rw [if_pos hre] at h1
        have HP : Hid (∀ r ∈ l.take (k + 1), rawE r = 0) := Lib.hid (by
          rw [HTk.out]
          intro r hr
          rcases List.mem_append.1 hr with hr | hr
          · exact HG.out.1 r hr
          · rw [List.mem_singleton] at hr; rw [hr]; exact hre)
        obtain ⟨A1, c1, rfl, hl1, hf1⟩ := h1
        simp only at hl1 hf1 ⊢
        have hKN := HKn.out.gr (HG.out.g.trans G1.out)
        have h32 := setV_len rl
        have hsz := szK_set rl
        have hky := keyL_set rl
        obtain ⟨x, hx⟩ : ∃ x, setV rl = x := ⟨_, rfl⟩
        rw [hx] at hl1 hf1 h32 hsz hky ⊢
        have CK := Lib.hid (key_any A1 x c1 w1 hl1 (by omega) (by omega) hKN)
        have HF1 := Lib.hid hf1; have HL1 := Lib.hid hl1; have HXX := Lib.hid hx
        have HBX1 : Hid (w1.cell? ⟨wr.heap.size, 1, none⟩ = some (.int .i64 rt) ∧ w1.cell? ⟨wr.heap.size, 2, none⟩ = some (.float .f64 rv)) := Lib.hid ⟨g1.cell HBX.out.1, g1.cell HBX.out.2⟩
        clear hl1 hf1 hx hKN hre g1 hsz
        go_wp2_with fail
        refine CK.out.mono ?_
        rintro e w2 ⟨rfl, g2⟩
        have G2 := Lib.hid (G1.out.trans g2)
        have hbx1 := g2.cell HBX1.out.1
        have hbx2 := g2.cell HBX1.out.2
        have HL2 := Lib.hid (HL1.out.gr g2)
        clear CK g2 HBX1 HL1
        obtain ⟨-, cs, gs, hgs, hga, hgl⟩ := HG.out
        obtain ⟨A0, c0, rfl, -, hnc, hcm, -⟩ := hgs.row.form (fun _ => rfl)
        have hgs2 := hgs.gr G2.out
        have hlen := hgs.len
        obtain ⟨ci, bk, hrl, hyes, hno⟩ := hgs2.m.look x (by unfold maxLen; omega)
        have HGS := Lib.hid hgs; have HGS2 := Lib.hid hgs2; have HGA := Lib.hid hga; have HLEN := Lib.hid hlen
        clear hgs hgs2 hga hlen
        cases bk
        · have HNO := Lib.hid (hno rfl)
          clear hyes hno
          obtain ⟨w3, hr3, hgs3, hg3⟩ := HGS2.out.put x (by unfold maxLen; omega) HNO.out (by simp; omega)
          rw [List.length_map, ← HLEN.out] at hr3
          have hM1 : M < wr.heap.size := by
            obtain ⟨es, ck, h⟩ := HGS.out.m.obj
            exact (Array.getElem?_eq_some_iff.1 h).1
          have hM2 : some wr.heap.size ≠ some M := by simp; omega
          have hby1 := hg3.cell hbx1 (by exact hM2)
          have hby2 := hg3.cell hbx2 (by exact hM2)
          have HL3 : Hid (LabV w3 ⟨A1, x.length, c1⟩ x) := Lib.hid ((show LabV w2 ⟨A1, x.length, c1⟩ x from ⟨rfl, HL2.out⟩).only hg3 (fun h0 b hb => by
            obtain ⟨b', o', e', hb'⟩ := HF1.out h0
            rw [e'] at hb
            simp [Sl.v, Value.ownBlock] at hb
            have := G0.out.size
            simp; omega))
          have g4 : Gr w3 (w3.alloc (.cells #[.slice A1 x.length c1, .slice none 0 0] 87)) := (Gr.refl w3).alloc _ _
          have HS4 := Lib.hid (hgs3.gr g4)
          have HAPP := Lib.hid (run_appC (c := 1) HS4.out.row (at2_one (enc := encS) w3 ((⟨A1, x.length, c1⟩, ⟨none, 0, 0⟩) : Sc) _ _ rfl 87) (by have := HLEN.out; simp; omega) HS4.out.g.size)
          have hbz1 := g4.cell hby1
          have hbz2 := g4.cell hby2
          clear hgs3 hbx1 hbx2 hby1 hby2 hg3
          go_wp2_with (first
            | (at_builtin; refine wpList_app2 rfl _ _ (by rfl) (by rfl) rfl rfl HAPP.out ?_; rintro v5 w5 ⟨ho5, hg5, hv5⟩)
            | fail)
          have hbx0 : ∀ b, b = wr.heap.size → ∀ k, (Value.slice A0 cs.length c0).ownBlock = some k → k ≠ b := fun b e k hk => by have := (HGS.out.row.lt hk).2; omega
          have HS5 : Hid (GSt w w5 M v5 (cs ++ [(⟨A1, x.length, c1⟩, ⟨none, 0, 0⟩)]) (gs ++ [(x, [])]) (gs.map (·.1) ++ [x])) := Lib.hid (HS4.out.more (HL3.out.gr g4) (fun h0 b hb => by
            obtain ⟨b', o', e', hb'⟩ := HF1.out h0
            have : b' = b := by rw [e'] at hb; simpa [Sl.v, Value.ownBlock] using hb
            have := G0.out.size
            refine ⟨fun e => ?_, by omega, fun j d hd e => ?_⟩
            · have := (HGS.out.row.lt e).2; omega
            · have hj := (List.getElem?_eq_some_iff.1 hd).1
              have := ((HGS.out.rd j d _ hd (List.getElem?_eq_getElem (by rw [← HLEN.out]; exact hj))).2.lt e).2
              omega) ho5 hg5 hv5)
          have e1 := hg5.cell hbz1 (by
            intro e
            exact hbx0 _ rfl _ e.symm rfl)
          have e2 := hg5.cell hbz2 (by
            intro e
            exact hbx0 _ rfl _ e.symm rfl)
          have hcc : (cs ++ [((⟨A1, x.length, c1⟩, ⟨none, 0, 0⟩) : Sc)])[cs.length]? = some (⟨A1, x.length, c1⟩, ⟨none, 0, 0⟩) := by simp
          have hss : (gs ++ [((x, []) : Se)])[cs.length]? = some (x, []) := by rw [HLEN.out]; simp
          have HEND : Hid (∀ W' q, GSt w W' M v5 ((cs ++ [((⟨A1, x.length, c1⟩, ⟨none, 0, 0⟩) : Sc)]).set cs.length q) ((gs ++ [((x, []) : Se)]).set cs.length (x, ([] : List Sm) ++ [smO ⟨rl, rt, rv⟩])) (gs.map (·.1) ++ [x]) → GHd w W' M v5 l (k + 1)) := Lib.hid (fun W' q h => by
            rw [HLEN.out, set_end] at h
            refine ⟨HP.out, (cs ++ [((⟨A1, x.length, c1⟩, ⟨none, 0, 0⟩) : Sc)]).set gs.length q, _, ?_, by rw [HTk.out]; exact HGA.out.new (r := ⟨rl, rt, rv⟩) (by rw [HXX.out]; exact HNO.out), by simp; omega⟩
            rw [HXX.out]
            simpa using h)
          have HW5 : Hid (Gr w w5) := Lib.hid HS5.out.g
          obtain ⟨sl5, hsl5⟩ : ∃ y : Sc, ((⟨A1, x.length, c1⟩, ⟨none, 0, 0⟩) : Sc) = y := ⟨_, rfl⟩
          rw [hsl5] at hcc HEND HS5
          obtain ⟨ss, hss5⟩ : ∃ y : Se, ((x, []) : Se) = y := ⟨_, rfl⟩
          have hssl : ss.2.length ≤ 1000 := by rw [← hss5]; simp
          have HEND : Hid (∀ W' q, GSt w W' M v5 ((cs ++ [sl5]).set cs.length q) ((gs ++ [ss]).set cs.length (ss.1, ss.2 ++ [smO ⟨rl, rt, rv⟩])) (gs.map (·.1) ++ [x]) → GHd w W' M v5 l (k + 1)) := Lib.hid (by rw [← hss5]; exact HEND.out)
          rw [hss5] at hss HS5
          obtain ⟨i, hi⟩ : ∃ i, cs.length = i := ⟨_, rfl⟩
          rw [hi] at hcc hss HEND ⊢
          obtain ⟨csz, hcs⟩ : ∃ y, cs ++ [sl5] = y := ⟨_, rfl⟩
          obtain ⟨gsz, hgz⟩ : ∃ y, gs ++ [ss] = y := ⟨_, rfl⟩
          obtain ⟨ksz, hkz⟩ : ∃ y, gs.map (·.1) ++ [x] = y := ⟨_, rfl⟩
          rw [hcs] at hcc HEND HS5
          rw [hgz] at hss HEND HS5
          rw [hkz] at HEND HS5
          have HILE : Hid (i ≤ 1000 ∧ gsz.length ≤ 1001) := Lib.hid ⟨by have := HLEN.out; omega, by rw [← hgz]; simp; omega⟩
          clear hcs hgz hkz hi hss5 hsl5 ho5 hg5 hv5 hbz1 hbz2 HAPP HS4 HL3 g4 HGS HGS2 HGA HLEN HNO HF1 HL2 G0 G1 G2 HBX HX HG hr3 hM1 hM2 hbx0
          have HTB := Lib.hid (HT.out.gr HW5.out)
          obtain ⟨g, cap, a2, c2, hvf, hcv, d1, -, hgl2⟩ := HS5.out.face hcc hss
          have HPR : Hid (OwnP w5 w.heap.size (.slice a2 ss.2.length c2) ss.2) := Lib.hid (by rw [← hcv]; exact (HS5.out.rd i sl5 ss hcc hss).2)
          have HADD : Hid (∀ Wy W7 v7, Gr w5 Wy → OwnP W7 w.heap.size v7 (ss.2 ++ [smO ⟨rl, rt, rv⟩]) → Wy.grownBy W7 (Value.slice a2 ss.2.length c2).ownBlock → (v7.ownBlock = (Value.slice a2 ss.2.length c2).ownBlock ∨ v7.ownBlock = some Wy.heap.size) → ∃ A7 c7, v7 = .slice A7 (ss.2.length + 1) c7 ∧ W7.cell? ⟨g, i * 2 + 1, none⟩ = some (.slice a2 ss.2.length c2) ∧ W7.frozen? ⟨g, i * 2 + 1, none⟩ = false ∧ GHd w (W7.setCell ⟨g, i * 2 + 1, none⟩ v7) M v5 l (k + 1)) := Lib.hid (fun Wy W7 v7 gy ho hgr hv => by
            obtain ⟨A7, c7, rfl, -⟩ := ho.form (fun _ => rfl)
            obtain ⟨g', eg, -, k1, k2, hst⟩ := (HS5.out.gr gy).add hcc hss (smO ⟨rl, rt, rv⟩) (sl := ⟨A7, (ss.2 ++ [smO ⟨rl, rt, rv⟩]).length, c7⟩) ho (by rw [hcv]; exact hgr) (by rw [hcv]; exact hv)
            have : g' = g := by rw [hvf] at eg; simpa [Value.ownBlock] using eg.symm
            subst this
            rw [hcv] at k1
            refine ⟨A7, c7, by simp, k1, k2, HEND.out _ _ hst⟩)
          have HSZ : Hid (∀ W', Gr w5 W' → w.heap.size ≤ W'.heap.size) := Lib.hid (fun W' gg => (HW5.out.trans gg).size)
          have d1a : ∀ n xs t, ((w5.drewN n).alloc (.cells xs t)).cell? ⟨g, i * 2 + 1, none⟩ = some (.slice a2 ss.2.length c2) := fun n xs t => (((Gr.refl w5).drewN n).alloc xs t).cell d1
          have CC := Lib.hid (fun W' (gg : Gr w5 W') => scanon_any rv W' (HTB.out.gr gg))
          have hil : i < csz.length := (List.getElem?_eq_some_iff.1 hcc).1
          have m1 : (i : Int) < ((csz.length : Nat) : Int) := by omega
          have m2 : (0 : Int) ≤ (i : Int) := by omega
          rw [hvf] at HADD ⊢
          clear hss hcc hcv HEND HS5 HTB HW5 HILE hil
          go_region_law
            (first
              | (go_simp
                 go_at_call 80
                 refine (CC.out _ (by first | exact (Gr.refl _).drew | exact Gr.refl _)).mono ?_
                 rintro e w6 ⟨rfl, n6, rfl⟩)
              | (refine step_app2 rfl _ _ (by rfl) (by rfl) (by rfl) (by rfl) (run_appP (c := 1) (m := [smO ⟨rl, rt, rv⟩]) (HPR.out.gr (((Gr.refl _).drewN _).alloc _ _)) (at2_one (enc := encP) _ (smO ⟨rl, rt, rv⟩) _ _ rfl _) (by simp; omega) (HSZ.out _ (((Gr.refl _).drewN _).alloc _ _))) ?_
                 rintro v7 w7 ⟨ho7, hg7, hv7⟩
                 obtain ⟨A7, c7, rfl, k1, k2, HN⟩ := HADD.out _ _ _ (((Gr.refl _).drewN _).alloc _ _) ho7 hg7 hv7
                 clear ho7 hg7 hv7))
          all_goals
            go_wp2
            go_roundw
            case rel => exact ⟨k + 1, by omega, by go_num, Lib.hid HN⟩
            case measure => simp [intOf]; omega
        · obtain ⟨i, rfl, hki⟩ := hyes rfl
          clear hno hyes
          rw [List.getElem?_map] at hki
          obtain ⟨ss, hss, hs1⟩ : ∃ ss, gs[i]? = some ss ∧ ss.1 = x := by
            cases h : gs[i]? with
            | none => rw [h] at hki; cases hki
            | some y => rw [h] at hki; exact ⟨y, rfl, by simpa using hki⟩
          have hil : i < cs.length := by have := (List.getElem?_eq_some_iff.1 hss).1; have := HLEN.out; omega
          obtain ⟨sl5, hcc⟩ : ∃ y, cs[i]? = some y := ⟨_, List.getElem?_eq_getElem hil⟩
          have hssl : ss.2.length ≤ 1000 := by
            rw [HGA.out.s ss (List.mem_of_getElem? hss)]
            refine Nat.le_trans (smp_len _ _) ?_
            simp; omega
          have HEND : Hid (∀ W' q, GSt w W' M (.slice A0 cs.length c0) (cs.set i q) (gs.set i (ss.1, ss.2 ++ [smO ⟨rl, rt, rv⟩])) (gs.map (·.1)) → GHd w W' M (.slice A0 cs.length c0) l (k + 1)) := Lib.hid (fun W' q h => by
            refine ⟨HP.out, _, _, by rw [map_set_fst hss]; exact h, by rw [HTk.out]; exact HGA.out.old hss (by rw [hs1, HXX.out]), by simp; omega⟩)
          have HILE : Hid (i ≤ 1000 ∧ gs.length ≤ 1001) := Lib.hid ⟨by have := HLEN.out; omega, by omega⟩
          have HW5 : Hid (Gr w w2) := Lib.hid HGS2.out.g
          have e1 := hbx1
          have e2 := hbx2
          have HS5 := HGS2
          clear hki hs1 HGS HGS2 HGA HLEN HF1 HL2 G0 G1 G2 HBX HX HG hbx1 hbx2 hil
          go_wp2_with fail
          have HTB := Lib.hid (HT.out.gr HW5.out)
          obtain ⟨g, cap, a2, c2, hvf, hcv, d1, -, hgl2⟩ := HS5.out.face hcc hss
          have HPR : Hid (OwnP w2 w.heap.size (.slice a2 ss.2.length c2) ss.2) := Lib.hid (by rw [← hcv]; exact (HS5.out.rd i sl5 ss hcc hss).2)
          have HADD : Hid (∀ Wy W7 v7, Gr w2 Wy → OwnP W7 w.heap.size v7 (ss.2 ++ [smO ⟨rl, rt, rv⟩]) → Wy.grownBy W7 (Value.slice a2 ss.2.length c2).ownBlock → (v7.ownBlock = (Value.slice a2 ss.2.length c2).ownBlock ∨ v7.ownBlock = some Wy.heap.size) → ∃ A7 c7, v7 = .slice A7 (ss.2.length + 1) c7 ∧ W7.cell? ⟨g, i * 2 + 1, none⟩ = some (.slice a2 ss.2.length c2) ∧ W7.frozen? ⟨g, i * 2 + 1, none⟩ = false ∧ GHd w (W7.setCell ⟨g, i * 2 + 1, none⟩ v7) M (.slice A0 cs.length c0) l (k + 1)) := Lib.hid (fun Wy W7 v7 gy ho hgr hv => by
            obtain ⟨A7, c7, rfl, -⟩ := ho.form (fun _ => rfl)
            obtain ⟨g', eg, -, k1, k2, hst⟩ := (HS5.out.gr gy).add hcc hss (smO ⟨rl, rt, rv⟩) (sl := ⟨A7, (ss.2 ++ [smO ⟨rl, rt, rv⟩]).length, c7⟩) ho (by rw [hcv]; exact hgr) (by rw [hcv]; exact hv)
            have : g' = g := by rw [hvf] at eg; simpa [Value.ownBlock] using eg.symm
            subst this
            rw [hcv] at k1
            refine ⟨A7, c7, by simp, k1, k2, HEND.out _ _ hst⟩)
          have HSZ : Hid (∀ W', Gr w2 W' → w.heap.size ≤ W'.heap.size) := Lib.hid (fun W' gg => (HW5.out.trans gg).size)
          have d1a : ∀ n xs t, ((w2.drewN n).alloc (.cells xs t)).cell? ⟨g, i * 2 + 1, none⟩ = some (.slice a2 ss.2.length c2) := fun n xs t => (((Gr.refl w2).drewN n).alloc xs t).cell d1
          have CC := Lib.hid (fun W' (gg : Gr w2 W') => scanon_any rv W' (HTB.out.gr gg))
          have hil : i < cs.length := (List.getElem?_eq_some_iff.1 hcc).1
          have m1 : (i : Int) < ((cs.length : Nat) : Int) := by omega
          have m2 : (0 : Int) ≤ (i : Int) := by omega
          obtain ⟨rfl, rfl⟩ : A0 = some ⟨g, 0, none⟩ ∧ c0 = cap := by injection hvf with h1 h2 h3; exact ⟨h1, h3⟩
          clear hss hcc hcv HEND HS5 HTB HW5 HILE hil
          go_region_law
            (first
              | (go_simp
                 go_at_call 80
                 refine (CC.out _ (by first | exact (Gr.refl _).drew | exact Gr.refl _)).mono ?_
                 rintro e w6 ⟨rfl, n6, rfl⟩)
              | (refine step_app2 rfl _ _ (by rfl) (by rfl) (by rfl) (by rfl) (run_appP (c := 1) (m := [smO ⟨rl, rt, rv⟩]) (HPR.out.gr (((Gr.refl _).drewN _).alloc _ _)) (at2_one (enc := encP) _ (smO ⟨rl, rt, rv⟩) _ _ rfl _) (by simp; omega) (HSZ.out _ (((Gr.refl _).drewN _).alloc _ _))) ?_
                 rintro v7 w7 ⟨ho7, hg7, hv7⟩
                 obtain ⟨A7, c7, rfl, k1, k2, HN⟩ := HADD.out _ _ _ (((Gr.refl _).drewN _).alloc _ _) ho7 hg7 hv7
                 clear ho7 hg7 hv7))
          all_goals
            go_wp2
            go_roundw
            case rel => exact ⟨k + 1, by omega, by go_num, Lib.hid HN⟩
            case measure => simp [intOf]; omega
      · rw [if_neg hre] at h1
        subst h1
        have HE : Hid (∀ W, Gr wr W → GatPost l w (.returned (.tuple #[.slice none 0 0, .int .i64 (rawE ⟨rl, rt, rv⟩)])) W) := Lib.hid (fun W g => by
          have e := errA_at GX.out HG.out.1 hre
          unfold GatPost
          rw [e, if_neg hre]
          exact ⟨rfl, HG.out.g.trans g⟩)
        obtain ⟨d, hd⟩ : ∃ d, rawE ⟨rl, rt, rv⟩ = d := ⟨_, rfl⟩
        rw [hd] at HE hre ⊢
        clear hd
        go_wp2
        go_ret2
        exact HE.out _ G1.out
    · obtain rfl : k = l.length := by omega
      have HE : Hid (GatPost l w (.returned (.tuple #[u4, .int .i64 0])) wr) := Lib.hid (by
        obtain ⟨h1, cs, gs, h2, h3, -⟩ := HG.out
        rw [List.take_length] at h1 h3
        unfold GatPost
        rw [if_pos (errA_all h1)]
        exact ⟨_, cs, gs, M, _, rfl, h2, h3⟩)
      clear HG
      go_wp2
      go_ret2
      exact HE.out
end Go.Proofs.YtoooaipbkkiefaaGreatDoor
