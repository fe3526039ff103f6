/- IrWraps: the walk. -/
import Derived.Test.YtikaamonmaohjaaGreatDoorIKno
import Derived.Lib.QuietBelow
import Derived.BigFrame
import Derived.BigQuiet
namespace Go.Proofs.YtikaamonmaohjaaGreatDoor.Ir
open Go.RowKit Go.Shelf Go.Sort
set_option maxRecDepth 100000
set_option maxHeartbeats 10000000
attribute [local irreducible] wpQuiet

/-- known() holds from here on -/
def Kno12 (w : World) : Prop := ∀ W, Gr w W → Calls Tryz.prog 5 #[] W fun e w' => e = .returned (.bool true) ∧ Gr W w'
section
variable {ops : Array Oper} {rest : List Oper} {o : Oper} {a : Act} {w : World} {Q : Exit → Act → World → Prop} {d : Nf} {p : Np} {nk : Nat}
theorem quiet_node {C : World → Prop} {Q2 : Act → Prop} (x : Operand) (ho : o.op = .load 31 x) (hw : Region.wanted o (yielded ops a.tmps) = true) (b : Nat) (hx : a.eval x = .pointer (some ⟨b, 0, none⟩)) (hc : ∀ w, C w → CellsAt w b 0 (nV d p nk))
    (h : wpQuiet Tryz.prog ops C Q2 rest (a.put o.dst (.agg (nV d p nk).toArray))) : wpQuiet Tryz.prog ops C Q2 (o :: rest) a :=
  BigFrame.wpQuiet_want hw fun _ hK => ⟨.agg (nV d p nk).toArray, fun w hC => by
    unfold Oper.quietAt execOp
    simp only [ho, hx, Instr.loadAt, Instr.sureAddr, Sem.run_bind, Sem.run_pure, Result.andThen_ok, run_loadVar_mid w b 0 31 (nV d p nk) _ (hc w hC) Tryz.underlying31 rfl info_node]
    exact ⟨rfl, rfl⟩, hK _ h⟩
theorem load_nodeG (x : Operand) (ho : o.op = .load 31 x) (hw : Region.wanted o (yielded ops a.tmps) = true) (b of : Nat) (hx : a.eval x = .pointer (some ⟨b, of, none⟩)) (hc : CellsAt w b of (nV d p nk))
    (h : wpList Tryz.prog ops Q rest (a.put o.dst (.agg (nV d p nk).toArray)) w) : wpList Tryz.prog ops Q (o :: rest) a w :=
  BigFrame.wpList_want hw fun _ hK => wp_load_mid 31 x ho b of hx (nV d p nk) _ hc Tryz.underlying31 rfl info_node (hK _ _ h)
end
section
variable {ops : Array Oper} {rest : List Oper} {o : Oper} {a : Act} {w : World} {Q : Exit → Act → World → Prop} {d : Nf} {p : Np} {nk : Nat}
theorem build_node (hgd : o.guard = none) (x : Operand) (ho : o.op = .buildSlice 29 1 #[(0, x)]) (hx : a.eval x = .agg (nV d p nk).toArray)
    (h : wpList Tryz.prog ops Q rest (a.put o.dst (.slice (some ⟨w.heap.size, 0, none⟩) 1 1)) (w.alloc (.cells (nV d p nk).toArray 31))) : wpList Tryz.prog ops Q (o :: rest) a w :=
  wpList_plain hgd fun _ hK => by
    unfold Oper.wp execOp
    simp only [ho, List.map_toArray, List.map_cons, List.map_nil, hx]
    simp [go_sem, build_fold]
    exact hK _ _ h
theorem store_x (hgd : o.guard = none) (x y : Operand) (ho : o.op = .store 31 x y) (X : Nat) (hx : a.eval x = .pointer (some ⟨X, 0, none⟩)) {d' : Nf} {p' : Np} {nk' : Nat} (hy : a.eval y = .agg (nV d' p' nk').toArray) (hX : w.heap[X]? = some (.cells (nV d p nk).toArray 31 (0, 0)))
    (h : wpList Tryz.prog ops Q rest (a.put o.dst undef) (w.setRow X (nV d' p' nk').toArray)) : wpList Tryz.prog ops Q (o :: rest) a w :=
  wpList_store_row hgd 31 x y ho X (nV d' p' nk').toArray hx hy 31 _ hX info_node rfl (one_node d' p' nk') h
end
theorem chkV_2 {t : Tr} (h1 : (chkV t).1 = 2) (_h2 : (chkV t).2 = 0) : limB t = false ∧ ckT t = .ok 2 := by
  unfold chkV at h1
  cases hl : limB t
  · rw [hl] at h1
    refine ⟨rfl, ?_⟩
    cases hc : ckT t with
    | error e => rw [hc] at h1; simp at h1
    | ok a => rw [hc] at h1; simp at h1; rw [h1]
  · rw [hl] at h1; simp at h1
theorem limB_no {t : Tr} (h : limB t = false) : cnt t ≤ 400 ∧ dep t ≤ 40 ∧ fit t 1 = true := by
  unfold limB at h
  simp at h
  exact ⟨h.1.1, h.1.2, h.2⟩
theorem walkWraps (t : Tr) (p : Np) (times kind : Int) (w : World) (h : TrP w t p) (hl : Lt w) (hK : Kno12 w) (ht1 : -9223372036854775808 ≤ times) (ht2 : times ≤ 9223372036854775807) :
    Calls Tryz.prog 4 #[.agg (nV t.d p t.ks.length).toArray, .int .i64 times, .int .i64 kind] w fun e w' => e = .returned (.bool true) ∧ Gr w w' := by
  obtain ⟨W1, hW1, g1, hb1, -, hsz⟩ := nbox w (nV t.d p t.ks.length) 31
  obtain ⟨P, hP⟩ : ∃ P, w.heap.size = P := ⟨_, rfl⟩
  rw [hP] at hb1 hsz
  have HP := Lib.hid hP; have HW1 := Lib.hid hW1; have HG1 := Lib.hid g1
  have HT := Lib.hid h; have HL := Lib.hid hl
  have HB : Hid (∀ W, Gr W1 W → CellsAt W P 0 (nV t.d p t.ks.length)) := Lib.hid (fun W g => hb1.gr g)
  have CK := Lib.hid (hK W1 g1)
  have CF := Lib.hid (fun W (g : Gr W1 W) => few_any t p W (TrP.gr (g1.trans g) t p h))
  have CS := Lib.hid (fun W (g : Gr W1 W) => isize_any t p W (TrP.gr (g1.trans g) t p h))
  have CD := Lib.hid (fun W (g : Gr W1 W) => idepth_any t p W (TrP.gr (g1.trans g) t p h))
  clear hW1 g1 hb1 hsz hP h hl hK
  go_enter Tryz.func4, Tryz.ntmps4
  go_upto_region 1 with fail
  rw [HW1.out, HP.out]
  go_wp2_with fail
  refine CK.out.mono ?_
  rintro e w2 ⟨rfl, g2⟩
  have hb2 := HB.out _ g2
  have CF2 := Lib.hid (CF.out _ g2)
  go_wp2_with (refine load_node rfl (.tmp 3) rfl _ _ rfl hb2 ?_)
  refine CF2.out.mono ?_
  rintro e w3 ⟨b, rfl, hfew, g3⟩
  have g3 : Gr W1 w3 := g2.trans g3
  have G3 := Lib.hid g3
  have HFEW := Lib.hid hfew
  clear CK CF CF2 hb2 g2 hfew g3
  cases b
  · go_wp2
    go_ret
    exact ⟨rfl, HG1.out.trans G3.out⟩
  obtain ⟨hc1, hc2, hok⟩ := HFEW.out rfl
  have HOK := Lib.hid hok
  have HC1 := Lib.hid hc1
  clear hc1 hc2 hok
  rcases (Decidable.em (times < 1)) with hlo | hlo
  · go_wp2
    go_ret
    exact ⟨rfl, HG1.out.trans G3.out⟩
  rcases (Decidable.em (60 < times)) with hhi | hhi
  · have hlo2 : 1 ≤ times := by omega
    go_wp2
    go_ret
    exact ⟨rfl, HG1.out.trans G3.out⟩
  obtain ⟨n, rfl⟩ : ∃ n : Nat, times = n := ⟨times.toNat, by omega⟩
  have hn1 : 1 ≤ n := by omega
  have hn2 : n ≤ 60 := by omega
  clear hlo hhi ht1 ht2
  have e1 : decide ((n : Int) < 1) = false := decide_eq_false (by omega)
  have e2 : decide ((60 : Int) < (n : Int)) = false := decide_eq_false (by omega)
  have CC := Lib.hid (fun W (g : Gr W1 W) => chk_any t p W (TrP.gr (HG1.out.trans g) t p HT.out) (HL.out.gr (HG1.out.trans g)) (fun x hx => Nat.le_trans (ok_nodes t 1 HOK.out x hx).m (by omega)))
  have hb3 := HB.out _ G3.out
  obtain ⟨ty, hty⟩ : ∃ x, (chkV t).1 = x := ⟨_, rfl⟩
  obtain ⟨er, her⟩ : ∃ x, (chkV t).2 = x := ⟨_, rfl⟩
  have CC3 : Hid (Calls Tryz.prog 10 #[.agg (nV t.d p t.ks.length).toArray] w3 fun e w' => e = .returned (.tuple #[.int .i64 ty, .int .i64 er]) ∧ Gr w3 w') := Lib.hid (by have := CC.out w3 G3.out; unfold CkPost at this; rw [hty, her] at this; exact this)
  have HTY := Lib.hid hty; have HER := Lib.hid her
  clear hty her CC
  go_upto_region 5 with fail
  go_wp2_with (refine load_node rfl (.tmp 3) rfl _ _ rfl hb3 ?_)
  refine CC3.out.mono ?_
  rintro e w4 ⟨rfl, g4⟩
  have G4 : Hid (Gr W1 w4) := Lib.hid (G3.out.trans g4)
  have hb4 := HB.out _ G4.out
  clear g4 hb3 CC3
  rcases (Decidable.em (er = 0)).symm with he | he
  · have he2 : (er != 0) = true := by simpa using he
    clear he
    go_wp2
    go_ret
    exact ⟨rfl, HG1.out.trans G4.out⟩
  subst he
  rcases (Decidable.em (ty = 2)).symm with he | he
  · have he2 : (ty != 2) = true := by simpa using he
    clear he
    go_wp2
    go_ret
    exact ⟨rfl, HG1.out.trans G4.out⟩
  subst he
  have CS4 := Lib.hid (CS.out _ G4.out)
  obtain ⟨sz, hsz⟩ : ∃ s, min (cnt t) 401 = s := ⟨_, rfl⟩
  rw [hsz] at CS4
  have hsz2 : sz ≤ 401 := by omega
  have HSZ := Lib.hid hsz
  clear hsz
  rcases (Decidable.em (400 < sz + n)) with hbig | hbig
  · have hbi : (400 : Int) < (sz : Int) + (n : Int) := by omega
    clear hbig
    go_wp2_with (first
      | (refine load_nodeG (.tmp 3) rfl (by rfl) _ _ rfl hb4 ?_)
      | (go_at_call 11; refine CS4.out.mono ?_; rintro e w5 ⟨rfl, g5⟩))
    go_ret
    exact ⟨rfl, (HG1.out.trans G4.out).trans g5⟩
  have hbi : decide ((400 : Int) < (sz : Int) + (n : Int)) = false := decide_eq_false (by omega)
  have HBIG : Hid (sz + n ≤ 400) := Lib.hid (by omega)
  clear hbig
  go_upto_region 8 with (first
    | (refine load_nodeG (.tmp 3) rfl (by rfl) _ _ rfl hb4 ?_)
    | (go_at_call 11; refine CS4.out.mono ?_; rintro e w5 ⟨rfl, g5⟩))
  have G5 : Hid (Gr W1 w5) := Lib.hid (G4.out.trans g5)
  have hb5 := HB.out _ G5.out
  have CD5 := Lib.hid (CD.out _ G5.out)
  obtain ⟨dt, hdt⟩ : ∃ s, min (dep t) 41 = s := ⟨_, rfl⟩
  rw [hdt] at CD5
  have HDT := Lib.hid hdt
  have hdt2 : dt ≤ 41 := by omega
  clear hdt g5 hb4 CS4 CD
  go_wp2_with (refine load_node rfl (.tmp 3) rfl _ _ rfl hb5 ?_)
  refine CD5.out.mono ?_
  rintro e w6 ⟨rfl, g6⟩
  have G6 : Hid (Gr W1 w6) := Lib.hid (G5.out.trans g6)
  have hb6 := HB.out _ G6.out
  clear g6 hb5 CD5
  have HT6 : Hid (TrP w6 t p) := Lib.hid (TrP.gr (HG1.out.trans G6.out) t p HT.out)
  have HX0 := Lib.hid (WrI.new (HG1.out.trans G6.out) HT6.out)
  obtain ⟨W7, hW7⟩ : ∃ W7, w6.alloc (.cells (nV t.d p t.ks.length).toArray 31) = W7 := ⟨_, rfl⟩
  rw [hW7] at HX0
  have HG7 : Hid (Gr W1 W7) := Lib.hid (by rw [← hW7]; exact G6.out.alloc _ _)
  have hsz7 : W7.heap.size = w6.heap.size + 1 := by rw [← hW7, World.size_alloc]
  have hP6 : P < w6.heap.size := World.block_lt_of_cell? w6 ⟨P, 0 + 0, none⟩ (hb6 0 _ rfl)
  obtain ⟨X, hX⟩ : ∃ X, w6.heap.size = X := ⟨_, rfl⟩
  rw [hX] at HX0 hP6 hsz7
  have HW7 := Lib.hid hW7; have HX := Lib.hid hX
  have HS7 := Lib.hid hsz7
  clear hW7 hX hsz7
  go_upto_region 11 with (first
    | (refine load_node rfl (.tmp 3) rfl _ _ rfl hb6 ?_)
    | (refine store_node rfl (.tmp 10) (.tmp 48) rfl rfl rfl rfl ?_; rw [HW7.out, HX.out]))
  go_loopw [11] (fun i wr => ∃ (k : Nat) (tx : Tr) (px : Np), k ≤ n ∧ i = .int .i64 k ∧ Hid (WrapOf t k tx) ∧ Hid (WrI w X tx px wr) ∧ Hid (AgX X W7 wr)) (fun i _ => n - (intOf i).toNat)
  case atStart => exact ⟨0, t, p, Nat.zero_le _, rfl, Lib.hid .nil, HX0, Lib.hid ⟨Nat.le_refl _, fun _ _ _ => rfl⟩⟩
  case round =>
    obtain ⟨k, tx, px, hk, rfl, HWO, HXI, HAG⟩ := hrel
    by_cases hlt : k < n
    · have hbx := box_cells HXI.out.box
      go_upto_region 19 with (first
        | (refine store_node rfl (.tmp 12) (.tmp 54) (d := dMap) (p := pNil) (nk := 0) rfl rfl rfl rfl ?_)
        | (refine store_node rfl (.tmp 12) (.tmp 61) (d := dAgg) (p := pNil) (nk := 0) rfl rfl rfl rfl ?_)
        | (refine store_node rfl (.tmp 12) (.tmp 64) (d := dLab) (p := pNil) (nk := 0) rfl rfl rfl rfl ?_))
      · have hd : IsW dAgg := .inr (.inl rfl)
        try simp only [Act.put]
        obtain ⟨Wy, hWy⟩ : ∃ Wy, wr.alloc (.cells (nV dAgg pNil 0).toArray 31) = Wy := ⟨_, rfl⟩
        have hY : Wy.heap[wr.heap.size]? = some (.cells (nV dAgg pNil 0).toArray 31 (0, 0)) := by rw [← hWy]; exact World.alloc_heap_new _ _
        have gy : Gr wr Wy := by rw [← hWy]; exact (Gr.refl _).alloc _ _
        obtain ⟨Y, hYe⟩ : ∃ Y, wr.heap.size = Y := ⟨_, rfl⟩
        rw [hWy, hYe]
        rw [hYe] at hY
        have hby := hbx.gr gy
        have HY := Lib.hid hY; have GY := Lib.hid gy; have HYe := Lib.hid hYe; have HWy := Lib.hid hWy
        clear hY gy hYe hWy
        obtain ⟨Wz, hWz⟩ : ∃ Wz, Wy.alloc (.cells (nV tx.d px tx.ks.length).toArray 31) = Wz := ⟨_, rfl⟩
        obtain ⟨Z, hZ⟩ : ∃ Z, Wy.heap.size = Z := ⟨_, rfl⟩
        obtain ⟨Wv, hWv⟩ : ∃ Wv, Wz.setCell ⟨Y, 16, none⟩ (.slice (some ⟨Z, 0, none⟩) 1 1) = Wv := ⟨_, rfl⟩
        obtain ⟨F, hF⟩ : ∃ F, Wv.setRow X (nV dAgg (pWr Z) 1).toArray = F := ⟨_, rfl⟩
        obtain ⟨hYv, hXv, hfin⟩ := round_mem (F := F) HXI.out hd GY.out HYe.out HY.out hWz hZ hWv
        obtain ⟨hWI, hAG⟩ := hfin hF
        have gz : Gr Wy Wz := by rw [← hWz]; exact (Gr.refl _).alloc _ _
        have cY := cell_of_row Wz Y 16 _ _ (0, 0) (heap_gr gz HY.out)
        have fY := frozen_of_row Wz Y 16 _ _ (heap_gr gz HY.out)
        have cY : Wz.cell? ⟨Y, 16, none⟩ = some (.slice none 0 0) := cY.trans rfl
        have hbv := box_cells hYv
        have HXv := Lib.hid hXv; have HWI := Lib.hid hWI; have HAG2 := Lib.hid (HAG.out.trans hAG); have HWO2 := Lib.hid (WrapOf.cons HWO.out hd)
        have HWz := Lib.hid hWz; have HZ := Lib.hid hZ; have HWv := Lib.hid hWv; have HF := Lib.hid hF
        clear hWz hZ hWv hF hYv hXv hfin hWI hAG gz hd
        go_upto_region 20 with (first
          | (refine load_node rfl (.tmp 10) rfl _ _ rfl hby ?_)
          | (refine build_node rfl (.tmp 65) rfl rfl ?_; rw [HWz.out, HZ.out]))
        rw [HWv.out]
        clear cY fY hby
        go_wp2_with (first
          | (refine load_node rfl (.tmp 12) rfl Y 0 rfl hbv ?_)
          | (refine store_x rfl (.tmp 10) (.tmp 68) rfl X rfl rfl HXv.out ?_; rw [HF.out]))
        go_roundw
        case rel => exact ⟨k + 1, _, _, by omega, by go_num, HWO2, HWI, HAG2⟩
        case measure => simp [intOf]; omega
      · have hd : IsW dLab := .inr (.inr rfl)
        try simp only [Act.put]
        obtain ⟨Wy, hWy⟩ : ∃ Wy, wr.alloc (.cells (nV dLab pNil 0).toArray 31) = Wy := ⟨_, rfl⟩
        have hY : Wy.heap[wr.heap.size]? = some (.cells (nV dLab pNil 0).toArray 31 (0, 0)) := by rw [← hWy]; exact World.alloc_heap_new _ _
        have gy : Gr wr Wy := by rw [← hWy]; exact (Gr.refl _).alloc _ _
        obtain ⟨Y, hYe⟩ : ∃ Y, wr.heap.size = Y := ⟨_, rfl⟩
        rw [hWy, hYe]
        rw [hYe] at hY
        have hby := hbx.gr gy
        have HY := Lib.hid hY; have GY := Lib.hid gy; have HYe := Lib.hid hYe; have HWy := Lib.hid hWy
        clear hY gy hYe hWy
        obtain ⟨Wz, hWz⟩ : ∃ Wz, Wy.alloc (.cells (nV tx.d px tx.ks.length).toArray 31) = Wz := ⟨_, rfl⟩
        obtain ⟨Z, hZ⟩ : ∃ Z, Wy.heap.size = Z := ⟨_, rfl⟩
        obtain ⟨Wv, hWv⟩ : ∃ Wv, Wz.setCell ⟨Y, 16, none⟩ (.slice (some ⟨Z, 0, none⟩) 1 1) = Wv := ⟨_, rfl⟩
        obtain ⟨F, hF⟩ : ∃ F, Wv.setRow X (nV dLab (pWr Z) 1).toArray = F := ⟨_, rfl⟩
        obtain ⟨hYv, hXv, hfin⟩ := round_mem (F := F) HXI.out hd GY.out HYe.out HY.out hWz hZ hWv
        obtain ⟨hWI, hAG⟩ := hfin hF
        have gz : Gr Wy Wz := by rw [← hWz]; exact (Gr.refl _).alloc _ _
        have cY := cell_of_row Wz Y 16 _ _ (0, 0) (heap_gr gz HY.out)
        have fY := frozen_of_row Wz Y 16 _ _ (heap_gr gz HY.out)
        have cY : Wz.cell? ⟨Y, 16, none⟩ = some (.slice none 0 0) := cY.trans rfl
        have hbv := box_cells hYv
        have HXv := Lib.hid hXv; have HWI := Lib.hid hWI; have HAG2 := Lib.hid (HAG.out.trans hAG); have HWO2 := Lib.hid (WrapOf.cons HWO.out hd)
        have HWz := Lib.hid hWz; have HZ := Lib.hid hZ; have HWv := Lib.hid hWv; have HF := Lib.hid hF
        clear hWz hZ hWv hF hYv hXv hfin hWI hAG gz hd
        go_upto_region 20 with (first
          | (refine load_node rfl (.tmp 10) rfl _ _ rfl hby ?_)
          | (refine build_node rfl (.tmp 65) rfl rfl ?_; rw [HWz.out, HZ.out]))
        rw [HWv.out]
        clear cY fY hby
        go_wp2_with (first
          | (refine load_node rfl (.tmp 12) rfl Y 0 rfl hbv ?_)
          | (refine store_x rfl (.tmp 10) (.tmp 68) rfl X rfl rfl HXv.out ?_; rw [HF.out]))
        go_roundw
        case rel => exact ⟨k + 1, _, _, by omega, by go_num, HWO2, HWI, HAG2⟩
        case measure => simp [intOf]; omega
      · have hd : IsW dMap := .inl rfl
        try simp only [Act.put, List.setIfInBounds_toArray, List.set_cons_succ, List.set_cons_zero]
        obtain ⟨Wy, hWy⟩ : ∃ Wy, wr.alloc (.cells (nV dMap pNil 0).toArray 31) = Wy := ⟨_, rfl⟩
        have hY : Wy.heap[wr.heap.size]? = some (.cells (nV dMap pNil 0).toArray 31 (0, 0)) := by rw [← hWy]; exact World.alloc_heap_new _ _
        have gy : Gr wr Wy := by rw [← hWy]; exact (Gr.refl _).alloc _ _
        obtain ⟨Y, hYe⟩ : ∃ Y, wr.heap.size = Y := ⟨_, rfl⟩
        rw [hWy, hYe]
        rw [hYe] at hY
        have hby := hbx.gr gy
        have HY := Lib.hid hY; have GY := Lib.hid gy; have HYe := Lib.hid hYe; have HWy := Lib.hid hWy
        clear hY gy hYe hWy
        obtain ⟨Wz, hWz⟩ : ∃ Wz, Wy.alloc (.cells (nV tx.d px tx.ks.length).toArray 31) = Wz := ⟨_, rfl⟩
        obtain ⟨Z, hZ⟩ : ∃ Z, Wy.heap.size = Z := ⟨_, rfl⟩
        obtain ⟨Wv, hWv⟩ : ∃ Wv, Wz.setCell ⟨Y, 16, none⟩ (.slice (some ⟨Z, 0, none⟩) 1 1) = Wv := ⟨_, rfl⟩
        obtain ⟨F, hF⟩ : ∃ F, Wv.setRow X (nV dMap (pWr Z) 1).toArray = F := ⟨_, rfl⟩
        obtain ⟨hYv, hXv, hfin⟩ := round_mem (F := F) HXI.out hd GY.out HYe.out HY.out hWz hZ hWv
        obtain ⟨hWI, hAG⟩ := hfin hF
        have gz : Gr Wy Wz := by rw [← hWz]; exact (Gr.refl _).alloc _ _
        have cY := cell_of_row Wz Y 16 _ _ (0, 0) (heap_gr gz HY.out)
        have fY := frozen_of_row Wz Y 16 _ _ (heap_gr gz HY.out)
        have cY : Wz.cell? ⟨Y, 16, none⟩ = some (.slice none 0 0) := cY.trans rfl
        have hbv := box_cells hYv
        have HXv := Lib.hid hXv; have HWI := Lib.hid hWI; have HAG2 := Lib.hid (HAG.out.trans hAG); have HWO2 := Lib.hid (WrapOf.cons HWO.out hd)
        have HWz := Lib.hid hWz; have HZ := Lib.hid hZ; have HWv := Lib.hid hWv; have HF := Lib.hid hF
        clear hWz hZ hWv hF hYv hXv hfin hWI hAG gz hd
        go_upto_region 20 with (first
          | (refine load_node rfl (.tmp 10) rfl _ _ rfl hby ?_)
          | (refine build_node rfl (.tmp 65) rfl rfl ?_; rw [HWz.out, HZ.out]))
        rw [HWv.out]
        clear cY fY hby
        go_wp2_with (first
          | (refine load_node rfl (.tmp 12) rfl Y 0 rfl hbv ?_)
          | (refine store_x rfl (.tmp 10) (.tmp 68) rfl X rfl rfl HXv.out ?_; rw [HF.out]))
        go_roundw
        case rel => exact ⟨k + 1, _, _, by omega, by go_num, HWO2, HWI, HAG2⟩
        case measure => simp [intOf]; omega
    · obtain rfl : k = n := by omega
      have hbx := box_cells HXI.out.box
      obtain ⟨hlim, hck⟩ := chkV_2 HTY.out HER.out
      obtain ⟨f1, f2, f3, f4, f5⟩ := wrap_facts HWO.out hck HOK.out
      obtain ⟨l1, l2, l3⟩ := limB_no hlim
      have hsz0 : cnt t = sz := by have := HSZ.out; have := HBIG.out; omega
      have hdt0 : dep t = dt := by have := HDT.out; omega
      have hP6 := HS7.out
      have hbn : CellsAt wr P 0 (nV t.d p t.ks.length) := fun j v e => by
        have := HB.out W7 HG7.out j v e
        exact (World.cell?_of_block (a := ⟨P, 0 + j, none⟩) (HAG.out.b P (by omega) (by omega))).trans this
      have CX := Lib.hid (chk_any tx px wr HXI.out.real (HL.out.gr HXI.out.g) (fun x hx => Nat.le_trans (ok_nodes tx 1 f5 x hx).m (by omega)))
      have HBN := Lib.hid hbn
      have HF3 := Lib.hid f3; have HF2 := Lib.hid f2
      have hTn : TrP wr t p := TrP.gr HXI.out.g t p HT.out
      have hTx := HXI.out.real
      have HTn := Lib.hid hTn; have HTx := Lib.hid hTx
      have HGW := Lib.hid HXI.out.g
      rcases (Decidable.em (40 < dt + k)) with hdeep | hdeep
      · have hdp : (40 : Int) < (dt : Int) + (k : Int) := by omega
        have hcv : chkV tx = (0, 6) := by
          unfold chkV limB
          rw [decide_eq_true (show 40 < dep tx by omega)]
          simp
        have CX2 : Hid (Calls Tryz.prog 10 #[.agg (nV tx.d px tx.ks.length).toArray] wr fun e w' => e = .returned (.tuple #[.int .i64 0, .int .i64 6]) ∧ Gr wr w') := Lib.hid (by have := CX.out; unfold CkPost at this; rw [hcv] at this; exact this)
        clear hlim hck f1 f2 f3 f4 f5 l1 l2 l3 hsz0 hdt0 hP6 hbn hTn hTx hcv hdeep CX
        go_wp2_with (first
          | (refine load_node rfl (.tmp 10) rfl _ _ rfl hbx ?_)
          | (go_at_call 10; refine CX2.out.mono ?_; rintro e w8 ⟨rfl, g8⟩))
        go_ret
        exact ⟨rfl, HGW.out.trans g8⟩
      · have hdp : decide ((40 : Int) < (dt : Int) + (k : Int)) = false := decide_eq_false (by omega)
        have hcv : chkV tx = (2, 0) := by
          unfold chkV limB
          rw [decide_eq_false (show ¬ 400 < cnt tx by have := HBIG.out; omega), decide_eq_false (show ¬ 40 < dep tx by omega), f4 l3, f1]
          rfl
        have CX2 : Hid (Calls Tryz.prog 10 #[.agg (nV tx.d px tx.ks.length).toArray] wr fun e w' => e = .returned (.tuple #[.int .i64 2, .int .i64 0]) ∧ Gr wr w') := Lib.hid (by have := CX.out; unfold CkPost at this; rw [hcv] at this; exact this)
        have v1 : ((min (cnt tx) 401 : Nat) : Int) = (sz : Int) + (k : Int) := by have := HBIG.out; omega
        have v2 : ((min (cnt t) 401 : Nat) : Int) = (sz : Int) := by have := HBIG.out; omega
        have v3 : ((min (dep tx) 41 : Nat) : Int) = (dt : Int) + (k : Int) := by omega
        have V1 := Lib.hid v1; have V2 := Lib.hid v2; have V3 := Lib.hid v3
        clear hlim hck f1 f2 f3 f4 f5 l1 l2 l3 hsz0 hdt0 hP6 hbn hTn hTx hcv hdeep CX v1 v2 v3
        have HBX := Lib.hid hbx
        go_upto_region 22 with (first
          | (refine load_node rfl (.tmp 10) rfl _ _ rfl hbx ?_)
          | (go_at_call 10; refine CX2.out.mono ?_; rintro e w8 ⟨rfl, g8⟩))
        have G8 := Lib.hid (HGW.out.trans g8)
        have csx := fun dd os => Calls.regrown_of (d := dd) (os := os) ((isize_any tx px (grow (redrawn w8 dd) os) (TrP.gr ⟨below_regrown w8 dd os⟩ tx px (TrP.gr g8 tx px HTx.out))).mono fun _ _ h => ⟨h.1, h.2.b⟩)
        have csn := fun dd os => Calls.regrown_of (d := dd) (os := os) ((isize_any t p (grow (redrawn w8 dd) os) (TrP.gr ⟨below_regrown w8 dd os⟩ t p (TrP.gr g8 t p HTn.out))).mono fun _ _ h => ⟨h.1, h.2.b⟩)
        have cdx := fun dd os => Calls.regrown_of (d := dd) (os := os) ((idepth_any tx px (grow (redrawn w8 dd) os) (TrP.gr ⟨below_regrown w8 dd os⟩ tx px (TrP.gr g8 tx px HTx.out))).mono fun _ _ h => ⟨h.1, h.2.b⟩)
        rw [V1.out] at csx
        rw [V2.out] at csn
        rw [V3.out] at cdx
        have CSX := Lib.hid csx; have CSN := Lib.hid csn; have CDX := Lib.hid cdx
        have LX := Lib.hid (show ∀ w', (∃ q : Regrown, w' = Go.Sort.grow (redrawn w8 q.d) q.os) → CellsAt w' X 0 (nV tx.d px tx.ks.length) from fun w' ⟨q, e⟩ => by subst e; exact (HBX.out.gr g8).gr ⟨below_regrown w8 q.d q.os⟩)
        have LN := Lib.hid (show ∀ w', (∃ q : Regrown, w' = Go.Sort.grow (redrawn w8 q.d) q.os) → CellsAt w' P 0 (nV t.d p t.ks.length) from fun w' ⟨q, e⟩ => by subst e; exact (HBN.out.gr g8).gr ⟨below_regrown w8 q.d q.os⟩)
        clear csx csn cdx g8 hbx
        go_upto_region 24 with fail
        refine wp_region_quiet_below (by kernel_rfl) (by kernel_rfl) ?_
        repeat (first
          | (refine quiet_node (.tmp 10) rfl rfl X rfl LX.out ?_; simp only [Act.put, List.setIfInBounds_toArray, List.set_cons_succ, List.set_cons_zero])
          | (refine quiet_node (.tmp 3) rfl rfl P rfl LN.out ?_; simp only [Act.put, List.setIfInBounds_toArray, List.set_cons_succ, List.set_cons_zero])
          | (go_big_quiet_step (first | exact CSX.out _ _ | exact CSN.out _ _ | exact CDX.out _ _)))
        refine wpQuiet_nil ?_
        intro _ hw'
        obtain ⟨⟨dq, osq⟩, hw''⟩ := hw'
        subst hw''
        have hg9 := G8.out.trans ⟨below_regrown w8 dq osq⟩
        generalize Go.Sort.grow (redrawn w8 dq) osq = w9 at *
        go_wp2
        go_ret
        exact ⟨rfl, hg9⟩
end Go.Proofs.YtikaamonmaohjaaGreatDoor.Ir
