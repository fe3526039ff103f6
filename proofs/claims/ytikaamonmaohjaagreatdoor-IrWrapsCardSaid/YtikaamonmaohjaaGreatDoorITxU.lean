/- Text of a Time, whole. -/
import Derived.Test.YtikaamonmaohjaaGreatDoorITxt
import Derived.Test.YtikaamonmaohjaaGreatDoorIKno
import Derived.Deep.RegionHeld3
namespace Go.Proofs.YtikaamonmaohjaaGreatDoor.Ir
open Go.RowKit Go.Shelf Go.Sort
set_option maxRecDepth 100000
set_option maxHeartbeats 8000000
attribute [local irreducible] wpQuiet

theorem itoa2 (w : World) : Calls Tryz.prog 48 #[.int .i64 2] w fun e w' => e = .returned (.string ⟨#[50]⟩) ∧ w = w' := by
  refine (Tryz.strconv_Itoa_small 2 (by omega) w).mono ?_
  rintro e w' ⟨rfl, rfl⟩
  exact ⟨by rw [show (Lib.decDigits 2).toArray = #[50] by decide +kernel], rfl⟩
theorem Bld.gr {W W' : World} {base b : Nat} {l : List UInt8} (h : Bld W base b l) (g : Gr W W') : Bld W' base b l := by
  obtain ⟨h1, h2, p, v, hp, hb, ho⟩ := h
  exact ⟨h1, Nat.le_trans h2 g.size, p, v, hp, hgr g hb, ho.gr g⟩
theorem write_tim (b : Nat) (w : World) (hb : w.heap[b]? = some (.cells #[.pointer none, .slice none 0 0] 65 (0, 0))) :
    Calls Tryz.prog 24 #[.pointer (some ⟨b, 0, none⟩), .agg (nV dTim pNil 0).toArray] w fun e w' => e = .returned (.tuple #[]) ∧ ∃ base, w.heap.size ≤ base ∧ Bld w' base b [40, 50, 41] ∧ AgB w.heap.size b w w' := by
  have hbl : b < w.heap.size := (Array.getElem?_eq_some_iff.1 hb).1
  obtain ⟨W1, hW1, g1, b1, s1⟩ := ibox w #[.pointer (some ⟨b, 0, none⟩)] 62
  obtain ⟨W2, hW2, g2, b2, s2⟩ := ibox W1 (nV dTim pNil 0).toArray 31
  rw [s1] at b2
  obtain ⟨N, hN⟩ : ∃ N, w.heap.size = N := ⟨_, rfl⟩
  rw [hN] at b1 b2 s1
  have CS := Lib.hid (shape_any dTim pNil 0 W2)
  have hT := box_cells b2
  have HG := Lib.hid (g1.trans g2); have HW1 := Lib.hid hW1; have HW2 := Lib.hid hW2; have HN := Lib.hid hN; have HB := Lib.hid hb; have HB1 := Lib.hid (hgr g2 b1); have HB2 := Lib.hid b2; have HBL := Lib.hid hbl
  have HS2 : Hid (W2.heap.size = N + 2) := Lib.hid (by omega)
  clear hb hbl hW1 hW2 hN g1 g2 b1 b2 s1 s2
  go_enter Tryz.func24, Tryz.ntmps24
  go_upto_region 1 with fail
  rw [HW1.out, HN.out]
  try rw [HW2.out]
  go_upto_region 2 with (first
    | (refine load_node rfl (.tmp 3) rfl _ _ rfl hT ?_)
    | (go_at_call 37; refine CS.out.mono ?_; rintro e w3 ⟨rfl, g3⟩)
    | (refine store_shape rfl (.tmp 4) (.tmp 12) rfl w3.heap.size rfl rfl rfl rfl rfl (sh_one _ _) ?_))
  obtain ⟨W5, hW5⟩ : ∃ W5, w3.alloc (.cells (shKV dTim.k dTim.fn) 77) = W5 := ⟨_, rfl⟩
  have g5 : Gr w3 W5 := by rw [← hW5]; exact (Gr.refl w3).alloc _ _
  obtain ⟨B, hB⟩ : ∃ B, w3.heap.size = B := ⟨_, rfl⟩
  have hsr : W5.rangeAt B 0 (shKV dTim.k dTim.fn).toList := by
    intro i v e
    rw [← hW5, ← hB, World.cell?_alloc_at _ _ _ _ (by simp), Nat.zero_add]
    simpa using e
  have s5 : W5.heap.size = B + 1 := by rw [← hW5, ← hB]; simp
  rw [hW5, hB]
  have hBlt : N + 2 ≤ B := by have := g3.size; have := HS2.out; omega
  obtain ⟨base, hbase⟩ : ∃ n, W5.heap.size = n := ⟨_, rfl⟩
  have hbb : b < N := by have := HBL.out; have := HN.out; omega
  have HB0 : Hid (Bld W5 base b []) := Lib.hid ⟨by omega, by omega, .pointer none, .slice none 0 0, .inl rfl, hgr (HG.out.trans (g3.trans g5)) HB.out, OwnB.nil _ _⟩
  have g35 := g3.trans g5
  have HC : Hid (∀ W, AgB base b W5 W → W.cell? ⟨N, 0, none⟩ = some (.pointer (some ⟨b, 0, none⟩)) ∧ W.cell? ⟨N + 1, 0, none⟩ = some (.int .i64 2) ∧ (W.cell? ⟨B, 0, none⟩ = some (.bool false) ∧ W.cell? ⟨B, 1, none⟩ = some (.bool false) ∧ W.cell? ⟨B, 2, none⟩ = some (.bool false) ∧ W.cell? ⟨B, 3, none⟩ = some (.bool false) ∧ W.cell? ⟨B, 4, none⟩ = some (.bool false) ∧ W.cell? ⟨B, 5, none⟩ = some (.bool false) ∧ W.cell? ⟨B, 6, none⟩ = some (.bool false) ∧ W.cell? ⟨B, 7, none⟩ = some (.bool false) ∧ W.cell? ⟨B, 8, none⟩ = some (.bool false) ∧ W.cell? ⟨B, 9, none⟩ = some (.bool false)) ∧ CellsAt W (N + 1) 0 (nV dTim pNil 0) ∧ W.rangeAt B 0 (shKV dTim.k dTim.fn).toList) := Lib.hid (fun W ag => by
    have hc := shKV_cells hsr
    have hcB := fun (o : Nat) (v : Value) (h : W5.cell? ⟨B, o, none⟩ = some v) => ag.cell (by omega) (by omega) h
    have hcN := fun (o : Nat) (v : Value) (h : W5.cell? ⟨N + 1, o, none⟩ = some v) => ag.cell (by omega) (by omega) h
    refine ⟨ag.cell (by omega) (by omega) ((cell_h (hgr g35 HB1.out) 0).trans rfl), hcN 0 _ ((cell_h (hgr g35 HB2.out) 0).trans rfl), ⟨hcB 0 _ (hc.1.trans (by kernel_rfl)), hcB 1 _ (hc.2.1.trans (by kernel_rfl)), hcB 2 _ (hc.2.2.1.trans (by kernel_rfl)), hcB 3 _ (hc.2.2.2.1.trans (by kernel_rfl)), hcB 4 _ (hc.2.2.2.2.1.trans (by kernel_rfl)), hcB 5 _ (hc.2.2.2.2.2.1.trans (by kernel_rfl)), hcB 6 _ (hc.2.2.2.2.2.2.1.trans (by kernel_rfl)), hcB 7 _ (hc.2.2.2.2.2.2.2.1.trans (by kernel_rfl)), hcB 8 _ (hc.2.2.2.2.2.2.2.2.1.trans (by kernel_rfl)), hcB 9 _ (hc.2.2.2.2.2.2.2.2.2.1.trans (by kernel_rfl))⟩, fun i v e => by rw [Nat.zero_add]; exact hcN i v (by have := (hT.gr g35) i v e; rwa [Nat.zero_add] at this), fun i v e => by rw [Nat.zero_add]; exact hcB i v (by have := hsr i v e; rwa [Nat.zero_add] at this)⟩)
  have HG5 : Hid (Gr w W5) := Lib.hid (HG.out.trans g35)
  have HSZ : Hid (W5.heap.size = base) := Lib.hid hbase
  clear hT hsr g3 g5 g35 hW5 hB hbase s5 CS
  obtain ⟨q0, -⟩ := HC.out W5 (AgB.refl _ _ _)
  go_upto_region 4 with (go_at_call 47; refine (bws_any base b [] ⟨#[40]⟩ W5 HB0.out (by decide)).mono ?_; rintro e w6 ⟨rfl, hb6, ha6⟩)
  have HB6 : Hid (Bld w6 base b [40]) := Lib.hid hb6
  have HA6 := Lib.hid ha6
  obtain ⟨r0, r1, -⟩ := HC.out w6 HA6.out
  clear q0 hb6 ha6
  go_wp2_with fail
  have ks0 : w6.drew.cell? ⟨N, 0, none⟩ = some (.pointer (some ⟨b, 0, none⟩)) ∧ w6.drew.cell? ⟨N + 1, 0, none⟩ = some (.int .i64 2) := ⟨r0, r1⟩
  go_region_held3 (fun w' => w'.cell? ⟨N, 0, none⟩ = some (.pointer (some ⟨b, 0, none⟩)) ∧ w'.cell? ⟨N + 1, 0, none⟩ = some (.int .i64 2))
    (first | with_reducible exact ks7 | with_reducible exact ks0 | go_keep)
    (first
      | (go_at_call 48; refine (itoa2 _).mono ?_; rintro e w' ⟨rfl, rfl⟩)
      | (go_at_call 47; refine (bws_any base b [40] ⟨#[50]⟩ _ (show Bld w6.drew base b [40] from HB6.out) (by decide)).mono ?_; rintro e w7 ⟨rfl, hb7, ha7⟩; have ks7 : w7.cell? ⟨N, 0, none⟩ = some (.pointer (some ⟨b, 0, none⟩)) ∧ w7.cell? ⟨N + 1, 0, none⟩ = some (.int .i64 2) := ⟨(HC.out w7 (HA6.out.trans ⟨ha7.os, ha7.tape, ha7.output, ha7.size, ha7.blk⟩)).1, (HC.out w7 (HA6.out.trans ⟨ha7.os, ha7.tape, ha7.output, ha7.size, ha7.blk⟩)).2.1⟩))
  have HB7 : Hid (Bld w7 base b [40, 50]) := Lib.hid hb7
  have HA7 : Hid (AgB base b W5 w7) := Lib.hid (HA6.out.trans ⟨ha7.os, ha7.tape, ha7.output, ha7.size, ha7.blk⟩)
  obtain ⟨t0, t1, ⟨u0, u1, u2, u3, u4, u5, u6, u7, u8, u9⟩, hnd, hsh⟩ := HC.out w7 HA7.out
  clear hb7 ha7 ks7 ks0 r0 r1
  have CK := Lib.hid (kids_any dTim pNil 0 2 0 w7 (Nat.le_refl _) (Nat.zero_le _) (fun _ => rfl))
  go_wp2_with (first
    | (go_at_call 46; refine (part_no _ _ _).mono ?_; rintro e w' ⟨rfl, rfl⟩)
    | (refine load_shape rfl (.tmp 4) rfl B rfl hsh ?_)
    | (refine load_node rfl (.tmp 3) rfl _ _ rfl hnd ?_)
    | (go_at_call 65; refine CK.out.mono ?_; rintro e w8 ⟨rfl, g8⟩))
  have hbsz : base ≤ w7.heap.size := HB7.out.2.1
  have HA8 : Hid (AgB base b W5 w8) := Lib.hid (HA7.out.trans (Gr.agB g8 hbsz))
  have HB8 : Hid (Bld w8 base b [40, 50]) := Lib.hid (HB7.out.gr g8)
  clear t0 t1 u0 u1 u2 u3 u4 u5 u6 u7 u8 u9 hnd hsh g8 hbsz
  go_loopw [76] (fun i wr => i = .int .i64 0 ∧ wr = w8) (fun _ _ => 0)
  case atStart => exact ⟨rfl, rfl⟩
  case round =>
    obtain ⟨rfl, rfl⟩ := hrel
    obtain ⟨v0, -⟩ := HC.out wr HA8.out
    go_wp2_with (go_at_call 47; refine (bws_any base b [40, 50] ⟨#[41]⟩ _ HB8.out (by decide)).mono ?_; rintro e w9 ⟨rfl, hb9, ha9⟩)
    go_end0
    have h5 := HG5.out
    have hl := HN.out
    have h25 := HSZ.out
    refine ⟨rfl, base, by have := h5.size; omega, hb9, ⟨(ha9.os.trans HA8.out.os).trans h5.b.os, (ha9.tape.trans HA8.out.tape).trans h5.b.tape, (ha9.output.trans HA8.out.output).trans h5.b.output, Nat.le_trans h5.size (Nat.le_trans HA8.out.size ha9.size), fun k hk hn => ?_⟩⟩
    exact (ha9.blk k (by have := h5.size; omega) hn).trans ((HA8.out.blk k (by have := h5.size; omega) hn).trans (h5.b.block k hk))
end Go.Proofs.YtikaamonmaohjaaGreatDoor.Ir
namespace Go.Proofs.YtikaamonmaohjaaGreatDoor.Ir
open Go.RowKit Go.Shelf Go.Sort
set_option maxRecDepth 100000
set_option maxHeartbeats 2000000
theorem text_tim (w : World) : Calls Tryz.prog 13 #[.agg (nV dTim pNil 0).toArray] w fun e w' => e = .returned (.string ⟨#[40, 50, 41]⟩) ∧ Gr w w' := by
  obtain ⟨W1, hW1, g1, b1, s1⟩ := ibox w (nV dTim pNil 0).toArray 31
  obtain ⟨W2, hW2, g2, b2, s2⟩ := ibox W1 #[.pointer none, .slice none 0 0] 65
  have hT := box_cells (hgr g2 b1)
  rw [s1] at b2
  have CW := Lib.hid (write_tim (w.heap.size + 1) W2 b2)
  have HG := Lib.hid (g1.trans g2); have HW1 := Lib.hid hW1; have HW2 := Lib.hid hW2
  have HS1 := Lib.hid s1; have HS2 := Lib.hid s2
  clear hW1 hW2 g1 g2 b1 b2 s1 s2
  go_enter Tryz.func13, Tryz.ntmps13
  go_upto_region 1 with fail
  rw [HW1.out]
  go_upto_region 2 with fail
  rw [HW2.out, HS1.out]
  go_wp2_with (first
    | (refine load_node rfl (.tmp 1) rfl _ _ rfl hT ?_)
    | (go_at_call 24; refine CW.out.mono ?_; rintro e w3 ⟨rfl, base, hb1, hb2, ha⟩))
  have hsw : W2.heap.size = w.heap.size + 2 := by rw [HS2.out, HS1.out]
  have hbi : Lib.IsBuilder 65 5 w.heap.size (w.heap.size + 1) (Lib.byteCells [40, 50, 41]) w3 := by
    obtain ⟨h1, h2, p, v, hp, hb, ho⟩ := hb2
    have ho2 := ho.mono (show w.heap.size ≤ base by omega)
    have hne : v.ownBlock ≠ some (w.heap.size + 1) := fun e => by have := (ho.lt e).1; omega
    rcases hp with rfl | rfl
    · exact .inl ⟨by omega, v, hb, ho2, hne⟩
    · exact .inr ⟨by omega, v, hb, ho2, hne⟩
  have CS := Lib.hid (Tryz.Builder_String w.heap.size (w.heap.size + 1) [40, 50, 41] w3 hbi (by simp))
  have h0 := HG.out
  have hg3 : Gr w w3 := ⟨⟨ha.os.trans h0.b.os, ha.tape.trans h0.b.tape, ha.output.trans h0.b.output, Nat.le_trans h0.size ha.size, fun k hk => (ha.blk k (by omega) (by omega)).trans (h0.b.block k hk)⟩⟩
  have HG3 := Lib.hid hg3
  clear hb2 ha hg3 h0 hbi
  go_wp2_with (go_at_call 25; refine CS.out.mono ?_; rintro e w4 ⟨rfl, hbel⟩)
  go_ret
  exact ⟨rfl, ⟨HG3.out.b.trans hbel⟩⟩
end Go.Proofs.YtikaamonmaohjaaGreatDoor.Ir
