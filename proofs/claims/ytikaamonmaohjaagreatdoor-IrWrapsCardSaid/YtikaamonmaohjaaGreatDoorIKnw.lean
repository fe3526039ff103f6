/- known(), whole. -/
import Derived.Test.YtikaamonmaohjaaGreatDoorIKno
import Derived.Test.YtikaamonmaohjaaGreatDoorIWr
import Derived.Test.YtikaamonmaohjaaGreatDoorIKnS
import Derived.Test.YtikaamonmaohjaaGreatDoorITxU
namespace Go.Proofs.YtikaamonmaohjaaGreatDoor.Ir
open Go.RowKit Go.Shelf Go.Sort
set_option maxRecDepth 100000
set_option maxHeartbeats 4000000

theorem known_any (w : World) (hl : Lt w) : Calls Tryz.prog 5 #[] w fun e w' => e = .returned (.bool true) ∧ Gr w w' := by
  go_enter Tryz.func5, Tryz.ntmps5
  obtain ⟨F, hF⟩ : ∃ F, ((w.alloc (.cells #[.int .i64 1, .string ⟨#[97]⟩, .string ⟨#[49]⟩] 48)).alloc (.cells #[.int .i64 0, .float .f64 0, .int .i64 0, .slice none 0 0, .int .i64 0, .int .i64 0, .int .i64 0, .int .i64 0, .slice none 0 0, .int .i64 0, .slice none 0 0, .int .i64 0, .slice none 0 0, .bool false, .string ⟨#[]⟩, .string ⟨#[]⟩, .slice none 0 0] 31)).setRow (w.heap.size + 1) (nV dWin (pMt w.heap.size) 0).toArray = F := ⟨_, rfl⟩
  obtain ⟨g1, c1, t1, s1⟩ := kn_win rfl rfl hF
  have hbx : ((w.alloc (.cells #[.int .i64 1, .string ⟨#[97]⟩, .string ⟨#[49]⟩] 48)).alloc (.cells #[.int .i64 0, .float .f64 0, .int .i64 0, .slice none 0 0, .int .i64 0, .int .i64 0, .int .i64 0, .int .i64 0, .slice none 0 0, .int .i64 0, .slice none 0 0, .int .i64 0, .slice none 0 0, .bool false, .string ⟨#[]⟩, .string ⟨#[]⟩, .slice none 0 0] 31)).heap[w.heap.size + 1]? = some (.cells (nV d0 pNil 0).toArray 31 (0, 0)) := by
    rw [← show (w.alloc (.cells #[.int .i64 1, .string ⟨#[97]⟩, .string ⟨#[49]⟩] 48)).heap.size = w.heap.size + 1 from Array.size_push _]
    exact World.alloc_heap_new _ _
  have HBX := Lib.hid hbx; have HF := Lib.hid hF
  have HG1 := Lib.hid g1; have HC1 := Lib.hid c1; have HT1 := Lib.hid t1; have HS1 := Lib.hid s1
  clear hbx hF g1 c1 t1 s1
  go_upto_region 1 with fail
  go_upto_region 2 with (first
    | (refine store_x (d' := dWin) (p' := pMt w.heap.size) (nk' := 0) (d := d0) (p := pNil) (nk := 0) rfl (.tmp 1) (.tmp 9) rfl (w.heap.size + 1) rfl rfl HBX.out ?_; rw [HF.out]))
  have hl1 := hl.gr HG1.out
  simp only [Act.put]
  obtain ⟨H, hH⟩ : ∃ H, ((F.alloc (.cells (nV dWin (pMt w.heap.size) 0).toArray 31)).alloc (.cells #[.int .i64 0, .float .f64 0, .int .i64 0, .slice none 0 0, .int .i64 0, .int .i64 0, .int .i64 0, .int .i64 0, .slice none 0 0, .int .i64 0, .slice none 0 0, .int .i64 0, .slice none 0 0, .bool false, .string ⟨#[]⟩, .string ⟨#[]⟩, .slice none 0 0] 31)).setRow (F.heap.size + 1) (nV dAgg (pWr F.heap.size) 1).toArray = H := ⟨_, rfl⟩
  obtain ⟨g2, c2, t2, s2⟩ := kn_agg (t := tWin) (p := pMt w.heap.size) HT1.out rfl rfl hH
  have hbx : ((F.alloc (.cells (nV dWin (pMt w.heap.size) 0).toArray 31)).alloc (.cells #[.int .i64 0, .float .f64 0, .int .i64 0, .slice none 0 0, .int .i64 0, .int .i64 0, .int .i64 0, .int .i64 0, .slice none 0 0, .int .i64 0, .slice none 0 0, .int .i64 0, .slice none 0 0, .bool false, .string ⟨#[]⟩, .string ⟨#[]⟩, .slice none 0 0] 31)).heap[F.heap.size + 1]? = some (.cells (nV d0 pNil 0).toArray 31 (0, 0)) := by
    rw [← show (F.alloc (.cells (nV dWin (pMt w.heap.size) 0).toArray 31)).heap.size = F.heap.size + 1 from Array.size_push _]
    exact World.alloc_heap_new _ _
  have HBY := Lib.hid hbx; have HH := Lib.hid hH
  have HG2 := Lib.hid g2; have HC2 := Lib.hid c2; have HT2 := Lib.hid t2; have HS2 := Lib.hid s2
  have hc1 := HC1.out
  clear hbx hH g2 c2 t2 s2
  go_upto_region 3 with (first
    | (refine load_node rfl (.tmp 1) rfl _ _ rfl hc1 ?_)
    | (refine build_node rfl (.tmp 10) rfl rfl ?_)
    | (refine store_x (d' := dAgg) (p' := pWr F.heap.size) (nk' := 1) (d := d0) (p := pNil) (nk := 0) rfl (.tmp 2) (.tmp 12) rfl (F.heap.size + 1) rfl rfl HBY.out ?_; rw [HH.out]))
  have hl2 := hl1.gr HG2.out
  have hc2 := HC2.out
  have cx : Calls Tryz.prog 10 #[.agg (nV dAgg (pWr F.heap.size) 1).toArray] H fun e w' => e = .returned (.tuple #[.int .i64 2, .int .i64 0]) ∧ Gr H w' := by
    have h := chk_any tN (pWr F.heap.size) H HT2.out hl2 m_tN
    unfold CkPost at h
    rw [chk_tN] at h
    exact h
  have CX := Lib.hid cx
  clear cx
  try simp only [Act.put]
  go_upto_region 4 with (first
    | (refine load_node rfl (.tmp 2) rfl _ _ rfl hc2 ?_)
    | (go_at_call 10; refine CX.out.mono ?_; rintro e w3 ⟨rfl, g3⟩))
  have HG3 := Lib.hid (HG1.out.trans (HG2.out.trans g3))
  have hl3 := hl2.gr g3
  obtain ⟨J, hJ⟩ : ∃ J, w3.alloc (.cells (nV dTim pNil 0).toArray 31) = J := ⟨_, rfl⟩
  have g4 : Gr w3 J := by rw [← hJ]; exact (Gr.refl w3).alloc _ _
  have hJ0 : J.heap[w3.heap.size]? = some (.cells (nV dTim pNil 0).toArray 31 (0, 0)) := by rw [← hJ]; exact World.alloc_heap_new _ _
  have cy : Calls Tryz.prog 10 #[.agg (nV dAgg (pWr w3.heap.size) 1).toArray] J fun e w' => e = .returned (.tuple #[.int .i64 0, .int .i64 3]) ∧ Gr J w' := by
    have h := chk_any tT (pWr w3.heap.size) J (trp_one (t := tTim) (trp_tim J) (box_cells hJ0)) (hl3.gr g4) m_tT
    unfold CkPost at h
    rw [chk_tT] at h
    exact h
  have HJ := Lib.hid hJ; have HG4 := Lib.hid (HG3.out.trans g4); have hl4 := Lib.hid (hl3.gr g4); have HHJ := Lib.hid (g3.trans g4)
  have CY := Lib.hid cy
  clear hJ g4 hJ0 cy
  go_upto_region 5 with (first
    | (refine build_node (d := dTim) (p := pNil) (nk := 0) rfl (.tmp 19) rfl rfl ?_; rw [HJ.out])
    | (go_at_call 10; refine CY.out.mono ?_; rintro e w5 ⟨rfl, g5⟩))
  have GH := Lib.hid (HHJ.out.trans g5)
  have HW5 := Lib.hid (HG4.out.trans g5)
  have HCN : Hid (∀ W, Gr H W → CellsAt W (F.heap.size + 1) 0 (nV dAgg (pWr F.heap.size) 1) ∧ CellsAt W (w.heap.size + 1) 0 (nV dWin (pMt w.heap.size) 0)) := Lib.hid (fun W g => ⟨HC2.out.gr g, (HC1.out.gr HG2.out).gr g⟩)
  have C1 := Lib.hid (fun W (g : Gr H W) => size_n (pWr F.heap.size) W (TrP.gr g tN _ HT2.out))
  have C2 := Lib.hid (fun W (g : Gr H W) => depth_n (pWr F.heap.size) W (TrP.gr g tN _ HT2.out))
  have C3 := Lib.hid (fun W => text_tim W)
  have C4 := Lib.hid (fun W (g : Gr H W) => same_nn (pWr F.heap.size) W (TrP.gr g tN _ HT2.out))
  have C5 := Lib.hid (fun W (g : Gr H W) => same_nw (pWr F.heap.size) (pMt w.heap.size) W (TrP.gr g tN _ HT2.out) (TrP.gr (HG2.out.trans g) tWin _ HT1.out))
  obtain ⟨a5, -⟩ := HCN.out w5 GH.out
  clear g5 hl1 hl2 hl3 hc1 hc2
  go_wp2_with (first
    | (refine load_nodeG (.tmp 1) rfl (by rfl) _ _ rfl b9 ?_)
    | (refine load_nodeG (.tmp 2) rfl (by rfl) _ _ rfl a9 ?_)
    | (refine load_nodeG (.tmp 2) rfl (by rfl) _ _ rfl a8 ?_)
    | (refine load_nodeG (.tmp 2) rfl (by rfl) _ _ rfl a6 ?_)
    | (refine load_nodeG (.tmp 2) rfl (by rfl) _ _ rfl a5 ?_)
    | (go_at_call 11; refine (C1.out _ GH.out).mono ?_; rintro e w6 ⟨rfl, g6⟩; have G6 := GH.out.trans g6; obtain ⟨a6, -⟩ := HCN.out w6 G6)
    | (go_at_call 12; refine (C2.out _ G6).mono ?_; rintro e w7 ⟨rfl, g7⟩; have G7 := G6.trans g7)
    | (go_at_call 13; refine (C3.out _).mono ?_; rintro e w8 ⟨rfl, g8⟩; have G8 := G7.trans g8; obtain ⟨a8, -⟩ := HCN.out w8 G8)
    | (go_at_call 14; refine (C5.out _ G9).mono ?_; rintro e w10 ⟨rfl, g10⟩)
    | (go_at_call 14; refine (C4.out _ G8).mono ?_; rintro e w9 ⟨rfl, g9⟩; have G9 := G8.trans g9; obtain ⟨a9, b9⟩ := HCN.out w9 G9))
  have HFIN := Lib.hid (HW5.out.trans (g6.trans (g7.trans (g8.trans (g9.trans g10)))))
  go_ret
  exact ⟨rfl, HFIN.out⟩
end Go.Proofs.YtikaamonmaohjaaGreatDoor.Ir
