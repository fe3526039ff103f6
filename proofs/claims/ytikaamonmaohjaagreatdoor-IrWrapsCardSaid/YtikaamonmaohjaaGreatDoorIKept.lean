/- kept, kidsOf. -/
import Derived.Test.YtikaamonmaohjaaGreatDoorIEach
import Derived.Laws.Rows
import Derived.Test.YtikaamonmaohjaaGreatDoorICn
namespace Go.Proofs.YtikaamonmaohjaaGreatDoor.Ir
open Go.RowKit Go.Shelf Go.Sort
set_option maxRecDepth 100000
set_option maxHeartbeats 4000000
attribute [local irreducible] wpQuiet

theorem mch_size : (Tryz.prog.info? 28).map (·.size) = some 4 := by kernel_rfl
theorem set4_other (W : World) (b : Nat) (u v x y : Value) {k : Nat} (h : k ≠ b) : ((((W.setCell ⟨b, 0, none⟩ u).setCell ⟨b, 1, none⟩ v).setCell ⟨b, 2, none⟩ x).setCell ⟨b, 3, none⟩ y).heap[k]? = W.heap[k]? :=
  ((Below.heap_setCell _ _ _ _ (by show k ≠ b; exact h)).trans (Below.heap_setCell _ _ _ _ (by show k ≠ b; exact h))).trans (set2_other W b u v h)
theorem set4_same {W : World} {b : Nat} {u v x y : Value} {T : TypeId} (h : W.heap[b]? = some (.cells #[u, v, x, y] T (0, 0))) (u' v' x' y' : Value) : ((((W.setCell ⟨b, 0, none⟩ u').setCell ⟨b, 1, none⟩ v').setCell ⟨b, 2, none⟩ x').setCell ⟨b, 3, none⟩ y').heap[b]? = some (.cells #[u', v', x', y'] T (0, 0)) := by
  have h1 := heap_setCell_same W b 0 _ _ u' h
  have h2 := heap_setCell_same _ b 1 _ _ v' h1
  have h3 := heap_setCell_same _ b 2 _ _ x' h2
  have h4 := heap_setCell_same _ b 3 _ _ y' h3
  simpa using h4
/-- a match in new memory -/
def FrX (xh : Int) (xn : List ByteArray) (card : Int) (inc : List ByteArray) (w : World) (e : Ending) (w' : World) : Prop := ∃ A' c' B' d', e = .returned (.agg #[.int .i64 xh, .slice A' xn.length c', .int .i64 card, .slice B' inc.length d']) ∧ xn.length ≤ c' ∧ c' ≤ maxLen ∧ inc.length ≤ d' ∧ d' ≤ maxLen ∧ Gr w w' ∧ StrsAt (only w' (from_ w.heap.size)) A' xn ∧ StrsAt (only w' (from_ w.heap.size)) B' inc
theorem cmatch (xh : Int) (A : Option Addr) (c : Nat) (xn : List ByteArray) (card : Int) (B : Option Addr) (d : Nat) (inc : List ByteArray) (w : World) (h : StrsAt w A xn) (hl : xn.length ≤ 1000000) (h' : StrsAt w B inc) (hl' : inc.length ≤ 1000000) :
    Calls Tryz.prog 77 #[.agg #[.int .i64 xh, .slice A xn.length c, .int .i64 card, .slice B inc.length d]] w (FrX xh xn card inc w) := by
  have hres : Tryz.f77.results = #[.cell 2 28] := by kernel_rfl
  obtain ⟨W1, hW1, g1, b1, s1⟩ := ibox w #[.int .i64 xh, .slice A xn.length c, .int .i64 card, .slice B inc.length d] 28
  obtain ⟨W2, hW2, g2, b2, s2⟩ := ibox W1 #[.int .i64 0, .slice none 0 0, .int .i64 0, .slice none 0 0] 28
  have hg := g1.trans g2
  have c0 := (cell_h (hgr g2 b1) 0).trans rfl
  have c1 := (cell_h (hgr g2 b1) 1).trans rfl
  have c2 := (cell_h (hgr g2 b1) 2).trans rfl
  have c3 := (cell_h (hgr g2 b1) 3).trans rfl
  rw [s1] at b2
  have CC := Lib.hid (fun W (g : Gr W2 W) => sclone B d inc W (h'.gr (hg.trans g)) hl')
  have CG := Lib.hid (fun W (g : Gr W2 W) => cgroup xh A c xn W (h.gr (hg.trans g)) hl)
  have HB2 := Lib.hid b2
  obtain ⟨N, hN⟩ : ∃ N, w.heap.size = N := ⟨_, rfl⟩
  rw [hN] at c0 c1 c2 c3 HB2 s1
  have HS2 : Hid (W2.heap.size = N + 2) := Lib.hid (by omega)
  obtain ⟨n, hn⟩ : ∃ n, xn.length = n := ⟨_, rfl⟩
  obtain ⟨m, hm⟩ : ∃ m, inc.length = m := ⟨_, rfl⟩
  unfold FrX
  unfold FrG at CG
  rw [hn] at c1 CG hW1 ⊢
  rw [hm] at c3 CC hW1 ⊢
  have HN := Lib.hid hN; have HW1 := Lib.hid hW1; have HW2 := Lib.hid hW2; have HG := Lib.hid hg; have HS1 := Lib.hid s1
  have HLN := Lib.hid hn; have HLM := Lib.hid hm
  clear hN hW1 hW2 hg b1 b2 g1 g2 h h' s1 s2 hn hm
  go_enter Tryz.func77, Tryz.ntmps77
  go_upto_region 1 with fail
  rw [HW1.out, HW2.out, HN.out]
  have HNF : Hid (∀ W, Gr W2 W → W.cell? ⟨N + 1, 0, none⟩ = some (.int .i64 0) ∧ W.cell? ⟨N + 1, 1, none⟩ = some (.slice none 0 0) ∧ W.cell? ⟨N + 1, 2, none⟩ = some (.int .i64 0) ∧ W.cell? ⟨N + 1, 3, none⟩ = some (.slice none 0 0) ∧ W.frozen? ⟨N + 1, 0, none⟩ = false ∧ W.frozen? ⟨N + 1, 1, none⟩ = false ∧ W.frozen? ⟨N + 1, 2, none⟩ = false ∧ W.frozen? ⟨N + 1, 3, none⟩ = false) := Lib.hid (fun W g => by
    have h1 := hgr g HB2.out
    exact ⟨(cell_h h1 0).trans rfl, (cell_h h1 1).trans rfl, (cell_h h1 2).trans rfl, (cell_h h1 3).trans rfl, Lib.frozen_of_heap h1 0, Lib.frozen_of_heap h1 1, Lib.frozen_of_heap h1 2, Lib.frozen_of_heap h1 3⟩)
  have ks0 : W2.drew.cell? ⟨N, 0, none⟩ = some (.int .i64 xh) ∧ W2.drew.cell? ⟨N, 1, none⟩ = some (.slice A n c) ∧ W2.drew.cell? ⟨N, 2, none⟩ = some (.int .i64 card) ∧ W2.drew.cell? ⟨N, 3, none⟩ = some (.slice B m d) := ⟨c0, c1, c2, c3⟩
  go_region_held3 (fun w' => w'.cell? ⟨N, 0, none⟩ = some (.int .i64 xh) ∧ w'.cell? ⟨N, 1, none⟩ = some (.slice A n c) ∧ w'.cell? ⟨N, 2, none⟩ = some (.int .i64 card) ∧ w'.cell? ⟨N, 3, none⟩ = some (.slice B m d))
    (first | with_reducible exact ksd | with_reducible exact ksg | with_reducible exact ks0 | go_keep)
    (first
      | (go_simp
         go_at_call 75
         refine (CG.out _ (by first | exact Gr.refl _ | exact (Gr.refl _).drew)).mono ?_
         rintro e w3 ⟨A3, c3', rfl, h31, h32, g3, hs3⟩
         have gd3 : Gr W2 w3 := by first | exact g3 | exact (Gr.refl _).drew.trans g3
         have gd3d : Gr W2 w3.drew := gd3.drew
         have ksg : w3.cell? ⟨N, 0, none⟩ = some (.int .i64 xh) ∧ w3.cell? ⟨N, 1, none⟩ = some (.slice A n c) ∧ w3.cell? ⟨N, 2, none⟩ = some (.int .i64 card) ∧ w3.cell? ⟨N, 3, none⟩ = some (.slice B m d) := ⟨gd3.cell c0, gd3.cell c1, gd3.cell c2, gd3.cell c3⟩)
      | (go_simp
         go_at_call 103
         refine (CC.out _ (by first | exact gd3 | exact gd3d)).mono ?_
         rintro e w4 ⟨A4, c4, rfl, h41, h42, g4, hs4⟩
         have gd4 : Gr W2 w4 := by first | exact gd3.trans g4 | exact gd3d.trans g4
         have ksd : w4.cell? ⟨N, 0, none⟩ = some (.int .i64 xh) ∧ w4.cell? ⟨N, 1, none⟩ = some (.slice A n c) ∧ w4.cell? ⟨N, 2, none⟩ = some (.int .i64 card) ∧ w4.cell? ⟨N, 3, none⟩ = some (.slice B m d) := ⟨gd4.cell c0, gd4.cell c1, gd4.cell c2, gd4.cell c3⟩
         obtain ⟨x0, x1, x2, x3, y0, y1, y2, y3⟩ := HNF.out w4 gd4))
  have HX := Lib.hid (set4_same (hgr gd4 HB2.out) (.int .i64 xh) (.slice A3 n c3') (.int .i64 card) (.slice A4 m c4))
  have HS3 := Lib.hid hs3; have HS4 := Lib.hid hs4; have GD4 := Lib.hid gd4; have GD3 := Lib.hid gd3
  have G34 : Hid (Gr w3 w4) := Lib.hid (by first | exact g4 | exact (Gr.refl _).drew.trans g4)
  go_wp2_with fail
  refine bodyPost_ret (v := .agg #[.int .i64 xh, .slice A3 n c3', .int .i64 card, .slice A4 m c4]) (results_cell_row (p := 2) (ty := 28) hres _ _ (N + 1) _ _ (0, 0) _ rfl HX.out Tryz.underlying28 rfl mch_size) rfl ?_
  have hNw := HN.out
  refine ⟨A3, c3', A4, c4, rfl, h31, h32, h41, h42, ((((HG.out.trans GD4.out).setCell (by show w.heap.size ≤ N + 1; omega) _).setCell (by show w.heap.size ≤ N + 1; omega) _).setCell (by show w.heap.size ≤ N + 1; omega) _).setCell (by show w.heap.size ≤ N + 1; omega) _, StrsAt.cm (cm_only fun b hb hl => ?_) HS3.out, StrsAt.cm (cm_only fun b hb hl => ?_) HS4.out⟩
  · have h1 : W2.heap.size ≤ b := by unfold from_ at hb; exact of_decide_eq_true hb
    have h2 := HS2.out
    exact ⟨by unfold from_; simp; omega, (set4_other _ _ _ _ _ _ (by omega)).trans (G34.out.b.block b hl)⟩
  · have h1 : w3.heap.size ≤ b := by unfold from_ at hb; exact of_decide_eq_true hb
    have h2 := HS2.out; have h3 := GD3.out.size
    exact ⟨by unfold from_; simp; omega, set4_other _ _ _ _ _ _ (by omega)⟩
end Go.Proofs.YtikaamonmaohjaaGreatDoor.Ir
namespace Go.Proofs.YtikaamonmaohjaaGreatDoor.Ir
open Go.RowKit Go.Shelf Go.Sort
set_option maxRecDepth 100000
set_option maxHeartbeats 4000000

theorem kept_int (has : Bool) (x : Int) (w : World) (h : has = false → x = 0) : Calls Tryz.prog 44 #[.bool has, .int .i64 x] w fun e w' => e = .returned (.int .i64 x) ∧ Gr w w' := by
  cases has
  · obtain rfl := h rfl
    go_enter Tryz.func44, Tryz.ntmps44
    go_wp2
    go_ret
    exact ⟨rfl, Gr.refl _⟩
  · go_enter Tryz.func44, Tryz.ntmps44
    go_wp2
    go_ret
    exact ⟨rfl, Gr.refl _⟩
theorem kept_float (has : Bool) (x : Nat) (w : World) (h : has = false → x = 0) : Calls Tryz.prog 72 #[.bool has, .float .f64 x] w fun e w' => e = .returned (.float .f64 x) ∧ Gr w w' := by
  cases has
  · obtain rfl := h rfl
    go_enter Tryz.func72, Tryz.ntmps72
    go_wp2
    go_ret
    exact ⟨rfl, Gr.refl _⟩
  · go_enter Tryz.func72, Tryz.ntmps72
    go_wp2
    go_ret
    exact ⟨rfl, Gr.refl _⟩
theorem kept_bool (has : Bool) (x : Bool) (w : World) (h : has = false → x = false) : Calls Tryz.prog 79 #[.bool has, .bool x] w fun e w' => e = .returned (.bool x) ∧ Gr w w' := by
  cases has
  · obtain rfl := h rfl
    go_enter Tryz.func79, Tryz.ntmps79
    go_wp2
    go_ret
    exact ⟨rfl, Gr.refl _⟩
  · go_enter Tryz.func79, Tryz.ntmps79
    go_wp2
    go_ret
    exact ⟨rfl, Gr.refl _⟩
theorem kept_str (has : Bool) (x : ByteArray) (w : World) (h : has = false → x = ⟨#[]⟩) : Calls Tryz.prog 80 #[.bool has, .string x] w fun e w' => e = .returned (.string x) ∧ Gr w w' := by
  cases has
  · obtain rfl := h rfl
    go_enter Tryz.func80, Tryz.ntmps80
    go_wp2
    go_ret
    exact ⟨rfl, Gr.refl _⟩
  · go_enter Tryz.func80, Tryz.ntmps80
    go_wp2
    go_ret
    exact ⟨rfl, Gr.refl _⟩
def KpM (l : List Mt) (w : World) (e : Ending) (w' : World) : Prop := ∃ A' c', e = .returned (.slice A' l.length c') ∧ Gr w w' ∧ MatsAt w' A' l
theorem kept_mats (has : Bool) (A : Option Addr) (l : List Mt) (c : Nat) (w : World) (hl : MatsAt w A l) (h : has = false → l = []) : Calls Tryz.prog 74 #[.bool has, .slice A l.length c] w (KpM l w) := by
  have HL := Lib.hid hl
  clear hl
  cases has
  · obtain rfl := h rfl
    go_enter Tryz.func74, Tryz.ntmps74
    go_wp2
    go_ret
    exact ⟨none, 0, rfl, Gr.refl _, fun h => absurd h (by simp)⟩
  · go_enter Tryz.func74, Tryz.ntmps74
    go_wp2
    go_ret
    exact ⟨_, _, rfl, Gr.refl _, HL.out⟩
theorem kept_grp0 (has : Bool) (x : Int) (A : Option Addr) (n c : Nat) (w : World) (h : has = false → x = 0 ∧ A = none ∧ n = 0 ∧ c = 0) : Calls Tryz.prog 76 #[.bool has, .agg #[.int .i64 x, .slice A n c]] w fun e w' => e = .returned (.agg #[.int .i64 x, .slice A n c]) ∧ Gr w w' := by
  have hres : Tryz.f76.results = #[.cell 4 26] := by kernel_rfl
  obtain ⟨W1, hW1, g1, b1, s1⟩ := ibox w #[.int .i64 x, .slice A n c] 26
  obtain ⟨W2, hW2, g2, b2, s2⟩ := ibox W1 #[.int .i64 0, .slice none 0 0] 26
  obtain ⟨W3, hW3, g3, b3, s3⟩ := ibox W2 #[.int .i64 0, .slice none 0 0] 26
  have hg := g1.trans g2
  have hg3 := hg.trans g3
  rw [s1] at b2
  rw [s2, s1] at b3
  have e1 := hgr g2 b1
  have e2 := hgr g3 b2
  obtain ⟨N, hN⟩ : ∃ N, w.heap.size = N := ⟨_, rfl⟩
  rw [hN] at b2 b3 e1 e2
  have c0 := (cell_h e1 0).trans rfl
  have c1 := (cell_h e1 1).trans rfl
  have d0 := (cell_h b2 0).trans rfl
  have d1 := (cell_h b2 1).trans rfl
  have f0 := Lib.frozen_of_heap b2 0
  have f1 := Lib.frozen_of_heap b2 1
  have k0 := (cell_h b3 0).trans rfl
  have k1 := (cell_h b3 1).trans rfl
  have l0 := (cell_h e2 0).trans rfl
  have l1 := (cell_h e2 1).trans rfl
  have m0 := Lib.frozen_of_heap e2 0
  have m1 := Lib.frozen_of_heap e2 1
  have HX := Lib.hid (set2_same b2 (.int .i64 x) (.slice A n c))
  have HY := Lib.hid (set2_same e2 (.int .i64 0) (.slice none 0 0))
  have HG : Hid (Gr w ((W2.setCell ⟨N + 1, 0, none⟩ (.int .i64 x)).setCell ⟨N + 1, 1, none⟩ (.slice A n c))) := Lib.hid ((hg.setCell (by show w.heap.size ≤ N + 1; omega) _).setCell (by show w.heap.size ≤ N + 1; omega) _)
  have HG3 : Hid (Gr w ((W3.setCell ⟨N + 1, 0, none⟩ (.int .i64 0)).setCell ⟨N + 1, 1, none⟩ (.slice none 0 0))) := Lib.hid ((hg3.setCell (by show w.heap.size ≤ N + 1; omega) _).setCell (by show w.heap.size ≤ N + 1; omega) _)
  have HN := Lib.hid hN; have HW1 := Lib.hid hW1; have HW2 := Lib.hid hW2; have HW3 := Lib.hid hW3
  have HS : Hid (W2.heap.size = N + 2) := Lib.hid (by omega)
  clear hN hW1 hW2 hW3 b1 b2 b3 e1 e2 g1 g2 g3 s1 s2 s3 hg hg3
  cases has
  · obtain ⟨rfl, rfl, rfl, rfl⟩ := h rfl
    go_enter Tryz.func76, Tryz.ntmps76
    go_upto_region 1 with fail
    rw [HW1.out, HW2.out, HN.out]
    go_upto_region 4 with fail
    rw [HW3.out, HS.out]
    go_wp2
    refine bodyPost_ret (v := .agg #[.int .i64 0, .slice none 0 0]) (results_cell_row (p := 4) (ty := 26) hres _ _ (N + 1) _ _ (0, 0) _ rfl HY.out Tryz.underlying26 rfl grp_size) rfl ?_
    exact ⟨rfl, HG3.out⟩
  · go_enter Tryz.func76, Tryz.ntmps76
    go_upto_region 1 with fail
    rw [HW1.out, HW2.out, HN.out]
    go_wp2
    refine bodyPost_ret (v := .agg #[.int .i64 x, .slice A n c]) (results_cell_row (p := 4) (ty := 26) hres _ _ (N + 1) _ _ (0, 0) _ rfl HX.out Tryz.underlying26 rfl grp_size) rfl ?_
    exact ⟨rfl, HG.out⟩
theorem kept_mch0 (has : Bool) (x : Int) (A : Option Addr) (n c : Nat) (y : Int) (B : Option Addr) (m d : Nat) (w : World) (h : has = false → (x = 0 ∧ A = none ∧ n = 0 ∧ c = 0) ∧ y = 0 ∧ B = none ∧ m = 0 ∧ d = 0) : Calls Tryz.prog 78 #[.bool has, .agg #[.int .i64 x, .slice A n c, .int .i64 y, .slice B m d]] w fun e w' => e = .returned (.agg #[.int .i64 x, .slice A n c, .int .i64 y, .slice B m d]) ∧ Gr w w' := by
  have hres : Tryz.f78.results = #[.cell 4 28] := by kernel_rfl
  obtain ⟨W1, hW1, g1, b1, s1⟩ := ibox w #[.int .i64 x, .slice A n c, .int .i64 y, .slice B m d] 28
  obtain ⟨W2, hW2, g2, b2, s2⟩ := ibox W1 #[.int .i64 0, .slice none 0 0, .int .i64 0, .slice none 0 0] 28
  obtain ⟨W3, hW3, g3, b3, s3⟩ := ibox W2 #[.int .i64 0, .slice none 0 0, .int .i64 0, .slice none 0 0] 28
  have hg := g1.trans g2
  have hg3 := hg.trans g3
  rw [s1] at b2
  rw [s2, s1] at b3
  have e1 := hgr g2 b1
  have e2 := hgr g3 b2
  obtain ⟨N, hN⟩ : ∃ N, w.heap.size = N := ⟨_, rfl⟩
  rw [hN] at b2 b3 e1 e2
  have c0 := (cell_h e1 0).trans rfl
  have c1 := (cell_h e1 1).trans rfl
  have c2 := (cell_h e1 2).trans rfl
  have c3 := (cell_h e1 3).trans rfl
  have q0 := (cell_h b2 0).trans rfl
  have q1 := (cell_h b2 1).trans rfl
  have q2 := (cell_h b2 2).trans rfl
  have q3 := (cell_h b2 3).trans rfl
  have f0 := Lib.frozen_of_heap b2 0
  have f1 := Lib.frozen_of_heap b2 1
  have f2 := Lib.frozen_of_heap b2 2
  have f3 := Lib.frozen_of_heap b2 3
  have k0 := (cell_h b3 0).trans rfl
  have k1 := (cell_h b3 1).trans rfl
  have k2 := (cell_h b3 2).trans rfl
  have k3 := (cell_h b3 3).trans rfl
  have l0 := (cell_h e2 0).trans rfl
  have l1 := (cell_h e2 1).trans rfl
  have l2 := (cell_h e2 2).trans rfl
  have l3 := (cell_h e2 3).trans rfl
  have z0 := Lib.frozen_of_heap e2 0
  have z1 := Lib.frozen_of_heap e2 1
  have z2 := Lib.frozen_of_heap e2 2
  have z3 := Lib.frozen_of_heap e2 3
  have HX := Lib.hid (set4_same b2 (.int .i64 x) (.slice A n c) (.int .i64 y) (.slice B m d))
  have HY := Lib.hid (set4_same e2 (.int .i64 0) (.slice none 0 0) (.int .i64 0) (.slice none 0 0))
  have HG : Hid (Gr w ((((W2.setCell ⟨N + 1, 0, none⟩ (.int .i64 x)).setCell ⟨N + 1, 1, none⟩ (.slice A n c)).setCell ⟨N + 1, 2, none⟩ (.int .i64 y)).setCell ⟨N + 1, 3, none⟩ (.slice B m d))) := Lib.hid ((((hg.setCell (by show w.heap.size ≤ N + 1; omega) _).setCell (by show w.heap.size ≤ N + 1; omega) _).setCell (by show w.heap.size ≤ N + 1; omega) _).setCell (by show w.heap.size ≤ N + 1; omega) _)
  have HG3 : Hid (Gr w ((((W3.setCell ⟨N + 1, 0, none⟩ (.int .i64 0)).setCell ⟨N + 1, 1, none⟩ (.slice none 0 0)).setCell ⟨N + 1, 2, none⟩ (.int .i64 0)).setCell ⟨N + 1, 3, none⟩ (.slice none 0 0))) := Lib.hid ((((hg3.setCell (by show w.heap.size ≤ N + 1; omega) _).setCell (by show w.heap.size ≤ N + 1; omega) _).setCell (by show w.heap.size ≤ N + 1; omega) _).setCell (by show w.heap.size ≤ N + 1; omega) _)
  have HN := Lib.hid hN; have HW1 := Lib.hid hW1; have HW2 := Lib.hid hW2; have HW3 := Lib.hid hW3
  have HS : Hid (W2.heap.size = N + 2) := Lib.hid (by omega)
  clear hN hW1 hW2 hW3 b1 b2 b3 e1 e2 g1 g2 g3 s1 s2 s3 hg hg3
  cases has
  · obtain ⟨⟨rfl, rfl, rfl, rfl⟩, rfl, rfl, rfl, rfl⟩ := h rfl
    go_enter Tryz.func78, Tryz.ntmps78
    go_upto_region 1 with fail
    rw [HW1.out, HW2.out, HN.out]
    go_upto_region 4 with fail
    rw [HW3.out, HS.out]
    go_wp2
    refine bodyPost_ret (v := .agg #[.int .i64 0, .slice none 0 0, .int .i64 0, .slice none 0 0]) (results_cell_row (p := 4) (ty := 28) hres _ _ (N + 1) _ _ (0, 0) _ rfl HY.out Tryz.underlying28 rfl mch_size) rfl ?_
    exact ⟨rfl, HG3.out⟩
  · go_enter Tryz.func78, Tryz.ntmps78
    go_upto_region 1 with fail
    rw [HW1.out, HW2.out, HN.out]
    go_wp2
    refine bodyPost_ret (v := .agg #[.int .i64 x, .slice A n c, .int .i64 y, .slice B m d]) (results_cell_row (p := 4) (ty := 28) hres _ _ (N + 1) _ _ (0, 0) _ rfl HX.out Tryz.underlying28 rfl mch_size) rfl ?_
    exact ⟨rfl, HG.out⟩
theorem kept_grp_no (A : Option Addr) (n c : Nat) (w : World) : Calls Tryz.prog 76 #[.bool false, .agg #[.int .i64 0, .slice A n c]] w fun e w' => e = .returned (.agg #[.int .i64 0, .slice none 0 0]) ∧ Gr w w' := by
  have hres : Tryz.f76.results = #[.cell 4 26] := by kernel_rfl
  obtain ⟨W1, hW1, g1, b1, s1⟩ := ibox w #[.int .i64 0, .slice A n c] 26
  obtain ⟨W2, hW2, g2, b2, s2⟩ := ibox W1 #[.int .i64 0, .slice none 0 0] 26
  obtain ⟨W3, hW3, g3, b3, s3⟩ := ibox W2 #[.int .i64 0, .slice none 0 0] 26
  have hg := g1.trans g2
  have hg3 := hg.trans g3
  rw [s1] at b2
  rw [s2, s1] at b3
  have e1 := hgr g2 b1
  have e2 := hgr g3 b2
  obtain ⟨N, hN⟩ : ∃ N, w.heap.size = N := ⟨_, rfl⟩
  rw [hN] at b2 b3 e1 e2
  have c0 := (cell_h e1 0).trans rfl
  have c1 := (cell_h e1 1).trans rfl
  have d0 := (cell_h b2 0).trans rfl
  have d1 := (cell_h b2 1).trans rfl
  have f0 := Lib.frozen_of_heap b2 0
  have f1 := Lib.frozen_of_heap b2 1
  have k0 := (cell_h b3 0).trans rfl
  have k1 := (cell_h b3 1).trans rfl
  have l0 := (cell_h e2 0).trans rfl
  have l1 := (cell_h e2 1).trans rfl
  have m0 := Lib.frozen_of_heap e2 0
  have m1 := Lib.frozen_of_heap e2 1
  have HX := Lib.hid (set2_same b2 (.int .i64 0) (.slice A n c))
  have HY := Lib.hid (set2_same e2 (.int .i64 0) (.slice none 0 0))
  have HG : Hid (Gr w ((W2.setCell ⟨N + 1, 0, none⟩ (.int .i64 0)).setCell ⟨N + 1, 1, none⟩ (.slice A n c))) := Lib.hid ((hg.setCell (by show w.heap.size ≤ N + 1; omega) _).setCell (by show w.heap.size ≤ N + 1; omega) _)
  have HG3 : Hid (Gr w ((W3.setCell ⟨N + 1, 0, none⟩ (.int .i64 0)).setCell ⟨N + 1, 1, none⟩ (.slice none 0 0))) := Lib.hid ((hg3.setCell (by show w.heap.size ≤ N + 1; omega) _).setCell (by show w.heap.size ≤ N + 1; omega) _)
  have HN := Lib.hid hN; have HW1 := Lib.hid hW1; have HW2 := Lib.hid hW2; have HW3 := Lib.hid hW3
  have HS : Hid (W2.heap.size = N + 2) := Lib.hid (by omega)
  clear hN hW1 hW2 hW3 b1 b2 b3 e1 e2 g1 g2 g3 s1 s2 s3 hg hg3
  go_enter Tryz.func76, Tryz.ntmps76
  go_upto_region 1 with fail
  rw [HW1.out, HW2.out, HN.out]
  go_upto_region 4 with fail
  rw [HW3.out, HS.out]
  go_wp2
  refine bodyPost_ret (v := .agg #[.int .i64 0, .slice none 0 0]) (results_cell_row (p := 4) (ty := 26) hres _ _ (N + 1) _ _ (0, 0) _ rfl HY.out Tryz.underlying26 rfl grp_size) rfl ?_
  exact ⟨rfl, HG3.out⟩
theorem kept_mch_no (A : Option Addr) (n c : Nat) (B : Option Addr) (m d : Nat) (w : World) : Calls Tryz.prog 78 #[.bool false, .agg #[.int .i64 0, .slice A n c, .int .i64 0, .slice B m d]] w fun e w' => e = .returned (.agg #[.int .i64 0, .slice none 0 0, .int .i64 0, .slice none 0 0]) ∧ Gr w w' := by
  have hres : Tryz.f78.results = #[.cell 4 28] := by kernel_rfl
  obtain ⟨W1, hW1, g1, b1, s1⟩ := ibox w #[.int .i64 0, .slice A n c, .int .i64 0, .slice B m d] 28
  obtain ⟨W2, hW2, g2, b2, s2⟩ := ibox W1 #[.int .i64 0, .slice none 0 0, .int .i64 0, .slice none 0 0] 28
  obtain ⟨W3, hW3, g3, b3, s3⟩ := ibox W2 #[.int .i64 0, .slice none 0 0, .int .i64 0, .slice none 0 0] 28
  have hg := g1.trans g2
  have hg3 := hg.trans g3
  rw [s1] at b2
  rw [s2, s1] at b3
  have e1 := hgr g2 b1
  have e2 := hgr g3 b2
  obtain ⟨N, hN⟩ : ∃ N, w.heap.size = N := ⟨_, rfl⟩
  rw [hN] at b2 b3 e1 e2
  have c0 := (cell_h e1 0).trans rfl
  have c1 := (cell_h e1 1).trans rfl
  have c2 := (cell_h e1 2).trans rfl
  have c3 := (cell_h e1 3).trans rfl
  have q0 := (cell_h b2 0).trans rfl
  have q1 := (cell_h b2 1).trans rfl
  have q2 := (cell_h b2 2).trans rfl
  have q3 := (cell_h b2 3).trans rfl
  have f0 := Lib.frozen_of_heap b2 0
  have f1 := Lib.frozen_of_heap b2 1
  have f2 := Lib.frozen_of_heap b2 2
  have f3 := Lib.frozen_of_heap b2 3
  have k0 := (cell_h b3 0).trans rfl
  have k1 := (cell_h b3 1).trans rfl
  have k2 := (cell_h b3 2).trans rfl
  have k3 := (cell_h b3 3).trans rfl
  have l0 := (cell_h e2 0).trans rfl
  have l1 := (cell_h e2 1).trans rfl
  have l2 := (cell_h e2 2).trans rfl
  have l3 := (cell_h e2 3).trans rfl
  have z0 := Lib.frozen_of_heap e2 0
  have z1 := Lib.frozen_of_heap e2 1
  have z2 := Lib.frozen_of_heap e2 2
  have z3 := Lib.frozen_of_heap e2 3
  have HX := Lib.hid (set4_same b2 (.int .i64 0) (.slice A n c) (.int .i64 0) (.slice B m d))
  have HY := Lib.hid (set4_same e2 (.int .i64 0) (.slice none 0 0) (.int .i64 0) (.slice none 0 0))
  have HG : Hid (Gr w ((((W2.setCell ⟨N + 1, 0, none⟩ (.int .i64 0)).setCell ⟨N + 1, 1, none⟩ (.slice A n c)).setCell ⟨N + 1, 2, none⟩ (.int .i64 0)).setCell ⟨N + 1, 3, none⟩ (.slice B m d))) := Lib.hid ((((hg.setCell (by show w.heap.size ≤ N + 1; omega) _).setCell (by show w.heap.size ≤ N + 1; omega) _).setCell (by show w.heap.size ≤ N + 1; omega) _).setCell (by show w.heap.size ≤ N + 1; omega) _)
  have HG3 : Hid (Gr w ((((W3.setCell ⟨N + 1, 0, none⟩ (.int .i64 0)).setCell ⟨N + 1, 1, none⟩ (.slice none 0 0)).setCell ⟨N + 1, 2, none⟩ (.int .i64 0)).setCell ⟨N + 1, 3, none⟩ (.slice none 0 0))) := Lib.hid ((((hg3.setCell (by show w.heap.size ≤ N + 1; omega) _).setCell (by show w.heap.size ≤ N + 1; omega) _).setCell (by show w.heap.size ≤ N + 1; omega) _).setCell (by show w.heap.size ≤ N + 1; omega) _)
  have HN := Lib.hid hN; have HW1 := Lib.hid hW1; have HW2 := Lib.hid hW2; have HW3 := Lib.hid hW3
  have HS : Hid (W2.heap.size = N + 2) := Lib.hid (by omega)
  clear hN hW1 hW2 hW3 b1 b2 b3 e1 e2 g1 g2 g3 s1 s2 s3 hg hg3
  go_enter Tryz.func78, Tryz.ntmps78
  go_upto_region 1 with fail
  rw [HW1.out, HW2.out, HN.out]
  go_upto_region 4 with fail
  rw [HW3.out, HS.out]
  go_wp2
  refine bodyPost_ret (v := .agg #[.int .i64 0, .slice none 0 0, .int .i64 0, .slice none 0 0]) (results_cell_row (p := 4) (ty := 28) hres _ _ (N + 1) _ _ (0, 0) _ rfl HY.out Tryz.underlying28 rfl mch_size) rfl ?_
  exact ⟨rfl, HG3.out⟩
theorem kept_grp (has : Bool) (x : Int) (A : Option Addr) (l : List ByteArray) (c : Nat) (w : World) (hl : StrsAt w A l) (h : has = false → x = 0 ∧ l = []) : Calls Tryz.prog 76 #[.bool has, .agg #[.int .i64 x, .slice A l.length c]] w fun e w' => ∃ A' c', e = .returned (.agg #[.int .i64 x, .slice A' l.length c']) ∧ Gr w w' ∧ StrsAt w' A' l := by
  cases has with
  | true =>
    refine (kept_grp0 true x A l.length c w (fun h => by cases h)).mono ?_
    rintro e w' ⟨rfl, g⟩
    exact ⟨_, _, rfl, g, hl.gr g⟩
  | false =>
    obtain ⟨rfl, rfl⟩ := h rfl
    refine (kept_grp_no A 0 c w).mono ?_
    rintro e w' ⟨rfl, g⟩
    exact ⟨none, 0, rfl, g, fun h => absurd h (by simp)⟩
theorem kept_mch (has : Bool) (x : Int) (A : Option Addr) (l : List ByteArray) (c : Nat) (y : Int) (B : Option Addr) (r : List ByteArray) (d : Nat) (w : World) (hl : StrsAt w A l) (hr : StrsAt w B r) (h : has = false → (x = 0 ∧ l = []) ∧ y = 0 ∧ r = []) : Calls Tryz.prog 78 #[.bool has, .agg #[.int .i64 x, .slice A l.length c, .int .i64 y, .slice B r.length d]] w fun e w' => ∃ A' c' B' d', e = .returned (.agg #[.int .i64 x, .slice A' l.length c', .int .i64 y, .slice B' r.length d']) ∧ Gr w w' ∧ StrsAt w' A' l ∧ StrsAt w' B' r := by
  cases has with
  | true =>
    refine (kept_mch0 true x A l.length c y B r.length d w (fun h => by cases h)).mono ?_
    rintro e w' ⟨rfl, g⟩
    exact ⟨_, _, _, _, rfl, g, hl.gr g, hr.gr g⟩
  | false =>
    obtain ⟨⟨rfl, rfl⟩, rfl, rfl⟩ := h rfl
    refine (kept_mch_no A 0 c B 0 d w).mono ?_
    rintro e w' ⟨rfl, g⟩
    exact ⟨none, 0, none, 0, rfl, g, fun h => absurd h (by simp), fun h => absurd h (by simp)⟩
end Go.Proofs.YtikaamonmaohjaaGreatDoor.Ir
