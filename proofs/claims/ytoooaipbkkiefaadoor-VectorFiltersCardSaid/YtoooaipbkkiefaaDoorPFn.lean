/- Closures over points, each, nameless, the program's. -/
import Derived.Test.YtoooaipbkkiefaaDoorPNorm
import Derived.Test.YtoooaipbkkiefaaDoorFFn
import Derived.Laws.Rows
import Derived.Laws.EntriesVeiled
namespace Go.Proofs.YtoooaipbkkiefaaDoor.Pt
open Go.RowKit Go.Sort
set_option maxRecDepth 100000
set_option maxHeartbeats 4000000
attribute [local irreducible] wpQuiet

/-- a function of values, as a closure -/
def ValC (W0 : World) (G : FuncId) (cb : Array Value) (f : Nat → Nat) : Prop := ∀ (W : World) (x : Nat), Gr W0 W → Calls Tryd.prog G (#[.float .f64 x] ++ cb) W fun e w' => e = .returned (.float .f64 (f x)) ∧ Gr W w'
/-- a point in fresh memory -/
def PtPost (p : Pt) (w : World) (e : Ending) (w' : World) : Prop :=
  ∃ A c, e = .returned (.agg #[.slice A p.1.length c, .float .f64 p.2]) ∧ LabsAt w' A p.1 ∧ Gr w w' ∧ (0 < p.1.length → ∀ b, (Value.slice A p.1.length c).ownBlock = some b → w.heap.size ≤ b)
/-- a function of points, as a closure -/
def Chg (W0 : World) (F : FuncId) (cb : Array Value) (f : Pt → Pt) : Prop := ∀ (W : World) (A : Option Addr) (c : Nat) (p : Pt), Gr W0 W → LabsAt W A p.1 → SmL p.1 → Calls Tryd.prog F (#[.agg #[.slice A p.1.length c, .float .f64 p.2]] ++ cb) W (PtPost (f p) W)
/-- without the metric's name -/
def nmP (g : Nat → Nat) (p : Pt) : Pt := (pickL p.1 [nmB] false, g p.2)
theorem pt_size : (Tryd.prog.info? 42).map (·.size) = some 2 := by kernel_rfl

theorem box2 {W : World} {b : Nat} {u v : Value} {T : TypeId} (h : W.heap[b]? = some (.cells #[u, v] T (0, 0))) (u' v' : Value) : ((W.setCell ⟨b, 0, none⟩ u').setCell ⟨b, 1, none⟩ v').heap[b]? = some (.cells #[u', v'] T (0, 0)) := by
  have h1 := heap_setCell_same W b 0 _ _ u' h
  have h2 := heap_setCell_same _ b 1 _ _ v' h1
  simpa using h2
theorem gset (W : World) (b i j : Nat) (u v : Value) : W.grownBy ((W.setCell ⟨b, i, none⟩ u).setCell ⟨b, j, none⟩ v) (some b) :=
  ⟨rfl, rfl, rfl, by simp [World.setCell], fun k _ hne => (Below.heap_setCell _ _ v k (by
    rintro rfl
    exact hne rfl)).trans (Below.heap_setCell W _ u k (by
    rintro rfl
    exact hne rfl))⟩
theorem labs_only {W W' : World} {A : Option Addr} {l : List Lb} {r : Nat} (h : LabsAt W A l) (g : W.grownBy W' (some r)) (hne : 0 < l.length → ∀ b o, A = some ⟨b, o, none⟩ → b ≠ r) : LabsAt W' A l := fun h0 => by
  obtain ⟨b, o, e, hc⟩ := h h0
  have := hne h0 b o e
  exact ⟨b, o, e, fun i y hy => ⟨g.cell (hc i y hy).1 (fun e => this (by injection e)), g.cell (hc i y hy).2 (fun e => this (by injection e))⟩⟩
/-- a point built in a block of the call's own -/
theorem pt_end {W W2 w4 w5 : World} {N : Nat} {A : Option Addr} {l : List Lb} {c : Nat} {y : Nat} (hN : W.heap.size = N) (hG : Gr W W2) (h4 : LabsAt w4 A l) (g4 : Gr W2 w4) (g5 : Gr w4 w5) (hz : N + 1 < W2.heap.size) (hf : 0 < l.length → ∀ b, (Value.slice A l.length c).ownBlock = some b → W2.heap.size ≤ b) :
    PtPost (l, y) W (.returned (.agg #[.slice A l.length c, .float .f64 y])) ((w5.setCell ⟨N + 1, 0, none⟩ (.slice A l.length c)).setCell ⟨N + 1, 1, none⟩ (.float .f64 y)) := by
  have gs := gset w5 (N + 1) 0 1 (.slice A l.length c) (.float .f64 y)
  refine ⟨A, c, rfl, labs_only (h4.gr g5) gs (fun h0 b o hb => ?_), ((hG.trans g4).trans g5).grown gs (fun k hk => by injection hk; omega), fun h0 b hb => ?_⟩
  · have := hf h0 b (by rw [hb]; rfl)
    omega
  · have := hf h0 b hb
    have := hG.size
    omega
theorem nmls_any (G : FuncId) (cb : Array Value) (g : Nat → Nat) (W0 : World) (fb : Nat) (hv : ValC W0 G cb g) (hf : W0.cell? ⟨fb, 0, none⟩ = some (.func (.func G) #[] cb))
    (eg : ∀ args w, (callFunc G args).run Tryd.prog w = .ok (.enter G args) w) : Chg W0 73 #[.pointer (some ⟨fb, 0, none⟩)] (nmP g) := by
  intro W A c p hg hl hs
  obtain ⟨p1, p2⟩ := p
  simp only at hl hs ⊢
  have hres : Tryd.f73.results = #[.cell 3 42] := by kernel_rfl
  obtain ⟨W1, hW1, g1, hb1⟩ := fresh W #[.slice A p1.length c, .float .f64 p2] 42
  obtain ⟨W2, hW2, g2, hb2⟩ := fresh W1 #[.slice none 0 0, .float .f64 0] 42
  have c0 := g2.cell (hb1 0 _ rfl)
  have c1 := g2.cell (hb1 1 _ rfl)
  have cf := g2.cell (g1.cell (hg.cell hf))
  have hsz : W1.heap.size = W.heap.size + 1 := by rw [← hW1]; simp
  have HBX : Hid (W2.heap[W.heap.size + 1]? = some (.cells #[.slice none 0 0, .float .f64 0] 42 (0, 0))) := Lib.hid (by rw [← hsz, ← hW2]; exact heap_alloc_new _ _)
  have HW1 := Lib.hid hW1; have HW2 := Lib.hid hW2; have HSZ := Lib.hid hsz
  have CD := Lib.hid (fun M d W' (gg : Gr W2 W') (hst : StrsAt W' (some ⟨M, 0, none⟩) [nmB]) => drop_any A (some ⟨M, 0, none⟩) p1 [nmB] c d W' (((hl.gr g1).gr g2).gr gg) hst (by have := hs.1; omega) (by simp))
  have CV := Lib.hid (fun W' (gg : Gr W2 W') => hv W' p2 (((hg.trans g1).trans g2).trans gg))
  obtain ⟨N, hN⟩ : ∃ N, W.heap.size = N := ⟨_, rfl⟩
  rw [hN] at c0 c1 HBX
  have HN := Lib.hid hN
  have HG := Lib.hid (g1.trans g2)
  have hne : fb ≠ N + 1 := by have h1 := World.block_lt_of_cell? W0 _ hf; have h2 := hg.size; have h3 : fb < W0.heap.size := h1; omega
  have hne2 : N + 1 ≠ fb := fun e => hne e.symm
  clear hv hf hl hs hW1 hW2 hb1 hb2 hsz hN g1 g2 hg
  go_enter Tryd.func73, Tryd.ntmps73
  go_upto_region 1 with fail
  rw [HW1.out, HW2.out, HN.out]
  have HNF : Hid (∀ W, Gr W2 W → W.cell? ⟨N + 1, 0, none⟩ = some (.slice none 0 0) ∧ W.cell? ⟨N + 1, 1, none⟩ = some (.float .f64 0) ∧ W.frozen? ⟨N + 1, 0, none⟩ = false ∧ W.frozen? ⟨N + 1, 1, none⟩ = false) := Lib.hid (fun W g => by
    have h1 := (g.b.block (N + 1) (Array.getElem?_eq_some_iff.1 HBX.out).1).trans HBX.out
    exact ⟨cell_of_row W _ 0 _ _ _ h1, cell_of_row W _ 1 _ _ _ h1, frozen_of_row W _ 0 _ _ h1, frozen_of_row W _ 1 _ _ h1⟩)
  go_region_held3 (fun w' => w'.cell? ⟨N, 0, none⟩ = some (.slice A p1.length c) ∧ w'.cell? ⟨N, 1, none⟩ = some (.float .f64 p2) ∧ w'.cell? ⟨fb, 0, none⟩ = some (.func (.func G) #[] cb))
    (first | exact ksd | exact ksv | exact ⟨c0, c1, cf⟩ | go_keep)
    (first
      | (go_simp
         go_at_call 74
         refine (CD.out _ 1 _ (by first | exact gv5 | exact ((Gr.refl _).alloc _ _).drew) (by first | exact (strs_one W2 nmB).gr ((Gr.refl _).drew.trans gv6) | exact (strs_one W2 nmB).gr (Gr.refl _).drew)).mono ?_
         rintro e w4 ⟨v4, rfl, ho4, g4⟩
         have gd5 : Gr W2 w4 := by first | exact gv5.trans g4 | exact (((Gr.refl _).alloc _ _).drew).trans g4
         have gd6 := g4
         have ksd : w4.cell? ⟨N, 0, none⟩ = some (.slice A p1.length c) ∧ w4.cell? ⟨N, 1, none⟩ = some (.float .f64 p2) ∧ w4.cell? ⟨fb, 0, none⟩ = some (.func (.func G) #[] cb) := ⟨gd5.cell c0, gd5.cell c1, gd5.cell cf⟩
         obtain ⟨A4, c4, rfl, hl4, -, -⟩ := ho4.form
         obtain ⟨x0, x1, x2, x3⟩ := HNF.out w4 gd5
         have x1' : ∀ u, (w4.setCell ⟨N + 1, 0, none⟩ u).cell? ⟨N + 1, 1, none⟩ = some (.float .f64 0) := fun u => by rw [World.cell?_setCell_other _ _ _ _ (by simp)]; exact x1)
      | (go_simp
         go_at_fn G
         refine (CV.out _ (by first | exact gd5 | exact ((Gr.refl _).alloc _ _).drew)).mono ?_
         rintro e w5 ⟨rfl, g5⟩
         have gv5 : Gr W2 w5 := by first | exact gd5.trans g5 | exact (((Gr.refl _).alloc _ _).drew).trans g5
         have gv6 := g5
         have ksv : w5.cell? ⟨N, 0, none⟩ = some (.slice A p1.length c) ∧ w5.cell? ⟨N, 1, none⟩ = some (.float .f64 p2) ∧ w5.cell? ⟨fb, 0, none⟩ = some (.func (.func G) #[] cb) := ⟨gv5.cell c0, gv5.cell c1, gv5.cell cf⟩
         obtain ⟨y0, y1, y2, y3⟩ := HNF.out w5 gv5
         have y1' : ∀ u, (w5.setCell ⟨N + 1, 0, none⟩ u).cell? ⟨N + 1, 1, none⟩ = some (.float .f64 0) := fun u => by rw [World.cell?_setCell_other _ _ _ _ (by simp)]; exact y1))
  have HFIN := Lib.hid (pt_end (y := g p2) (c := c4) HN.out HG.out hl4 gd5 g5 (Array.getElem?_eq_some_iff.1 HBX.out).1 (fun _ b hb => by
    have h1 := (ho4.lt (k := b) hb).1
    have h2 : (W2.alloc (.cells #[.string nmB] 9)).drew.heap.size = W2.heap.size + 1 := by simp
    have h3 : (W2.alloc (.cells #[.string nmB] 9)).drew.heap.size ≤ b := h1
    omega))
  have HR5 := Lib.hid (box2 ((gv5.b.block (N + 1) (Array.getElem?_eq_some_iff.1 HBX.out).1).trans HBX.out) (.slice A4 (pickL p1 [nmB] false).length c4) (.float .f64 (g p2)))
  clear hl4 ho4 gd5 g5 gv5
  go_wp2_with fail
  refine bodyPost_ret (v := .agg #[.slice A4 (pickL p1 [nmB] false).length c4, .float .f64 (g p2)]) (results_cell_row (p := 3) (ty := 42) hres _ _ (N + 1) _ _ (0, 0) _ rfl HR5.out Tryd.underlying42 rfl pt_size) rfl ?_
  exact HFIN.out

end Go.Proofs.YtoooaipbkkiefaaDoor.Pt
