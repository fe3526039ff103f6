/- Same, by what Clean and sameClean tell. -/
import Derived.Test.YtikaamonmaohjaaGreatDoorISam
import Derived.Deep.RegionHeld3
namespace Go.Proofs.YtikaamonmaohjaaGreatDoor.Ir
open Go.RowKit Go.Shelf Go.Sort
set_option maxRecDepth 100000
set_option maxHeartbeats 20000000
attribute [local irreducible] wpQuiet

theorem same_gen (t u : Tr) (p q : Np) (w : World) (v : Bool) (_h : TrP w t p) (_h' : TrP w u q) (hC : ∀ W, Gr w W → Calls Tryz.prog 27 #[.agg (nV t.d p t.ks.length).toArray] W (FrT t W)) (hC' : ∀ W, Gr w W → Calls Tryz.prog 27 #[.agg (nV u.d q u.ks.length).toArray] W (FrT u W))
    (hS : ∀ W p' q', Gr w W → TrP W t p' → TrP W u q' → Calls Tryz.prog 26 #[.agg (nV t.d p' t.ks.length).toArray, .agg (nV u.d q' u.ks.length).toArray] W fun e w' => e = .returned (.bool v) ∧ Gr W w') :
    Calls Tryz.prog 14 #[.agg (nV t.d p t.ks.length).toArray, .agg (nV u.d q u.ks.length).toArray] w fun e w' => e = .returned (.bool v) ∧ Gr w w' := by
  obtain ⟨W1, hW1, g1, b1, s1⟩ := ibox w (nV t.d p t.ks.length).toArray 31
  obtain ⟨W2, hW2, g2, b2, s2⟩ := ibox W1 (nV u.d q u.ks.length).toArray 31
  have hg := g1.trans g2
  obtain ⟨c0, c1, c2, c3, c4, c5, c6, c7, c8, c9, c10, c11, c12, c13, c14, c15, c16⟩ := (box_cells (hgr g2 b1)).all
  obtain ⟨e0, e1, e2, e3, e4, e5, e6, e7, e8, e9, e10, e11, e12, e13, e14, e15, e16⟩ := (box_cells b2).all
  simp only [Nat.zero_add] at c1 e1 c2 e2 c3 e3 c4 e4 c5 e5 c6 e6 c7 e7 c8 e8 c9 e9 c10 e10 c11 e11 c12 e12 c13 e13 c14 e14 c15 e15 c16 e16
  obtain ⟨N, hN⟩ : ∃ N, w.heap.size = N := ⟨_, rfl⟩
  rw [s1, hN] at e0 e1 e2 e3 e4 e5 e6 e7 e8 e9 e10 e11 e12 e13 e14 e15 e16
  rw [hN] at c0 c1 c2 c3 c4 c5 c6 c7 c8 c9 c10 c11 c12 c13 c14 c15 c16
  have C1 := Lib.hid (fun W (g : Gr W2 W) => hC W (hg.trans g))
  have C2 := Lib.hid (fun W (g : Gr W2 W) => hC' W (hg.trans g))
  have C3 := Lib.hid (fun W p' q' (g : Gr W2 W) => hS W p' q' (hg.trans g))
  have HBX : Hid (∀ W, Gr W2 W → (fun w' => w'.cell? ⟨N, 0, none⟩ = some (.int .i64 t.d.k) ∧ w'.cell? ⟨N + 1, 0, none⟩ = some (.int .i64 u.d.k) ∧ w'.cell? ⟨N, 1, none⟩ = some (.float .f64 t.d.num) ∧ w'.cell? ⟨N + 1, 1, none⟩ = some (.float .f64 u.d.num) ∧ w'.cell? ⟨N, 2, none⟩ = some (.int .i64 t.d.fn) ∧ w'.cell? ⟨N + 1, 2, none⟩ = some (.int .i64 u.d.fn) ∧ w'.cell? ⟨N, 3, none⟩ = some (.slice p.mA t.d.m.length p.mC) ∧ w'.cell? ⟨N + 1, 3, none⟩ = some (.slice q.mA u.d.m.length q.mC) ∧ w'.cell? ⟨N, 4, none⟩ = some (.int .i64 t.d.rg) ∧ w'.cell? ⟨N + 1, 4, none⟩ = some (.int .i64 u.d.rg) ∧ w'.cell? ⟨N, 5, none⟩ = some (.int .i64 t.d.st) ∧ w'.cell? ⟨N + 1, 5, none⟩ = some (.int .i64 u.d.st) ∧ w'.cell? ⟨N, 6, none⟩ = some (.int .i64 t.d.of) ∧ w'.cell? ⟨N + 1, 6, none⟩ = some (.int .i64 u.d.of) ∧ w'.cell? ⟨N, 7, none⟩ = some (.int .i64 t.d.gh) ∧ w'.cell? ⟨N + 1, 7, none⟩ = some (.int .i64 u.d.gh) ∧ w'.cell? ⟨N, 8, none⟩ = some (.slice p.gA t.d.gn.length p.gC) ∧ w'.cell? ⟨N + 1, 8, none⟩ = some (.slice q.gA u.d.gn.length q.gC) ∧ w'.cell? ⟨N, 9, none⟩ = some (.int .i64 t.d.xh) ∧ w'.cell? ⟨N + 1, 9, none⟩ = some (.int .i64 u.d.xh) ∧ w'.cell? ⟨N, 10, none⟩ = some (.slice p.xA t.d.xn.length p.xC) ∧ w'.cell? ⟨N + 1, 10, none⟩ = some (.slice q.xA u.d.xn.length q.xC) ∧ w'.cell? ⟨N, 11, none⟩ = some (.int .i64 t.d.card) ∧ w'.cell? ⟨N + 1, 11, none⟩ = some (.int .i64 u.d.card) ∧ w'.cell? ⟨N, 12, none⟩ = some (.slice p.iA t.d.inc.length p.iC) ∧ w'.cell? ⟨N + 1, 12, none⟩ = some (.slice q.iA u.d.inc.length q.iC) ∧ w'.cell? ⟨N, 13, none⟩ = some (.bool t.d.flag) ∧ w'.cell? ⟨N + 1, 13, none⟩ = some (.bool u.d.flag) ∧ w'.cell? ⟨N, 14, none⟩ = some (.string t.d.name) ∧ w'.cell? ⟨N + 1, 14, none⟩ = some (.string u.d.name) ∧ w'.cell? ⟨N, 15, none⟩ = some (.string t.d.value) ∧ w'.cell? ⟨N + 1, 15, none⟩ = some (.string u.d.value) ∧ w'.cell? ⟨N, 16, none⟩ = some (.slice p.kA t.ks.length p.kC) ∧ w'.cell? ⟨N + 1, 16, none⟩ = some (.slice q.kA u.ks.length q.kC)) W) := Lib.hid (fun W g => ⟨g.cell c0, g.cell e0, g.cell c1, g.cell e1, g.cell c2, g.cell e2, g.cell c3, g.cell e3, g.cell c4, g.cell e4, g.cell c5, g.cell e5, g.cell c6, g.cell e6, g.cell c7, g.cell e7, g.cell c8, g.cell e8, g.cell c9, g.cell e9, g.cell c10, g.cell e10, g.cell c11, g.cell e11, g.cell c12, g.cell e12, g.cell c13, g.cell e13, g.cell c14, g.cell e14, g.cell c15, g.cell e15, g.cell c16, g.cell e16⟩)
  have HN := Lib.hid hN; have HW1 := Lib.hid hW1; have HW2 := Lib.hid hW2; have HG := Lib.hid hg
  clear hN hW1 hW2 hg b1 b2 g1 g2 s1 s2 hC hC' hS c0 e0 c1 e1 c2 e2 c3 e3 c4 e4 c5 e5 c6 e6 c7 e7 c8 e8 c9 e9 c10 e10 c11 e11 c12 e12 c13 e13 c14 e14 c15 e15 c16 e16
  go_enter Tryz.func14, Tryz.ntmps14
  go_upto_region 1 with fail
  rw [HW1.out, HW2.out, HN.out]
  have GD : Gr W2 W2.drew := (Gr.refl W2).drew
  go_wp2_with fail
  go_region_held3 (fun w' => w'.cell? ⟨N, 0, none⟩ = some (.int .i64 t.d.k) ∧ w'.cell? ⟨N + 1, 0, none⟩ = some (.int .i64 u.d.k) ∧ w'.cell? ⟨N, 1, none⟩ = some (.float .f64 t.d.num) ∧ w'.cell? ⟨N + 1, 1, none⟩ = some (.float .f64 u.d.num) ∧ w'.cell? ⟨N, 2, none⟩ = some (.int .i64 t.d.fn) ∧ w'.cell? ⟨N + 1, 2, none⟩ = some (.int .i64 u.d.fn) ∧ w'.cell? ⟨N, 3, none⟩ = some (.slice p.mA t.d.m.length p.mC) ∧ w'.cell? ⟨N + 1, 3, none⟩ = some (.slice q.mA u.d.m.length q.mC) ∧ w'.cell? ⟨N, 4, none⟩ = some (.int .i64 t.d.rg) ∧ w'.cell? ⟨N + 1, 4, none⟩ = some (.int .i64 u.d.rg) ∧ w'.cell? ⟨N, 5, none⟩ = some (.int .i64 t.d.st) ∧ w'.cell? ⟨N + 1, 5, none⟩ = some (.int .i64 u.d.st) ∧ w'.cell? ⟨N, 6, none⟩ = some (.int .i64 t.d.of) ∧ w'.cell? ⟨N + 1, 6, none⟩ = some (.int .i64 u.d.of) ∧ w'.cell? ⟨N, 7, none⟩ = some (.int .i64 t.d.gh) ∧ w'.cell? ⟨N + 1, 7, none⟩ = some (.int .i64 u.d.gh) ∧ w'.cell? ⟨N, 8, none⟩ = some (.slice p.gA t.d.gn.length p.gC) ∧ w'.cell? ⟨N + 1, 8, none⟩ = some (.slice q.gA u.d.gn.length q.gC) ∧ w'.cell? ⟨N, 9, none⟩ = some (.int .i64 t.d.xh) ∧ w'.cell? ⟨N + 1, 9, none⟩ = some (.int .i64 u.d.xh) ∧ w'.cell? ⟨N, 10, none⟩ = some (.slice p.xA t.d.xn.length p.xC) ∧ w'.cell? ⟨N + 1, 10, none⟩ = some (.slice q.xA u.d.xn.length q.xC) ∧ w'.cell? ⟨N, 11, none⟩ = some (.int .i64 t.d.card) ∧ w'.cell? ⟨N + 1, 11, none⟩ = some (.int .i64 u.d.card) ∧ w'.cell? ⟨N, 12, none⟩ = some (.slice p.iA t.d.inc.length p.iC) ∧ w'.cell? ⟨N + 1, 12, none⟩ = some (.slice q.iA u.d.inc.length q.iC) ∧ w'.cell? ⟨N, 13, none⟩ = some (.bool t.d.flag) ∧ w'.cell? ⟨N + 1, 13, none⟩ = some (.bool u.d.flag) ∧ w'.cell? ⟨N, 14, none⟩ = some (.string t.d.name) ∧ w'.cell? ⟨N + 1, 14, none⟩ = some (.string u.d.name) ∧ w'.cell? ⟨N, 15, none⟩ = some (.string t.d.value) ∧ w'.cell? ⟨N + 1, 15, none⟩ = some (.string u.d.value) ∧ w'.cell? ⟨N, 16, none⟩ = some (.slice p.kA t.ks.length p.kC) ∧ w'.cell? ⟨N + 1, 16, none⟩ = some (.slice q.kA u.ks.length q.kC))
    (first
      | with_reducible exact HBX.out _ G3
      | with_reducible exact HBX.out _ G2
      | with_reducible exact HBX.out _ G1
      | with_reducible exact HBX.out _ GD
      | go_keep)
    (first
      | (go_at_call 26; refine (C3.out _ p1 p2 G2 (TrP.gr h2 t p1 t1.real) t2.real).mono ?_; rintro e k3 ⟨rfl, h3⟩; have G3 := G2.trans h3)
      | (go_at_call 27; refine (C2.out _ G1).mono ?_; rintro e k2 ⟨p2, rfl, h2, t2⟩; have G2 := G1.trans h2)
      | (go_at_call 27; refine (C1.out _ GD).mono ?_; rintro e k1 ⟨p1, rfl, h1, t1⟩; have G1 := GD.trans h1))
  have HG3 := Lib.hid (HG.out.trans G3)
  go_wp2
  go_ret
  exact ⟨rfl, HG3.out⟩
end Go.Proofs.YtikaamonmaohjaaGreatDoor.Ir
