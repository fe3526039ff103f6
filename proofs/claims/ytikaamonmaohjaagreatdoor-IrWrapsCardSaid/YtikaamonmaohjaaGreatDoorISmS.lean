/- sameClean of one plan that has no more than its kinds have. -/
import Derived.Test.YtikaamonmaohjaaGreatDoorISam
namespace Go.Proofs.YtikaamonmaohjaaGreatDoor.Ir
open Go.RowKit Go.Shelf Go.Sort
set_option maxRecDepth 100000
set_option maxHeartbeats 20000000
attribute [local irreducible] wpQuiet

theorem same_step (d : Nf) (ks : List Tr) (p q : Np) (w : World) (h : TrP w (.mk d ks) p) (h' : TrP w (.mk d ks) q) (hn : d.num = 0) (ho : d.m.length ≤ 1000 ∧ d.gn.length ≤ 1000 ∧ d.xn.length ≤ 1000 ∧ d.inc.length ≤ 1000 ∧ ks.length ≤ 1000) (hks : ∀ t ∈ ks, SamC 26 w t) :
    Calls Tryz.prog 26 #[.agg (nV d p ks.length).toArray, .agg (nV d q ks.length).toArray] w fun e w' => e = .returned (.bool true) ∧ Gr w w' := by
  have eg : ∀ args w, (callFunc 26 args).run Tryz.prog w = .ok (.enter 26 args) w := enters_of Tryz.func26 (by kernel_rfl) rfl
  obtain ⟨W1, hW1, g1, b1, s1⟩ := ibox w (nV d p ks.length).toArray 31
  obtain ⟨W2, hW2, g2, b2, s2⟩ := ibox W1 (nV d q ks.length).toArray 31
  have hg := g1.trans g2
  have hp := TrP.gr hg (.mk d ks) p h
  have hq := TrP.gr hg (.mk d ks) q h'
  have hpw := hp.w; have hqw := hq.w
  have hpk : 0 < ks.length → ∃ b o, p.kA = some ⟨b, o, none⟩ ∧ KidsAt W2 b o ks := by unfold TrP at hp; exact hp.2
  have hqk : 0 < ks.length → ∃ b o, q.kA = some ⟨b, o, none⟩ ∧ KidsAt W2 b o ks := by unfold TrP at hq; exact hq.2
  obtain ⟨o1, o2, o3, o4, o5⟩ := ho
  simp only [Tr.d, Tr.ks] at hpw hqw
  obtain ⟨c0, c1, c2, c3, c4, c5, c6, c7, c8, c9, c10, c11, c12, c13, c14, c15, c16⟩ := (box_cells (hgr g2 b1)).all
  obtain ⟨e0, e1, e2, e3, e4, e5, e6, e7, e8, e9, e10, e11, e12, e13, e14, e15, e16⟩ := (box_cells b2).all
  simp only [Nat.zero_add] at c1 e1 c2 e2 c3 e3 c4 e4 c5 e5 c6 e6 c7 e7 c8 e8 c9 e9 c10 e10 c11 e11 c12 e12 c13 e13 c14 e14 c15 e15 c16 e16
  rw [hn] at c1 e1
  obtain ⟨N, hN⟩ : ∃ N, w.heap.size = N := ⟨_, rfl⟩
  rw [s1, hN] at e0 e1 e2 e3 e4 e5 e6 e7 e8 e9 e10 e11 e12 e13 e14 e15 e16
  rw [hN] at c0 c1 c2 c3 c4 c5 c6 c7 c8 c9 c10 c11 c12 c13 c14 c15 c16
  have C1 := Lib.hid (fun W => same_zero W)
  have C2 := Lib.hid (fun W (g : Gr W2 W) => meq_same p.mA q.mA p.mC q.mC d.m W (hpw.m.gr g) (hqw.m.gr g) (by omega))
  have C3 := Lib.hid (fun W (g : Gr W2 W) => sgrp d.gh p.gA q.gA p.gC q.gC d.gn W (hpw.g.gr g) (hqw.g.gr g) (by omega))
  have C4 := Lib.hid (fun W (g : Gr W2 W) => smch d.xh p.xA q.xA p.xC q.xC d.xn d.card p.iA q.iA p.iC q.iC d.inc W (hpw.x.gr g) (hqw.x.gr g) (hpw.i.gr g) (hqw.i.gr g) (by omega) (by omega))
  have C5 := Lib.hid (fun W (g : Gr W2 W) => eqf_same 26 eg p.kA q.kA p.kC q.kC ks W (fun h0 => by obtain ⟨b, o, e, hk⟩ := hpk h0; exact ⟨b, o, e, KidsAt.gr g b o ks hk⟩) (fun h0 => by obtain ⟨b, o, e, hk⟩ := hqk h0; exact ⟨b, o, e, KidsAt.gr g b o ks hk⟩) o5 (fun t ht p' q' W' g' => hks t ht p' q' W' ((hg.trans g).trans g')))
  have F1 : Hid (∀ W, Gr W2 W → W.cell? ⟨N, 2, none⟩ = some (.int .i64 d.fn) ∧ W.cell? ⟨N + 1, 2, none⟩ = some (.int .i64 d.fn) ∧ W.cell? ⟨N, 3, none⟩ = some (.slice p.mA d.m.length p.mC) ∧ W.cell? ⟨N + 1, 3, none⟩ = some (.slice q.mA d.m.length q.mC)) := Lib.hid (fun W g => ⟨g.cell c2, g.cell e2, g.cell c3, g.cell e3⟩)
  have F2 : Hid (∀ W, Gr W2 W → W.cell? ⟨N, 4, none⟩ = some (.int .i64 d.rg) ∧ W.cell? ⟨N + 1, 4, none⟩ = some (.int .i64 d.rg) ∧ W.cell? ⟨N, 5, none⟩ = some (.int .i64 d.st) ∧ W.cell? ⟨N + 1, 5, none⟩ = some (.int .i64 d.st) ∧ W.cell? ⟨N, 6, none⟩ = some (.int .i64 d.of) ∧ W.cell? ⟨N + 1, 6, none⟩ = some (.int .i64 d.of) ∧ W.cell? ⟨N, 7, none⟩ = some (.int .i64 d.gh) ∧ W.cell? ⟨N + 1, 7, none⟩ = some (.int .i64 d.gh) ∧ W.cell? ⟨N, 8, none⟩ = some (.slice p.gA d.gn.length p.gC) ∧ W.cell? ⟨N + 1, 8, none⟩ = some (.slice q.gA d.gn.length q.gC)) := Lib.hid (fun W g => ⟨g.cell c4, g.cell e4, g.cell c5, g.cell e5, g.cell c6, g.cell e6, g.cell c7, g.cell e7, g.cell c8, g.cell e8⟩)
  have F3 : Hid (∀ W, Gr W2 W → W.cell? ⟨N, 9, none⟩ = some (.int .i64 d.xh) ∧ W.cell? ⟨N + 1, 9, none⟩ = some (.int .i64 d.xh) ∧ W.cell? ⟨N, 10, none⟩ = some (.slice p.xA d.xn.length p.xC) ∧ W.cell? ⟨N + 1, 10, none⟩ = some (.slice q.xA d.xn.length q.xC) ∧ W.cell? ⟨N, 11, none⟩ = some (.int .i64 d.card) ∧ W.cell? ⟨N + 1, 11, none⟩ = some (.int .i64 d.card) ∧ W.cell? ⟨N, 12, none⟩ = some (.slice p.iA d.inc.length p.iC) ∧ W.cell? ⟨N + 1, 12, none⟩ = some (.slice q.iA d.inc.length q.iC)) := Lib.hid (fun W g => ⟨g.cell c9, g.cell e9, g.cell c10, g.cell e10, g.cell c11, g.cell e11, g.cell c12, g.cell e12⟩)
  have F4 : Hid (∀ W, Gr W2 W → W.cell? ⟨N, 13, none⟩ = some (.bool d.flag) ∧ W.cell? ⟨N + 1, 13, none⟩ = some (.bool d.flag) ∧ W.cell? ⟨N, 14, none⟩ = some (.string d.name) ∧ W.cell? ⟨N + 1, 14, none⟩ = some (.string d.name) ∧ W.cell? ⟨N, 15, none⟩ = some (.string d.value) ∧ W.cell? ⟨N + 1, 15, none⟩ = some (.string d.value) ∧ W.cell? ⟨N, 16, none⟩ = some (.slice p.kA ks.length p.kC) ∧ W.cell? ⟨N + 1, 16, none⟩ = some (.slice q.kA ks.length q.kC)) := Lib.hid (fun W g => ⟨g.cell c13, g.cell e13, g.cell c14, g.cell e14, g.cell c15, g.cell e15, g.cell c16, g.cell e16⟩)
  have HN := Lib.hid hN; have HW1 := Lib.hid hW1; have HW2 := Lib.hid hW2; have HG := Lib.hid hg
  clear hN hW1 hW2 hg b1 b2 g1 g2 s1 s2 h h' hp hq hpw hqw hpk hqk hks hn o1 o2 o3 o4 o5 c2 e2 c3 e3 c4 e4 c5 e5 c6 e6 c7 e7 c8 e8 c9 e9 c10 e10 c11 e11 c12 e12 c13 e13 c14 e14 c15 e15 c16 e16
  go_enter Tryz.func26, Tryz.ntmps26
  go_upto_region 1 with fail
  rw [HW1.out, HW2.out, HN.out]
  go_wp2_with (first
    | (go_at_call 66; refine (C1.out _).mono ?_; rintro e w3 ⟨rfl, g3⟩; obtain ⟨x2, y2, x3, y3⟩ := F1.out w3 g3)
    | (go_at_call 67; refine (C2.out _ g3).mono ?_; rintro e w4 ⟨rfl, g4⟩; have G4 := g3.trans g4; obtain ⟨x4, y4, x5, y5, x6, y6, x7, y7, x8, y8⟩ := F2.out w4 G4)
    | (go_at_call 68; refine (C3.out _ G4).mono ?_; rintro e w5 ⟨rfl, g5⟩; have G5 := G4.trans g5; obtain ⟨x9, y9, x10, y10, x11, y11, x12, y12⟩ := F3.out w5 G5)
    | (go_at_call 69; refine (C4.out _ G5).mono ?_; rintro e w6 ⟨rfl, g6⟩; have G6 := G5.trans g6; obtain ⟨x13, y13, x14, y14, x15, y15, x16, y16⟩ := F4.out w6 G6)
    | (go_at_call 70; refine (C5.out _ G6).mono ?_; rintro e w7 ⟨rfl, g7⟩; have G7 := G6.trans g7))
  go_ret
  exact ⟨rfl, HG.out.trans G7⟩
end Go.Proofs.YtikaamonmaohjaaGreatDoor.Ir
