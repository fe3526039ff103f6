/- New: the series in order, each settled. -/
import Derived.Test.YtoooaipbkkiefaaGreatDoorIdxW
namespace Go.Proofs.YtoooaipbkkiefaaGreatDoor
open Go.RowKit
set_option maxRecDepth 100000
set_option maxHeartbeats 2000000

/-- what a store holds -/
structure StL (gs : List Se) (l : List Rwm) : Prop where
  ord : (gs.map (·.1)).Pairwise ltLs
  mem : ∀ x, x ∈ gs.map (·.1) ↔ ∃ r ∈ l, setV r.l = x
  s : ∀ s ∈ gs, ∃ r, AscT r ∧ EqT (smp s.1 l) r ∧ s.2 = lasts r
theorem ord_unique : ∀ {a b : List (List Lb)}, a.Pairwise ltLs → b.Pairwise ltLs → (∀ x, x ∈ a ↔ x ∈ b) → a = b
  | [], b, _, _, h => by
    cases b with
    | nil => rfl
    | cons y r => exact absurd ((h y).2 (by simp)) (by simp)
  | x :: r, b, ha, hb, h => by
    cases b with
    | nil => exact absurd ((h x).1 (by simp)) (by simp)
    | cons y s =>
      obtain ⟨ha1, ha2⟩ := List.pairwise_cons.1 ha
      obtain ⟨hb1, hb2⟩ := List.pairwise_cons.1 hb
      have e : x = y := by
        rcases List.mem_cons.1 ((h x).1 (by simp)) with e | e
        · exact e
        · rcases List.mem_cons.1 ((h y).2 (by simp)) with e2 | e2
          · exact e2.symm
          · exact absurd (cmpLs_trans (ha1 y e2) (hb1 x e)) (ltLs_irrefl x)
      subst e
      rw [ord_unique ha2 hb2 fun z => ?_]
      constructor
      · intro hz
        rcases List.mem_cons.1 ((h z).1 (by simp [hz])) with e | e
        · subst e; exact absurd (ha1 z hz) (ltLs_irrefl z)
        · exact e
      · intro hz
        rcases List.mem_cons.1 ((h z).2 (by simp [hz])) with e | e
        · subst e; exact absurd (hb1 z hz) (ltLs_irrefl z)
        · exact e
theorem EqT.symm {a b : List Sm} (h : EqT a b) : EqT b a := fun t => (h t).symm
theorem StL.unique {a b : List Se} {l : List Rwm} (h : StL a l) (g : StL b l) : a = b := by
  have e := ord_unique h.ord g.ord fun x => by rw [h.mem, g.mem]
  apply List.ext_getElem?
  intro i
  have ei : (a.map (·.1))[i]? = (b.map (·.1))[i]? := by rw [e]
  rw [List.getElem?_map, List.getElem?_map] at ei
  cases ha : a[i]? with
  | none => rw [ha] at ei; cases hb : b[i]? with
    | none => rfl
    | some y => rw [hb] at ei; simp at ei
  | some x =>
    rw [ha] at ei
    cases hb : b[i]? with
    | none => rw [hb] at ei; simp at ei
    | some y =>
      rw [hb] at ei
      have e1 : x.1 = y.1 := by simpa using ei
      obtain ⟨r, h1, h2, h3⟩ := h.s x (List.mem_of_getElem? ha)
      obtain ⟨q, g1, g2, g3⟩ := g.s y (List.mem_of_getElem? hb)
      rw [← e1] at g2
      have : r = q := asc_unique h1 g1 (h2.symm.trans g2)
      exact congrArg some (Prod.ext e1 (by rw [h3, g3, this]))
/-- a row of samples that may be written -/
def SmV (W : World) (B : Nat) (sl : Sl) (l : List Sm) : Prop := ∃ x, sl.a = some ⟨x, 0, none⟩ ∧ B ≤ x ∧ sl.n = l.length ∧ 0 < l.length ∧ l.length ≤ sl.c ∧ RowP W x 0 l
theorem SmV.blk {W : World} {B : Nat} {sl : Sl} {l : List Sm} (h : SmV W B sl l) : ∃ x, sl.v.ownBlock = some x ∧ sl.a = some ⟨x, 0, none⟩ := by
  obtain ⟨x, e, -⟩ := h
  exact ⟨x, by unfold Sl.v; rw [e]; rfl, e⟩
theorem SmV.far {W W' : World} {B : Nat} {sl : Sl} {l : List Sm} {row : Option Nat} (h : SmV W B sl l) (g : W.grownBy W' row) (hne : sl.v.ownBlock ≠ row) : SmV W' B sl l := by
  obtain ⟨x, e, hB, h1, h2, h3, h4⟩ := h
  exact ⟨x, e, hB, h1, h2, h3, h4.far g (by rw [← show sl.v.ownBlock = some x by unfold Sl.v; rw [e]; rfl]; exact hne)⟩
theorem SmV.of_own {W : World} {B : Nat} {sl : Sl} {l : List Sm} (h : OwnP W B sl.v l) (h0 : 0 < l.length) : SmV W B sl l := by
  rcases h.2 with ⟨-, e⟩ | ⟨g, cap, cur, e, hb, hg, hnc, -⟩
  · omega
  · obtain ⟨a, n, c⟩ := sl
    simp only [Sl.v] at e h
    injection e with e1 e2 e3
    subst e1; subst e2; subst e3
    have hw : W.ownsRow B 60 2 (.slice (some ⟨g, 0, none⟩) l.length c) l.length (l.flatMap encP) := h
    refine ⟨g, rfl, hb, rfl, h0, hnc, fun i x hx => ?_⟩
    have hi := (List.getElem?_eq_some_iff.1 hx).1
    obtain ⟨f1, f2⟩ := flat2_get encP (fun _ => rfl) l i x hx
    have c1 := hw.cellAt (i * 2) (by omega)
    have c2 := hw.cellAt (i * 2 + 1) (by omega)
    rw [f1] at c1
    rw [f2] at c2
    rw [Nat.zero_add]
    exact ⟨⟨c1, hw.frozenAt _⟩, c2, hw.frozenAt _⟩
theorem RowC.far {W W' : World} {b : Nat} {cs : List Sc} (h : RowC W b cs) {row : Option Nat} (g : W.grownBy W' row) (hne : some b ≠ row) : RowC W' b cs := by
  intro i x hx
  obtain ⟨⟨c1, f1⟩, c2, f2⟩ := h i x hx
  have hb : W'.heap[b]? = W.heap[b]? := g.block b (World.block_lt_of_cell? W _ c1) hne
  exact ⟨⟨(World.cell?_of_block (a := ⟨b, _, none⟩) hb).trans c1, (World.frozen?_of_block (a := ⟨b, _, none⟩) hb).trans f1⟩, (World.cell?_of_block (a := ⟨b, _, none⟩) hb).trans c2, (World.frozen?_of_block (a := ⟨b, _, none⟩) hb).trans f2⟩
theorem RowC.store {W : World} {b k : Nat} {cs : List Sc} {c : Sc} (h : RowC W b cs) (hc : cs[k]? = some c) (sl : Sl) : RowC (W.setCell ⟨b, k * 2 + 1, none⟩ sl.v) b (cs.set k (c.1, sl)) := by
  intro i y hy
  have hk := (List.getElem?_eq_some_iff.1 hc).1
  have hi : i < cs.length := by have := (List.getElem?_eq_some_iff.1 hy).1; rwa [List.length_set] at this
  obtain ⟨⟨c1, f1⟩, c2, f2⟩ := h i _ (List.getElem?_eq_getElem hi)
  obtain ⟨⟨d1, -⟩, d2, -⟩ := h k _ hc
  refine ⟨⟨?_, by rw [World.frozen?_setCell]; exact f1⟩, ?_, by rw [World.frozen?_setCell]; exact f2⟩
  · rw [World.cell?_setCell_other _ _ _ _ (by simp <;> omega), c1]
    rw [List.getElem?_set] at hy
    by_cases e : k = i
    · subst e
      rw [if_pos rfl, if_pos hk] at hy
      cases hy
      have : cs[k] = c := by rw [List.getElem?_eq_getElem hk] at hc; exact Option.some.inj hc
      rw [this]
    · rw [if_neg e, List.getElem?_eq_getElem hi] at hy
      cases hy; rfl
  · rw [List.getElem?_set] at hy
    by_cases e : k = i
    · subst e
      rw [if_pos rfl, if_pos hk] at hy
      cases hy
      exact World.cell?_setCell_same _ _ _ d2
    · rw [if_neg e, List.getElem?_eq_getElem hi] at hy
      cases hy
      rw [World.cell?_setCell_other _ _ _ _ (by simp <;> omega)]
      exact c2
/-- the sorted series, on the way to be settled -/
structure NSt (w W : World) (b : Nat) (cs : List Sc) (gs : List Se) : Prop where
  g : Gr w W
  hb : w.heap.size ≤ b
  row : RowC W b cs
  len : cs.length = gs.length
  lab : ∀ (k : Nat) (c : Sc) (s : Se), cs[k]? = some c → gs[k]? = some s → LabV W c.1 s.1 ∧ (0 < s.1.length → ∀ x, c.1.v.ownBlock = some x → x ≠ b ∧ ∀ (j : Nat) (d : Sc), cs[j]? = some d → d.2.v.ownBlock ≠ some x)
  smp : ∀ (k : Nat) (c : Sc) (s : Se), cs[k]? = some c → gs[k]? = some s → SmV W w.heap.size c.2 s.2 ∧ c.2.v.ownBlock ≠ some b
  inj : ∀ (i j : Nat) (c d : Sc), cs[i]? = some c → cs[j]? = some d → i ≠ j → c.2.v.ownBlock ≠ d.2.v.ownBlock
theorem NSt.put {w W W' : World} {b k x : Nat} {cs : List Sc} {gs : List Se} {c : Sc} {s : Se} {l : List Sm} (h : NSt w W b cs gs) (hc : cs[k]? = some c) (hs : gs[k]? = some s) (hx : c.2.a = some ⟨x, 0, none⟩) (hr : Rw W W' x 0 l) (h0 : 0 < l.length) :
    (W'.cell? ⟨b, k * 2 + 1, none⟩ = some c.2.v ∧ W'.frozen? ⟨b, k * 2 + 1, none⟩ = false) ∧ NSt w (W'.setCell ⟨b, k * 2 + 1, none⟩ (.slice (some ⟨x, 0, none⟩) l.length l.length)) b (cs.set k (c.1, ⟨some ⟨x, 0, none⟩, l.length, l.length⟩)) (gs.set k (s.1, l)) := by
  have hk := (List.getElem?_eq_some_iff.1 hc).1
  have hkg := (List.getElem?_eq_some_iff.1 hs).1
  obtain ⟨hsm, hnb⟩ := h.smp k c s hc hs
  have hxb : c.2.v.ownBlock = some x := by unfold Sl.v; rw [hx]; rfl
  have hxB : w.heap.size ≤ x := by
    obtain ⟨x', e, hB, -⟩ := hsm
    rw [hx] at e
    injection e with e; injection e with e
    omega
  have hne : b ≠ x := fun e => hnb (by rw [hxb, e])
  have hrow := h.row.far hr.g (by simpa using hne)
  have hG : W'.grownBy (W'.setCell ⟨b, k * 2 + 1, none⟩ (.slice (some ⟨x, 0, none⟩) l.length l.length)) (some b) := Only.setCell (Only.refl W' b) rfl _
  have hown : (Sl.mk (some ⟨x, 0, none⟩) l.length l.length).v.ownBlock = some x := rfl
  have spl : ∀ {j : Nat} {d : Sc}, (cs.set k (c.1, ⟨some ⟨x, 0, none⟩, l.length, l.length⟩))[j]? = some d → j ≠ k ∧ cs[j]? = some d ∨ j = k ∧ d = (c.1, ⟨some ⟨x, 0, none⟩, l.length, l.length⟩) := fun {j d} hd => by
    by_cases e : j = k
    · subst e; rw [List.getElem?_set_self hk] at hd; exact .inr ⟨rfl, (Option.some.inj hd).symm⟩
    · rw [List.getElem?_set_ne (Ne.symm e)] at hd; exact .inl ⟨e, hd⟩
  have splg : ∀ {j : Nat} {d : Se}, (gs.set k (s.1, l))[j]? = some d → j ≠ k ∧ gs[j]? = some d ∨ j = k ∧ d = (s.1, l) := fun {j d} hd => by
    by_cases e : j = k
    · subst e; rw [List.getElem?_set_self hkg] at hd; exact .inr ⟨rfl, (Option.some.inj hd).symm⟩
    · rw [List.getElem?_set_ne (Ne.symm e)] at hd; exact .inl ⟨e, hd⟩
  have blk : ∀ {j : Nat} {d : Sc}, (cs.set k (c.1, ⟨some ⟨x, 0, none⟩, l.length, l.length⟩))[j]? = some d → ∃ d', cs[j]? = some d' ∧ d'.2.v.ownBlock = d.2.v.ownBlock := fun {j d} hd => by
    rcases spl hd with ⟨-, hd⟩ | ⟨e, rfl⟩
    · exact ⟨d, hd, rfl⟩
    · exact ⟨c, by rw [e]; exact hc, by rw [hxb]; rfl⟩
  have labOne : ∀ (j : Nat) (d : Sc) (u : Se), cs[j]? = some d → gs[j]? = some u → LabV (W'.setCell ⟨b, k * 2 + 1, none⟩ (.slice (some ⟨x, 0, none⟩) l.length l.length)) d.1 u.1 := fun j d u hd hu => by
    obtain ⟨a1, a2⟩ := h.lab j d u hd hu
    exact (a1.only hr.g (fun h0 y hy e => (a2 h0 y hy).2 k c hc (by rw [hxb]; exact e))).only hG (fun h0 y hy e => (a2 h0 y hy).1 (Option.some.inj e).symm)
  refine ⟨⟨(hrow k c hc).2.1, (hrow k c hc).2.2⟩, ⟨(h.g.only hr.g hxB).only hG h.hb, h.hb, hrow.store hc ⟨some ⟨x, 0, none⟩, l.length, l.length⟩, by simp [h.len], fun j d u hd hu => ?_, fun j d u hd hu => ?_, fun i j d e hd he hij => ?_⟩⟩
  · have key : ∃ d' u', cs[j]? = some d' ∧ gs[j]? = some u' ∧ d'.1 = d.1 ∧ u'.1 = u.1 := by
      rcases spl hd with ⟨e1, hd⟩ | ⟨e1, rfl⟩
      · rcases splg hu with ⟨-, hu⟩ | ⟨e2, -⟩
        · exact ⟨d, u, hd, hu, rfl, rfl⟩
        · exact absurd e2 e1
      · rcases splg hu with ⟨e2, -⟩ | ⟨-, rfl⟩
        · exact absurd e1 e2
        · exact ⟨c, s, by rw [e1]; exact hc, by rw [e1]; exact hs, rfl, rfl⟩
    obtain ⟨d', u', hd', hu', e1, e2⟩ := key
    rw [← e1, ← e2]
    refine ⟨labOne j d' u' hd' hu', fun h0 y hy => ⟨((h.lab j d' u' hd' hu').2 h0 y hy).1, fun i q hq => ?_⟩⟩
    obtain ⟨q', hq', eq'⟩ := blk hq
    rw [← eq']
    exact ((h.lab j d' u' hd' hu').2 h0 y hy).2 i q' hq'
  · rcases spl hd with ⟨e1, hd⟩ | ⟨e1, rfl⟩
    · rcases splg hu with ⟨-, hu⟩ | ⟨e2, -⟩
      · obtain ⟨a1, a2⟩ := h.smp j d u hd hu
        have n1 : d.2.v.ownBlock ≠ some x := by rw [← hxb]; exact h.inj j k d c hd hc e1
        exact ⟨(a1.far hr.g n1).far hG a2, a2⟩
      · exact absurd e2 e1
    · rcases splg hu with ⟨e2, -⟩ | ⟨-, rfl⟩
      · exact absurd e1 e2
      · exact ⟨⟨x, rfl, hxB, rfl, h0, Nat.le_refl _, hr.r.far hG (by simpa using Ne.symm hne)⟩, by rw [hown]; simpa using Ne.symm hne⟩
  · obtain ⟨d', hd', e1⟩ := blk hd
    obtain ⟨e', he', e2⟩ := blk he
    rw [← e1, ← e2]
    exact h.inj i j d' e' hd' he' hij
end Go.Proofs.YtoooaipbkkiefaaGreatDoor
