/- StoreOwn: its walk. -/
import Derived.Test.YtoglkgagdilfjaaGreatDoorMade
import Derived.Lib.QuietBelow
namespace Go.Proofs.YtoglkgagdilfjaaGreatDoor
open Go.RowKit Go.Sort
set_option maxRecDepth 100000
set_option maxHeartbeats 4000000

attribute [local irreducible] wpQuiet
/-- a row of labels, as long as it was -/
def RowN (W : World) (B : Nat) (A : Option Addr) (n : Nat) : Prop := 0 < n → ∃ g o, A = some ⟨g, o, none⟩ ∧ B ≤ g ∧ ∃ x : List Lb, x.length = n ∧ Row W g o x
/-- a row of samples, as long as it was -/
def SmpN (W : World) (B : Nat) (A : Option Addr) (n : Nat) : Prop := 0 < n → ∃ g, A = some ⟨g, 0, none⟩ ∧ B ≤ g ∧ ∃ x : List Sm, x.length = n ∧ RowP W g 0 x
theorem RowN.gr {W W' : World} {B n : Nat} {A : Option Addr} (h : RowN W B A n) (g : Gr W W') : RowN W' B A n := fun h0 => by
  obtain ⟨b, o, e, hb, x, hx, hr⟩ := h h0
  refine ⟨b, o, e, hb, x, hx, fun i y hy => ?_⟩
  obtain ⟨⟨c1, f1⟩, c2, f2⟩ := hr i y hy
  have hk := g.b.block b (World.block_lt_of_cell? W _ c1)
  exact ⟨⟨g.cell c1, (World.frozen?_of_block (a := ⟨b, _, none⟩) hk).trans f1⟩, g.cell c2, (World.frozen?_of_block (a := ⟨b, _, none⟩) hk).trans f2⟩
theorem SmpN.gr {W W' : World} {B n : Nat} {A : Option Addr} (h : SmpN W B A n) (g : Gr W W') : SmpN W' B A n := fun h0 => by
  obtain ⟨b, e, hb, x, hx, hr⟩ := h h0
  exact ⟨b, e, hb, x, hx, hr.gr g⟩
/-- a cell of another kind is another cell -/
theorem cell_set_ne {W : World} {p q : Addr} {u v u' : Value} (h : W.cell? p = some u) (hq : W.cell? q = some v) (hne : u ≠ v) (hs : p.spot = none) (hs2 : q.spot = none) : (W.setCell q u').cell? p = some u := by
  have hpq : p ≠ q := by rintro rfl; rw [h] at hq; exact hne (Option.some.inj hq)
  rw [World.cell?_setCell_other _ _ _ _ (by
    obtain ⟨pb, po, ps⟩ := p
    obtain ⟨qb, qo, qs⟩ := q
    simp only at hs hs2
    subst hs; subst hs2
    simp only [ne_eq, Addr.mk.injEq, and_true] at hpq ⊢
    omega)]
  exact h
theorem RowN.setf {W : World} {B n g o : Nat} {A : Option Addr} {u v : Value} (h : RowN W B A n) (hc : W.cell? ⟨g, o, none⟩ = some u) (hu : ∀ s, u ≠ .string s) : RowN (W.setCell ⟨g, o, none⟩ v) B A n := fun h0 => by
  obtain ⟨b, q, e, hb, x, hx, hr⟩ := h h0
  refine ⟨b, q, e, hb, x, hx, fun i y hy => ?_⟩
  obtain ⟨⟨c1, f1⟩, c2, f2⟩ := hr i y hy
  exact ⟨⟨cell_set_ne c1 hc (fun e => hu _ e.symm) rfl rfl, by rw [World.frozen?_setCell]; exact f1⟩, cell_set_ne c2 hc (fun e => hu _ e.symm) rfl rfl, by rw [World.frozen?_setCell]; exact f2⟩
theorem RowP.set1 {W : World} {b : Nat} {l : List Sm} (h : RowP W b 0 l) {k : Nat} (hk : k < l.length) (v : Nat) : RowP (W.setCell ⟨b, k * 2 + 1, none⟩ (.float .f64 v)) b 0 (l.set k ((l[k]).1, v)) := by
  intro i y hy
  obtain ⟨c1, c2, f1, f2⟩ := h.cell hk
  have hi : i < l.length := by have := (List.getElem?_eq_some_iff.1 hy).1; simpa using this
  obtain ⟨d1, d2, g1, g2⟩ := h.cell hi
  rw [Nat.zero_add] at c1 c2 f1 f2 d1 d2 g1 g2 ⊢
  refine ⟨⟨?_, by rw [World.frozen?_setCell]; exact g1⟩, ?_, by rw [World.frozen?_setCell]; exact g2⟩
  all_goals by_cases e : k = i
  · subst e
    obtain rfl : ((l[k]).1, v) = y := by simpa [hk] using hy
    exact cell_set_ne d1 c2 (fun e => by cases e) rfl rfl
  · have e2 : l[i] = y := by simpa [e, hi] using hy
    rw [← e2]
    exact cell_set_ne d1 c2 (fun e => by cases e) rfl rfl
  · subst e
    obtain rfl : ((l[k]).1, v) = y := by simpa [hk] using hy
    exact World.cell?_setCell_same _ _ _ c2
  · have e2 : l[i] = y := by simpa [e, hi] using hy
    rw [← e2, World.cell?_setCell_other _ _ _ _ (by simp <;> omega)]
    exact d2
theorem RowP.set0 {W : World} {b : Nat} {l : List Sm} (h : RowP W b 0 l) {k : Nat} (hk : k < l.length) (t : Int) : RowP (W.setCell ⟨b, k * 2, none⟩ (.int .i64 t)) b 0 (l.set k (t, (l[k]).2)) := by
  intro i y hy
  obtain ⟨c1, c2, f1, f2⟩ := h.cell hk
  have hi : i < l.length := by have := (List.getElem?_eq_some_iff.1 hy).1; simpa using this
  obtain ⟨d1, d2, g1, g2⟩ := h.cell hi
  rw [Nat.zero_add] at c1 c2 f1 f2 d1 d2 g1 g2 ⊢
  refine ⟨⟨?_, by rw [World.frozen?_setCell]; exact g1⟩, ?_, by rw [World.frozen?_setCell]; exact g2⟩
  all_goals by_cases e : k = i
  · subst e
    obtain rfl : (t, (l[k]).2) = y := by simpa [hk] using hy
    exact World.cell?_setCell_same _ _ _ c1
  · have e2 : l[i] = y := by simpa [e, hi] using hy
    rw [← e2, World.cell?_setCell_other _ _ _ _ (by simp <;> omega)]
    exact d1
  · subst e
    obtain rfl : (t, (l[k]).2) = y := by simpa [hk] using hy
    exact cell_set_ne d2 c1 (fun e => by cases e) rfl rfl
  · have e2 : l[i] = y := by simpa [e, hi] using hy
    rw [← e2]
    exact cell_set_ne d2 c1 (fun e => by cases e) rfl rfl
theorem Row.set1 {W : World} {b o : Nat} {l : List Lb} (h : Row W b o l) {k : Nat} (hk : k < l.length) (s : ByteArray) : Row (W.setCell ⟨b, o + k * 2 + 1, none⟩ (.string s)) b o (l.set k ((l[k]).1, s)) := by
  intro i y hy
  obtain ⟨⟨c1, f1⟩, c2, f2⟩ := h k _ (List.getElem?_eq_getElem hk)
  have hi : i < l.length := by have := (List.getElem?_eq_some_iff.1 hy).1; simpa using this
  obtain ⟨⟨d1, g1⟩, d2, g2⟩ := h i _ (List.getElem?_eq_getElem hi)
  refine ⟨⟨?_, by rw [World.frozen?_setCell]; exact g1⟩, ?_, by rw [World.frozen?_setCell]; exact g2⟩
  all_goals by_cases e : k = i
  · subst e
    obtain rfl : ((l[k]).1, s) = y := by simpa [hk] using hy
    rw [World.cell?_setCell_other _ _ _ _ (by simp <;> omega)]
    exact d1
  · have e2 : l[i] = y := by simpa [e, hi] using hy
    rw [← e2, World.cell?_setCell_other _ _ _ _ (by simp <;> omega)]
    exact d1
  · subst e
    obtain rfl : ((l[k]).1, s) = y := by simpa [hk] using hy
    exact World.cell?_setCell_same _ _ _ c2
  · have e2 : l[i] = y := by simpa [e, hi] using hy
    rw [← e2, World.cell?_setCell_other _ _ _ _ (by simp <;> omega)]
    exact d2
theorem Gr.set {w W : World} (g : Gr w W) {b o : Nat} (hb : w.heap.size ≤ b) (v : Value) : Gr w (W.setCell ⟨b, o, none⟩ v) := g.setCell hb v
theorem own_smpN {W : World} {B : Nat} {v : Value} {l : List Sm} (h : OwnP W B v l) : ∃ A c, v = .slice A l.length c ∧ l.length ≤ c ∧ SmpN W B A l.length := by
  rcases h.2 with ⟨e, e0⟩ | ⟨g, cap, cur, rfl, hb, hg, hnc, -⟩
  · exact ⟨none, 0, by rw [e, e0], by omega, fun h => by omega⟩
  · refine ⟨some ⟨g, 0, none⟩, cap, rfl, hnc, fun h0 => ⟨g, rfl, hb, l, rfl, ?_⟩⟩
    obtain ⟨x, e, -, -, -, -, hr⟩ := SmV.of_own (sl := ⟨some ⟨g, 0, none⟩, l.length, cap⟩) h h0
    cases e
    exact hr
theorem range_len {gs : List Se} (ha : ∀ s ∈ gs, AscT s.2 ∧ s.2.length ≤ 1000) (i f t : Int) : (rangeP (smpsAt gs i) f t).length ≤ 1000 := by
  have h1 : (smpsAt gs i).length ≤ 1000 := by
    unfold smpsAt
    split
    · cases e : gs[i.toNat]? with
      | none => exact Nat.zero_le _
      | some s => exact (ha s (List.mem_of_getElem? e)).2
    · exact Nat.zero_le _
  have h2 := live_len (cutL (smpsAt gs i) f t)
  have h3 := cntT_le (smpsAt gs i) t
  rw [cutL_len] at h2
  unfold rangeP
  omega
/-- a series told, in a variable at block B: its two rows may be written -/
structure OwnJ (w W : World) (B : Nat) (A1 A2 : Option Addr) (n1 n2 c1 c2 : Nat) : Prop where
  g : Gr w W
  b0 : W.cell? ⟨B, 0, none⟩ = some (.slice A1 n1 c1)
  b1 : W.cell? ⟨B, 1, none⟩ = some (.slice A2 n2 c2)
  r1 : RowN W w.heap.size A1 n1
  r2 : SmpN W w.heap.size A2 n2
section
variable {w W W' : World} {B n1 n2 c1 c2 : Nat} {A1 A2 : Option Addr}
theorem OwnJ.gr (h : OwnJ w W B A1 A2 n1 n2 c1 c2) (g : Gr W W') : OwnJ w W' B A1 A2 n1 n2 c1 c2 := ⟨h.g.trans g, g.cell h.b0, g.cell h.b1, h.r1.gr g, h.r2.gr g⟩
/-- what is read of the k-th sample's value -/
theorem OwnJ.at2 (h : OwnJ w W B A1 A2 n1 n2 c1 c2) {k : Nat} (hk : k < n2) : ∃ g v, A2 = some ⟨g, 0, none⟩ ∧ W.cell? ⟨g, k * 2 + 1, none⟩ = some (.float .f64 v) ∧ W.frozen? ⟨g, k * 2 + 1, none⟩ = false ∧ ∀ u, OwnJ w (W.setCell ⟨g, k * 2 + 1, none⟩ (.float .f64 u)) B A1 A2 n1 n2 c1 c2 := by
  obtain ⟨g, rfl, hb, x, hx, hr⟩ := h.r2 (by omega)
  obtain ⟨d1, d2, f1, f2⟩ := hr.cell (k := k) (by omega)
  rw [Nat.zero_add] at d2 f2
  refine ⟨g, _, rfl, d2, f2, fun u => ⟨h.g.setCell hb _, cell_set_ne h.b0 d2 (fun e => by cases e) rfl rfl, cell_set_ne h.b1 d2 (fun e => by cases e) rfl rfl, h.r1.setf d2 (fun s e => by cases e), fun _ => ⟨g, rfl, hb, _, by simpa using hx, hr.set1 (by omega) u⟩⟩⟩
end
/-- the labels alone -/
structure OwnL (w W : World) (B : Nat) (A1 : Option Addr) (n1 c1 : Nat) : Prop where
  g : Gr w W
  b0 : W.cell? ⟨B, 0, none⟩ = some (.slice A1 n1 c1)
  r1 : RowN W w.heap.size A1 n1
section
variable {w W W' : World} {B n1 c1 : Nat} {A1 : Option Addr}
theorem OwnL.gr (h : OwnL w W B A1 n1 c1) (g : Gr W W') : OwnL w W' B A1 n1 c1 := ⟨h.g.trans g, g.cell h.b0, h.r1.gr g⟩
theorem OwnL.at0 (h : OwnL w W B A1 n1 c1) {A3 : Option Addr} {n3 k : Nat} (h3 : SmpN W w.heap.size A3 n3) (hk : k < n3) : ∃ g t, A3 = some ⟨g, 0, none⟩ ∧ W.cell? ⟨g, k * 2, none⟩ = some (.int .i64 t) ∧ W.frozen? ⟨g, k * 2, none⟩ = false ∧ ∀ u, OwnL w (W.setCell ⟨g, k * 2, none⟩ (.int .i64 u)) B A1 n1 c1 ∧ SmpN (W.setCell ⟨g, k * 2, none⟩ (.int .i64 u)) w.heap.size A3 n3 := by
  obtain ⟨g, rfl, hb, x, hx, hr⟩ := h3 (by omega)
  obtain ⟨d1, d2, f1, f2⟩ := hr.cell (k := k) (by omega)
  rw [Nat.zero_add] at d1 f1
  exact ⟨g, _, rfl, d1, f1, fun u => ⟨⟨h.g.setCell hb _, cell_set_ne h.b0 d1 (fun e => by cases e) rfl rfl, h.r1.setf d1 (fun s e => by cases e)⟩, fun _ => ⟨g, rfl, hb, _, by simpa using hx, hr.set0 (by omega) u⟩⟩⟩
theorem OwnL.at1 (h : OwnL w W B A1 n1 c1) {k : Nat} (hk : k < n1) : ∃ g o s, A1 = some ⟨g, o, none⟩ ∧ W.cell? ⟨g, o + k * 2 + 1, none⟩ = some (.string s) ∧ W.frozen? ⟨g, o + k * 2 + 1, none⟩ = false ∧ ∀ u, OwnL w (W.setCell ⟨g, o + k * 2 + 1, none⟩ (.string u)) B A1 n1 c1 := by
  obtain ⟨g, o, rfl, hb, x, hx, hr⟩ := h.r1 (by omega)
  obtain ⟨-, d2, f2⟩ := hr k _ (List.getElem?_eq_getElem (by omega))
  exact ⟨g, o, _, rfl, d2, f2, fun u => ⟨h.g.setCell hb _, cell_set_ne h.b0 d2 (fun e => by cases e) rfl rfl, fun _ => ⟨g, o, rfl, hb, _, by simpa using hx, hr.set1 (by omega) u⟩⟩⟩
end
end Go.Proofs.YtoglkgagdilfjaaGreatDoor
