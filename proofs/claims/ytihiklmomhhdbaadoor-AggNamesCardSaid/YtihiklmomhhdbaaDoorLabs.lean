/- Lists of labels in memory; what stays as it was. -/
import Derived.Test.YtihiklmomhhdbaaDoorName
import Derived.Deep.DeepMust
import Derived.Deep.RegionWith
import Derived.Below
import Derived.Deep.Draws
import Derived.Deep.QuietTactic
import Derived.BigQuiet
import Derived.Laws.OwnMore
import Derived.Laws.AppendOwn
namespace Go.Proofs.YtihiklmomhhdbaaDoor
open Go.RowKit

theorem below_drewN {B : Nat} {a w : World} (h : Below B a w) (n : Nat) : Below B a (w.drewN n) := ⟨h.os, h.tape, h.output, h.size, h.block⟩
/-- nothing that was there has changed -/
structure Gr (w w' : World) : Prop where
  b : Below w.heap.size w w'
theorem Gr.refl (w : World) : Gr w w := ⟨Below.refl _ _⟩
theorem Gr.alloc {w w' : World} (h : Gr w w') (c : Array Value) (t : TypeId) : Gr w (w'.alloc (.cells c t)) := ⟨h.b.alloc h.b.size _⟩
theorem Gr.setCell {w w' : World} (h : Gr w w') {a : Addr} (ha : w.heap.size ≤ a.block) (v : Value) : Gr w (w'.setCell a v) := ⟨h.b.setCell ha v⟩
theorem Gr.drewN {w w' : World} (h : Gr w w') (n : Nat) : Gr w (w'.drewN n) := ⟨below_drewN h.b n⟩
theorem Gr.drew {w w' : World} (h : Gr w w') : Gr w w'.drew := ⟨⟨h.b.os, h.b.tape, h.b.output, h.b.size, h.b.block⟩⟩
theorem Gr.trans {a b c : World} (h : Gr a b) (g : Gr b c) : Gr a c := ⟨h.b.trans (g.b.mono h.b.size)⟩
theorem Gr.cell {w w' : World} (g : Gr w w') {b o : Nat} {v : Value} (h : w.cell? ⟨b, o, none⟩ = some v) : w'.cell? ⟨b, o, none⟩ = some v :=
  (g.b.cell (p := ⟨b, o, none⟩) (World.block_lt_of_cell? w _ h)).trans h
theorem Gr.size {w w' : World} (g : Gr w w') : w.heap.size ≤ w'.heap.size := g.b.size

theorem quiet_left {P : Program} {f : FuncId} {args : Array Value} {w : World} {n : Nat} {v : Value}
    (h : Calls P f args (w.drewN n) fun e w' => e = .returned v ∧ w.drewN n = w') : Calls P f args (w.drewN n) fun e w'' => e = .returned v ∧ ∃ m, w'' = w.drewN m :=
  h.mono fun _ _ ⟨he, hm⟩ => ⟨he, n, hm.symm⟩
theorem quiet_add_left {P : Program} {f : FuncId} {args : Array Value} {w : World} {a n : Nat} {v : Value}
    (h : Calls P f args (w.drewN (a + n)) fun e w' => e = .returned v ∧ w.drewN (a + n) = w') :
    Calls P f args (w.drewN (a + n)) fun e w'' => e = .returned v ∧ ∃ m, w'' = w.drewN (a + m) :=
  h.mono fun _ _ ⟨he, hm⟩ => ⟨he, n, hm.symm⟩
/-- a slice of labels reads as a list -/
def LabsAt (W : World) (A : Option Addr) (l : List Lb) : Prop :=
  0 < l.length → ∃ b o, A = some ⟨b, o, none⟩ ∧ ∀ i x, l[i]? = some x → W.cell? ⟨b, o + i * 2, none⟩ = some (.string x.1) ∧ W.cell? ⟨b, o + i * 2 + 1, none⟩ = some (.string x.2)
/-- the texts are such as the model has -/
def Wd (l : List Lb) : Prop := ∀ x ∈ l, x.1.size ≤ maxLen ∧ x.2.size ≤ maxLen
theorem LabsAt.gr {W W' : World} {A : Option Addr} {l : List Lb} (h : LabsAt W A l) (g : Gr W W') : LabsAt W' A l := fun h0 => by
  obtain ⟨b, o, e, hc⟩ := h h0
  exact ⟨b, o, e, fun i x hx => ⟨g.cell (hc i x hx).1, g.cell (hc i x hx).2⟩⟩
theorem LabsAt.none_ (W : World) (A : Option Addr) : LabsAt W A [] := fun h => absurd h (by simp)
theorem LabsAt.at_ {W : World} {A : Option Addr} {l : List Lb} (h : LabsAt W A l) {k : Nat} (hk : k < l.length) :
    ∃ b o, A = some ⟨b, o, none⟩ ∧ W.cell? ⟨b, o + k * 2, none⟩ = some (.string (l[k]).1) ∧ W.cell? ⟨b, o + k * 2 + 1, none⟩ = some (.string (l[k]).2) ∧ b < W.heap.size := by
  obtain ⟨b, o, e, hc⟩ := h (by omega)
  obtain ⟨h1, h2⟩ := hc k _ (List.getElem?_eq_getElem hk)
  exact ⟨b, o, e, h1, h2, World.block_lt_of_cell? W _ h1⟩
theorem LabsAt.two {W : World} {A : Option Addr} {l : List Lb} (h : LabsAt W A l) {k j : Nat} (hk : k < l.length) (hj : j < l.length) :
    ∃ b o, A = some ⟨b, o, none⟩ ∧ W.cell? ⟨b, o + k * 2, none⟩ = some (.string (l[k]).1) ∧ W.cell? ⟨b, o + k * 2 + 1, none⟩ = some (.string (l[k]).2) ∧ W.cell? ⟨b, o + j * 2, none⟩ = some (.string (l[j]).1) ∧ W.cell? ⟨b, o + j * 2 + 1, none⟩ = some (.string (l[j]).2) ∧ b < W.heap.size := by
  obtain ⟨b, o, e, hc⟩ := h (by omega)
  obtain ⟨h1, h2⟩ := hc k _ (List.getElem?_eq_getElem hk)
  obtain ⟨h3, h4⟩ := hc j _ (List.getElem?_eq_getElem hj)
  exact ⟨b, o, e, h1, h2, h3, h4, World.block_lt_of_cell? W _ h1⟩

/-! right: step by step -/
def okUpTo (l : List Lb) (k : Nat) : Prop := ∀ i, i < k → okAt l i
theorem right_all {l : List Lb} (h : okUpTo l l.length) (h32 : l.length ≤ 32) : rightB l = true := rightB_t.2 ⟨h32, h⟩
theorem right_not {l : List Lb} {k : Nat} (hk : k < l.length) (h : ¬ okAt l k) : rightB l = false := rightB_f.2 fun hr => h (hr.2 k hk)
theorem right_big {l : List Lb} (h : 32 < l.length) : rightB l = false := rightB_f.2 fun hr => by have := hr.1; omega
theorem okUpTo_0 (l : List Lb) : okUpTo l 0 := fun i hi => absurd hi (by omega)
theorem okUpTo_s {l : List Lb} {k : Nat} (h : okUpTo l k) (g : okAt l k) : okUpTo l (k + 1) := fun i hi => by
  by_cases e : i = k
  · exact e ▸ g
  · exact h i (by omega)
/-- a label's own test -/
theorem okAt_n {l : List Lb} {k : Nat} (hk : k < l.length) (h : nameB (l[k]).1 = false) : ¬ okAt l k := by
  rintro ⟨x, hx, ho, _⟩
  rw [List.getElem?_eq_getElem hk] at hx; cases hx
  simp [okV, h] at ho
theorem okAt_v {l : List Lb} {k : Nat} (hk : k < l.length) (h : (l[k]).2.size = 0 ∨ 256 < (l[k]).2.size) : ¬ okAt l k := by
  rintro ⟨x, hx, ho, _⟩
  rw [List.getElem?_eq_getElem hk] at hx; cases hx
  simp [okV] at ho; omega
theorem okAt_l {l : List Lb} {k : Nat} (hk : k < l.length) (h0 : 0 < k) (h : ltS (l[k - 1]).1 (l[k]).1 = false) : ¬ okAt l k := by
  rintro ⟨x, hx, _, ho⟩
  rw [List.getElem?_eq_getElem hk] at hx; cases hx
  have := ho _ h0 (List.getElem?_eq_getElem (by omega))
  rw [h] at this; cases this
theorem okAt_y {l : List Lb} {k : Nat} (hk : k < l.length) (h1 : nameB (l[k]).1 = true) (h2 : 0 < (l[k]).2.size) (h3 : (l[k]).2.size ≤ 256) (h4 : k = 0 ∨ 0 < k ∧ ltS (l[k - 1]).1 (l[k]).1 = true) : okAt l k := by
  refine ⟨l[k], List.getElem?_eq_getElem hk, by simp [okV, h1]; omega, fun y h0 hy => ?_⟩
  rcases h4 with h4 | ⟨_, h4⟩
  · omega
  · rw [List.getElem?_eq_getElem (by omega)] at hy; cases hy; exact h4
end Go.Proofs.YtihiklmomhhdbaaDoor
