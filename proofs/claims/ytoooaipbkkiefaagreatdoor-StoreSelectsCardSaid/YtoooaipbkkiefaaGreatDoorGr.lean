/- What stays as it was; a block of the caller's own. -/
import Derived.Test.YtoooaipbkkiefaaGreatDoorProg
import Derived.WalkKit
import Derived.WalkLawsBesides
import Derived.Handy
import Derived.Lib.Hide
import Derived.IntWalk
import Derived.Outline
import Derived.Deep.DeepMust
import Derived.Deep.RegionWith
import Derived.Below
import Derived.Deep.Draws
import Derived.Deep.QuietTactic
import Derived.BigQuiet
import Derived.Laws.OwnMore
import Derived.Laws.AppendOwn
namespace Go.Proofs.YtoooaipbkkiefaaGreatDoor
open Go.RowKit
set_option maxRecDepth 100000

theorem below_drewN {B : Nat} {a w : World} (h : Below B a w) (n : Nat) : Below B a (w.drewN n) := ⟨h.os, h.tape, h.output, h.size, h.block⟩
/-- nothing that was there has changed -/
structure Gr (w w' : World) : Prop where
  b : Below w.heap.size w w'
theorem Gr.refl (w : World) : Gr w w := ⟨Below.refl _ _⟩
theorem Gr.alloc {w w' : World} (h : Gr w w') (c : Array Value) (t : TypeId) : Gr w (w'.alloc (.cells c t)) := ⟨h.b.alloc h.b.size _⟩
theorem Gr.setCell {w w' : World} (h : Gr w w') {a : Addr} (ha : w.heap.size ≤ a.block) (v : Value) : Gr w (w'.setCell a v) := ⟨h.b.setCell ha v⟩
theorem Gr.drewN {w w' : World} (h : Gr w w') (n : Nat) : Gr w (w'.drewN n) := ⟨below_drewN h.b n⟩
theorem Gr.drew {w w' : World} (h : Gr w w') : Gr w w'.drew := ⟨⟨h.b.os, h.b.tape, h.b.output, h.b.size, h.b.block⟩⟩
theorem Gr.trans {a b c : World} (h : Gr a b) (g : Gr b c) : Gr a c := ⟨h.b.trans (g.b.mono h.b.size)⟩
theorem Gr.cell {w w' : World} (g : Gr w w') {b o : Nat} {v : Value} (h : w.cell? ⟨b, o, none⟩ = some v) : w'.cell? ⟨b, o, none⟩ = some v :=
  (g.b.cell (p := ⟨b, o, none⟩) (World.block_lt_of_cell? w _ h)).trans h
theorem Gr.size {w w' : World} (g : Gr w w') : w.heap.size ≤ w'.heap.size := g.b.size
/-- of what was there block b alone may have changed -/
abbrev Only (w w' : World) (b : Nat) : Prop := w.grownBy w' (some b)
theorem Only.refl (w : World) (b : Nat) : Only w w b := ⟨rfl, rfl, rfl, Nat.le_refl _, fun _ _ _ => rfl⟩
theorem Only.trans {a w w' : World} {b : Nat} (h : Only a w b) (g : Only w w' b) : Only a w' b :=
  ⟨g.os.trans h.os, g.tape.trans h.tape, g.output.trans h.output, Nat.le_trans h.size g.size, fun i hi hne => (g.block i (Nat.lt_of_lt_of_le hi h.size) hne).trans (h.block i hi hne)⟩
theorem Only.setCell {a w : World} {b : Nat} (h : Only a w b) {p : Addr} (hp : p.block = b) (u : Value) : Only a (w.setCell p u) b :=
  ⟨h.os, h.tape, h.output, by simpa [World.setCell] using h.size, fun i hi hne => (Below.heap_setCell w p u i (by
    rintro rfl
    exact hne (by rw [hp]))).trans (h.block i hi hne)⟩
theorem Only.gr {a w w' : World} {b : Nat} (h : Only a w b) (g : Gr w w') : Only a w' b :=
  ⟨g.b.os.trans h.os, g.b.tape.trans h.tape, g.b.output.trans h.output, Nat.le_trans h.size g.b.size, fun i hi hne => (g.b.block i (Nat.lt_of_lt_of_le hi h.size)).trans (h.block i hi hne)⟩
theorem Only.drewN {a w : World} {b : Nat} (h : Only a w b) (n : Nat) : Only a (w.drewN n) b := ⟨h.os, h.tape, h.output, h.size, h.block⟩
theorem Gr.only {w w1 w2 : World} {b : Nat} (h : Gr w w1) (g : Only w1 w2 b) (hb : w.heap.size ≤ b) : Gr w w2 := ⟨h.b.grown g h.b.size (fun k hk => by cases hk; exact hb)⟩
theorem quiet_left {P : Program} {f : FuncId} {args : Array Value} {w : World} {n : Nat} {v : Value}
    (h : Calls P f args (w.drewN n) fun e w' => e = .returned v ∧ w.drewN n = w') : Calls P f args (w.drewN n) fun e w'' => e = .returned v ∧ ∃ m, w'' = w.drewN m :=
  h.mono fun _ _ ⟨he, hm⟩ => ⟨he, n, hm.symm⟩

/-! the reader: its text, its place -/
def Rd (W : World) (b : Nat) (s : ByteArray) (k : Nat) : Prop := W.heap[b]? = some (.cells #[.string s, .int .i64 k] 136 (0, 0))
theorem Rd.lt {W : World} {b : Nat} {s : ByteArray} {k : Nat} (h : Rd W b s k) : b < W.heap.size := by
  rcases Nat.lt_or_ge b W.heap.size with e | e
  · exact e
  · unfold Rd at h; rw [Array.getElem?_eq_none e] at h; cases h
theorem Rd.facts {W : World} {b : Nat} {s : ByteArray} {k : Nat} (h : Rd W b s k) : W.cell? ⟨b, 0, none⟩ = some (.string s) ∧ W.cell? ⟨b, 1, none⟩ = some (.int .i64 k) ∧ W.frozen? ⟨b, 0, none⟩ = false ∧ W.frozen? ⟨b, 1, none⟩ = false :=
  ⟨cell_of_row W b 0 _ _ (0, 0) h, cell_of_row W b 1 _ _ (0, 0) h, frozen_of_row W b 0 _ _ h, frozen_of_row W b 1 _ _ h⟩
theorem Rd.gr {W W' : World} {b : Nat} {s : ByteArray} {k : Nat} (h : Rd W b s k) (g : Gr W W') : Rd W' b s k := (g.b.block b h.lt).trans h
theorem Rd.set {W : World} {b : Nat} {s : ByteArray} {k : Nat} (h : Rd W b s k) (j : Nat) : Rd (W.setCell ⟨b, 1, none⟩ (.int .i64 j)) b s j := by
  have := heap_setCell_same W b 1 _ _ (.int .i64 j) h
  unfold Rd
  simpa using this
theorem Rd.drewN {W : World} {b : Nat} {s : ByteArray} {k : Nat} (h : Rd W b s k) (n : Nat) : Rd (W.drewN n) b s k := h
theorem Rd.drew {W : World} {b : Nat} {s : ByteArray} {k : Nat} (h : Rd W b s k) : Rd W.drew b s k := h
end Go.Proofs.YtoooaipbkkiefaaGreatDoor
