/- slices.DeleteFunc over labels: those of empty values go. -/
import Derived.Test.YtllhkegefinlbaaGreatDoorCmp
import Derived.Test.YtllhkegefinlbaaGreatDoorShelf
import Derived.Laws.IdiomCopy
namespace Go.Proofs.YtllhkegefinlbaaGreatDoor
open Go.RowKit Go.Sort
set_option maxRecDepth 100000
set_option maxHeartbeats 1000000

def encL (x : Lb) : List Value := [.string x.1, .string x.2]
/-- a row of labels that may be written -/
def Row (W : World) (b o : Nat) (l : List Lb) : Prop :=
  ∀ i x, l[i]? = some x → (W.cell? ⟨b, o + i * 2, none⟩ = some (.string x.1) ∧ W.frozen? ⟨b, o + i * 2, none⟩ = false) ∧ W.cell? ⟨b, o + i * 2 + 1, none⟩ = some (.string x.2) ∧ W.frozen? ⟨b, o + i * 2 + 1, none⟩ = false
theorem flat_get (l : List Lb) (i : Nat) (x : Lb) (h : l[i]? = some x) : (flatK encL 2 l.toArray)[i * 2]! = .string x.1 ∧ (flatK encL 2 l.toArray)[i * 2 + 1]! = .string x.2 := by
  obtain ⟨hi, rfl⟩ := List.getElem?_eq_some_iff.1 h
  have hg : l.toArray[i]! = l[i] := by simp [getElem!_pos, hi]
  refine ⟨?_, ?_⟩
  · rw [get_flatK _ _ _ _ (by simp; omega), show i * 2 / 2 = i by omega, show i * 2 % 2 = 0 by omega, hg]; rfl
  · rw [get_flatK _ _ _ _ (by simp; omega), show (i * 2 + 1) / 2 = i by omega, show (i * 2 + 1) % 2 = 1 by omega, hg]; rfl
theorem Row.holds {W : World} {b o : Nat} {l : List Lb} (h : Row W b o l) : HoldsK encL 2 W b o l.toArray := by
  intro j hj
  have hj' : j < l.length * 2 := by simpa using hj
  have hi : j / 2 < l.length := by omega
  have hx := List.getElem?_eq_getElem hi
  obtain ⟨⟨c1, f1⟩, c2, f2⟩ := h _ _ hx
  obtain ⟨g1, g2⟩ := flat_get l _ _ hx
  rcases Nat.mod_two_eq_zero_or_one j with e | e
  · have e2 : j / 2 * 2 = j := by omega
    rw [e2] at c1 f1 g1
    exact ⟨by rw [g1]; exact c1, f1⟩
  · have e2 : j / 2 * 2 + 1 = j := by omega
    rw [Nat.add_assoc, e2] at c2 f2
    rw [e2] at g2
    exact ⟨by rw [g2]; exact c2, f2⟩
theorem Row.of_holds {W : World} {b o : Nat} {l : List Lb} (h : HoldsK encL 2 W b o l.toArray) : Row W b o l := by
  intro i x hx
  obtain ⟨hi, rfl⟩ := List.getElem?_eq_some_iff.1 hx
  obtain ⟨g1, g2⟩ := flat_get l _ _ hx
  have h1 := h (i * 2) (by simp; omega)
  have h2 := h (i * 2 + 1) (by simp; omega)
  simp only [id] at h1 h2
  rw [g1] at h1
  rw [g2] at h2
  exact ⟨h1, h2⟩
theorem Row.labs {W : World} {b o : Nat} {l : List Lb} (h : Row W b o l) : LabsAt W (some ⟨b, o, none⟩) l := fun _ => ⟨b, o, rfl, fun i x hx => ⟨(h i x hx).1.1, (h i x hx).2.1⟩⟩

theorem grown_sortWorld {w : World} {b o n : Nat} {d : Array Lb} {os : Array Obj} : w.grownBy (sortWorldK encL 2 w b o n d os) (some b) := by
  refine ⟨rfl, rfl, rfl, ?_, fun k hk hne => ?_⟩
  · simp [sortWorldK, Go.Sort.grow, putRowK, putRow, mapBlock, Sort.ahead]
  · have hb : b ≠ k := fun e => hne (by rw [e])
    have e : (sortWorldK encL 2 w b o n d os).heap = (w.heap.modify b (onCells (putCells id o (flatK encL 2 d)))) ++ os := rfl
    rw [e, Array.getElem?_append_left (by simpa using hk), Array.getElem?_modify, if_neg hb]
theorem cmpLays (b o size : Nat) (w : World) : CmpLays Tryz.prog 69 #[] encL 2 cmpL b o size w :=
  fun m os dk _ x y => by
    have e : ∀ W : World, (W.alloc (.cells #[.string x.1, .string x.2] 42)).alloc (.cells #[.string y.1, .string y.2] 42) = Go.Sort.grow (W.drewN 0) (#[.cells #[.string x.1, .string x.2] 42] ++ #[.cells #[.string y.1, .string y.2] 42]) := fun W => by
      rw [alloc_eq_grow, alloc_eq_grow, grow_grow]; rfl
    exact (compare_any x.1 x.2 y.1 y.2 _).mono fun _ _ h => ⟨h.1, 0, _, h.2.trans (e _)⟩
theorem ltOf_cmpL : ltOf cmpL = lbLt := by funext x y; exact cmpL_neg x y
theorem swo : SWO (ltOf cmpL) where
  irrefl x := by rw [ltOf_cmpL, lbLt_irrefl]
  trans x y z h1 h2 := by rw [ltOf_cmpL] at *; exact lbLt_trans h1 h2
  ntrans x y z h1 h2 := by
    rw [ltOf_cmpL] at *
    cases h : lbLt x z
    · rfl
    · exfalso
      cases hyx : lbLt y x
      · have := lbLt_tri h1 hyx; subst this; rw [h] at h2; cases h2
      · have := lbLt_trans hyx h; rw [this] at h2; cases h2
end Go.Proofs.YtllhkegefinlbaaGreatDoor
namespace Go.Proofs.YtllhkegefinlbaaGreatDoor
open Go.RowKit Go.Sort
set_option maxRecDepth 100000
set_option maxHeartbeats 2000000

/-! a row under way -/
theorem Row.far {W W' : World} {b o : Nat} {l : List Lb} (h : Row W b o l) {row : Option Nat} (g : W.grownBy W' row) (hne : some b ≠ row) : Row W' b o l := by
  intro i x hx
  obtain ⟨⟨c1, f1⟩, c2, f2⟩ := h i x hx
  have hb : W'.heap[b]? = W.heap[b]? := g.block b (World.block_lt_of_cell? W _ c1) hne
  exact ⟨⟨(World.cell?_of_block (a := ⟨b, _, none⟩) hb).trans c1, (World.frozen?_of_block (a := ⟨b, _, none⟩) hb).trans f1⟩, (World.cell?_of_block (a := ⟨b, _, none⟩) hb).trans c2, (World.frozen?_of_block (a := ⟨b, _, none⟩) hb).trans f2⟩
theorem Row.gr {W W' : World} {b o : Nat} {l : List Lb} (h : Row W b o l) (g : Gr W W') : Row W' b o l :=
  h.far (row := none) ⟨g.b.os, g.b.tape, g.b.output, g.b.size, fun k hk _ => g.b.block k hk⟩ (by simp)
theorem Row.lt {W : World} {b o : Nat} {l : List Lb} (h : Row W b o l) (h0 : 0 < l.length) : b < W.heap.size := World.block_lt_of_cell? W _ (h 0 _ (List.getElem?_eq_getElem h0)).1.1
theorem Row.cell {W : World} {b o : Nat} {l : List Lb} (h : Row W b o l) {k : Nat} (hk : k < l.length) :
    W.cell? ⟨b, o + k * 2, none⟩ = some (.string (l[k]).1) ∧ W.cell? ⟨b, o + k * 2 + 1, none⟩ = some (.string (l[k]).2) ∧ W.frozen? ⟨b, o + k * 2, none⟩ = false ∧ W.frozen? ⟨b, o + k * 2 + 1, none⟩ = false := by
  obtain ⟨⟨c1, f1⟩, c2, f2⟩ := h k _ (List.getElem?_eq_getElem hk)
  exact ⟨c1, c2, f1, f2⟩
theorem Row.store {W : World} {b o : Nat} {l : List Lb} (h : Row W b o l) {k : Nat} (hk : k < l.length) (x : Lb) :
    Row ((W.setCell ⟨b, o + k * 2, none⟩ (.string x.1)).setCell ⟨b, o + k * 2 + 1, none⟩ (.string x.2)) b o (l.set k x) := by
  intro i y hy
  obtain ⟨c1, c2, f1, f2⟩ := h.cell hk
  have hi : i < l.length := by have := (List.getElem?_eq_some_iff.1 hy).1; simpa using this
  obtain ⟨d1, d2, g1, g2⟩ := h.cell hi
  have hf : ∀ a, ((W.setCell ⟨b, o + k * 2, none⟩ (.string x.1)).setCell ⟨b, o + k * 2 + 1, none⟩ (.string x.2)).frozen? a = W.frozen? a := fun a => by
    rw [World.frozen?_setCell, World.frozen?_setCell]
  rw [hf, hf]
  refine ⟨⟨?_, g1⟩, ?_, g2⟩
  all_goals by_cases e : k = i
  · subst e
    obtain rfl : x = y := by simpa [hk] using hy
    rw [World.cell?_setCell_other _ _ _ _ (by simp)]
    exact World.cell?_setCell_same _ _ _ c1
  · rw [World.cell?_setCell_other _ _ _ _ (by simp; first | done | omega), World.cell?_setCell_other _ _ _ _ (by simp; first | done | omega)]
    rw [List.getElem?_set, if_neg e, List.getElem?_eq_getElem hi] at hy
    cases hy; exact d1
  · subst e
    obtain rfl : x = y := by simpa [hk] using hy
    have : (W.setCell ⟨b, o + k * 2, none⟩ (.string x.1)).cell? ⟨b, o + k * 2 + 1, none⟩ = some (.string (l[k]).2) := by
      rw [World.cell?_setCell_other _ _ _ _ (by simp)]; exact c2
    exact World.cell?_setCell_same _ _ _ this
  · rw [World.cell?_setCell_other _ _ _ _ (by simp; first | done | omega), World.cell?_setCell_other _ _ _ _ (by simp; first | done | omega)]
    rw [List.getElem?_set, if_neg e, List.getElem?_eq_getElem hi] at hy
    cases hy; exact d2
theorem only_alloc {a w : World} {row : Option Nat} (h : a.grownBy w row) (c : Array Value) (t : TypeId) : a.grownBy (w.alloc (.cells c t)) row :=
  ⟨h.os, h.tape, h.output, Nat.le_trans h.size (by simp), fun i hi hne => (Below.heap_alloc w _ i (Nat.lt_of_lt_of_le hi h.size)).trans (h.block i hi hne)⟩
theorem only_setCell {a w : World} {g : Nat} (h : a.grownBy w (some g)) {p : Addr} (hp : p.block = g) (u : Value) : a.grownBy (w.setCell p u) (some g) :=
  ⟨h.os, h.tape, h.output, by simpa [World.setCell] using h.size, fun i hi hne => (Below.heap_setCell w p u i (by
    rintro rfl
    exact hne (by rw [hp]))).trans (h.block i hi hne)⟩
theorem only_gr {a w w' : World} {row : Option Nat} (h : a.grownBy w row) (g : Gr w w') : a.grownBy w' row :=
  ⟨g.b.os.trans h.os, g.b.tape.trans h.tape, g.b.output.trans h.output, Nat.le_trans h.size g.b.size, fun i hi hne => (g.b.block i (Nat.lt_of_lt_of_le hi h.size)).trans (h.block i hi hne)⟩
theorem only_trans {a w w' : World} {row : Option Nat} (h : a.grownBy w row) (g : w.grownBy w' row) : a.grownBy w' row :=
  ⟨g.os.trans h.os, g.tape.trans h.tape, g.output.trans h.output, Nat.le_trans h.size g.size, fun i hi hne => (g.block i (Nat.lt_of_lt_of_le hi h.size) hne).trans (h.block i hi hne)⟩
theorem only_refl (a : World) (row : Option Nat) : a.grownBy a row := ⟨rfl, rfl, rfl, Nat.le_refl _, fun _ _ _ => rfl⟩
theorem only_drewN {a w : World} {row : Option Nat} (h : a.grownBy w row) (n : Nat) : a.grownBy (w.drewN n) row := ⟨h.os, h.tape, h.output, h.size, h.block⟩
/-- a row of the call's own -/
theorem Gr.only {w w1 w2 : World} {b : Nat} (h : Gr w w1) (g : w1.grownBy w2 (some b)) (hb : w.heap.size ≤ b) : Gr w w2 := ⟨h.b.grown g h.b.size (fun k hk => by cases hk; exact hb)⟩

/-- where the first label of an empty value stands -/
def IdxPost (l : List Lb) (w : World) (e : Ending) (w' : World) : Prop :=
  ((∃ i x, l[i]? = some x ∧ full x = false ∧ (∀ y ∈ l.take i, full y = true) ∧ e = .returned (.int .i64 i)) ∨ ((∀ y ∈ l, full y = true) ∧ e = .returned (.int .i64 (-1)))) ∧ Gr w w'
def fullTo (l : List Lb) (k : Nat) : Prop := ∀ y ∈ l.take k, full y = true
theorem fullTo_s {l : List Lb} {k : Nat} (hk : k < l.length) (h : fullTo l k) (g : full l[k] = true) : fullTo l (k + 1) := by
  intro y hy
  rw [List.take_succ_eq_append_getElem hk] at hy
  rcases List.mem_append.1 hy with hy | hy
  · exact h y hy
  · rw [List.mem_singleton] at hy; rw [hy]; exact g
/-- the row under way: what was kept of the first j stands ahead, the rest as it was -/
def Mid (l : List Lb) (i j : Nat) (cur : List Lb) : Prop := cur.length = l.length ∧ cur.take i = (l.take j).filter full ∧ cur.drop j = l.drop j ∧ i < j ∧ j ≤ l.length
theorem Mid.start {l : List Lb} {i : Nat} {x : Lb} (hx : l[i]? = some x) (hf : full x = false) (ha : ∀ y ∈ l.take i, full y = true) : Mid l i (i + 1) l := by
  obtain ⟨hi, rfl⟩ := List.getElem?_eq_some_iff.1 hx
  refine ⟨rfl, ?_, rfl, by omega, by omega⟩
  rw [List.take_succ_eq_append_getElem hi, List.filter_append, List.filter_eq_self.2 ha]
  simp [hf]
theorem Mid.at_ {l cur : List Lb} {i j : Nat} (h : Mid l i j cur) (hj : j < l.length) : cur[j]? = some l[j] := by
  have h1 : (cur.drop j)[0]? = (l.drop j)[0]? := by rw [h.2.2.1]
  rw [List.getElem?_drop, List.getElem?_drop] at h1
  simpa [List.getElem?_eq_getElem hj] using h1
theorem Mid.skip {l cur : List Lb} {i j : Nat} (h : Mid l i j cur) (hj : j < l.length) (hf : full l[j] = false) : Mid l i (j + 1) cur := by
  obtain ⟨h1, h2, h3, h4, h5⟩ := h
  refine ⟨h1, ?_, ?_, by omega, by omega⟩
  · rw [List.take_succ_eq_append_getElem hj, List.filter_append, h2]; simp [hf]
  · rw [← List.drop_drop, h3, List.drop_drop]
theorem Mid.keep {l cur : List Lb} {i j : Nat} (h : Mid l i j cur) (hj : j < l.length) (hf : full l[j] = true) : Mid l (i + 1) (j + 1) (cur.set i l[j]) := by
  obtain ⟨h1, h2, h3, h4, h5⟩ := h
  have hi : i < cur.length := by omega
  refine ⟨by simpa using h1, ?_, ?_, by omega, by omega⟩
  · rw [List.take_succ_eq_append_getElem (by simpa using hi), List.take_succ_eq_append_getElem hj, List.filter_append, ← h2, List.take_set_of_le (by omega)]
    simp [hf]
  · rw [List.drop_set_of_lt (by omega), ← List.drop_drop, h3, List.drop_drop]
theorem Mid.done {l cur : List Lb} {i : Nat} (h : Mid l i l.length cur) : cur.take i = l.filter full ∧ (l.filter full).length = i := by
  obtain ⟨h1, h2, h3, h4, h5⟩ := h
  rw [List.take_length] at h2
  exact ⟨h2, by rw [← h2, List.length_take]; omega⟩

theorem setCells_block (b : Nat) : ∀ (vs : List Value) (o : Nat) (W : World) (k : Nat), k ≠ b → (W.setCells b o vs).heap[k]? = W.heap[k]?
  | [], _, _, _, _ => rfl
  | v :: r, o, W, k, h => by
    rw [World.setCells, setCells_block b r _ _ k h, Below.heap_setCell _ _ _ _ h]
theorem setCells_rest (b : Nat) : ∀ (vs : List Value) (o : Nat) (W : World), (W.setCells b o vs).os = W.os ∧ (W.setCells b o vs).tape = W.tape ∧ (W.setCells b o vs).output = W.output ∧ (W.setCells b o vs).heap.size = W.heap.size
  | [], _, _ => ⟨rfl, rfl, rfl, rfl⟩
  | v :: r, o, W => by
    rw [World.setCells]
    obtain ⟨h1, h2, h3, h4⟩ := setCells_rest b r (o + 1) (W.setCell ⟨b, o, none⟩ v)
    exact ⟨h1, h2, h3, h4.trans (by simp [World.setCell])⟩
theorem only_setCells {a w : World} {b : Nat} (h : a.grownBy w (some b)) (o : Nat) (vs : List Value) : a.grownBy (w.setCells b o vs) (some b) := by
  obtain ⟨h1, h2, h3, h4⟩ := setCells_rest b vs o w
  exact ⟨h1.trans h.os, h2.trans h.tape, h3.trans h.output, by rw [h4]; exact h.size, fun k hk hne => (setCells_block b vs o w k (fun e => hne (by rw [e]))).trans (h.block k hk hne)⟩
/-- clear of what stands behind the first i: those ahead stay -/
theorem clear_run {W : World} {b o i n c : Nat} {l : List Lb} (h : Row W b o l) (hi : i ≤ l.length) (hn : n = l.length - i) :
    ∃ W', (Builtin.clear_ #[43] 0 #[.slice (some ⟨b, o + i * 2, none⟩) n c]).run Tryz.prog W = .ok (.tuple #[]) W' ∧ W.grownBy W' (some b) ∧ LabsAt W' (some ⟨b, o, none⟩) (l.take i) := by
  have hself : ∀ W', (∀ j, j < i * 2 → W'.cell? ⟨b, o + j, none⟩ = W.cell? ⟨b, o + j, none⟩) → LabsAt W' (some ⟨b, o, none⟩) (l.take i) := fun W' hc _ => ⟨b, o, rfl, fun j x hx => by
    have hj : j < i := by have := (List.getElem?_eq_some_iff.1 hx).1; simp at this; omega
    rw [List.getElem?_take, if_pos hj] at hx
    obtain ⟨⟨c1, -⟩, c2, -⟩ := h j x hx
    exact ⟨(hc (j * 2) (by omega)).trans c1, (hc (j * 2 + 1) (by omega)).trans c2⟩⟩
  have hu := run_underlying (P := Tryz.prog) Tryz.underlying43
  by_cases h0 : n = 0
  · refine ⟨W, ?_, only_refl _ _, hself W fun _ _ => rfl⟩
    subst h0
    simp [Builtin.clear_, hu]
  · obtain ⟨m, rfl⟩ : ∃ m, n = m + 1 := ⟨n - 1, by omega⟩
    have hz := Tryz.zeroValue42
    obtain ⟨vs, hvs⟩ : ∃ vs, (Builtin.zeroCells (Value.agg #[.string ⟨#[]⟩, .string ⟨#[]⟩]).cells (m + 1)).toList = vs := ⟨_, rfl⟩
    have hlen : vs.length = (m + 1) * 2 := by rw [← hvs]; simp [Builtin.zeroCells, Value.cells]
    have hone : ∀ v ∈ vs, v.oneCell' = true := by
      intro v hv
      rw [← hvs] at hv
      simp only [Builtin.zeroCells, Value.cells, Array.toList_map, List.mem_map] at hv
      obtain ⟨j, -, rfl⟩ := hv
      rcases Nat.mod_two_eq_zero_or_one j with e | e <;> simp [e] <;> rfl
    have hat : ∀ j, j < vs.length → (W.cell? ⟨b, o + i * 2 + 0 + j, none⟩).isSome = true ∧ W.frozen? ⟨b, o + i * 2 + 0 + j, none⟩ = false := by
      intro j hj
      have hk : i + j / 2 < l.length := by omega
      obtain ⟨⟨c1, f1⟩, c2, f2⟩ := h _ _ (List.getElem?_eq_getElem hk)
      rcases Nat.mod_two_eq_zero_or_one j with e | e
      · rw [show o + i * 2 + 0 + j = o + (i + j / 2) * 2 by omega]
        exact ⟨by rw [c1]; rfl, f1⟩
      · rw [show o + i * 2 + 0 + j = o + (i + j / 2) * 2 + 1 by omega]
        exact ⟨by rw [c2]; rfl, f2⟩
    have hst := run_storeCells_cells (P := Tryz.prog) b (o + i * 2) vs 0 W (fun j hj => (hat j hj).1) (fun j hj => (hat j hj).2) hone
    refine ⟨W.setCells b (o + i * 2 + 0) vs, ?_, only_setCells (only_refl _ _) _ _, hself _ fun j hj => ?_⟩
    · simp [Builtin.clear_, hu, hz, hvs, hst]
    · exact World.cell?_setCells_out b vs _ W _ fun _ _ => by left; show o + j < _; omega

def DelPost (b o c : Nat) (l : List Lb) (w : World) (e : Ending) (w' : World) : Prop :=
  e = .returned (.slice (some ⟨b, o, none⟩) (l.filter full).length c) ∧ LabsAt w' (some ⟨b, o, none⟩) (l.filter full) ∧ w.grownBy w' (some b)
end Go.Proofs.YtllhkegefinlbaaGreatDoor
