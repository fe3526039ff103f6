/- slices.SortFunc over labels. -/
import Derived.Test.YtihiklmomhhdbaaGreatDoorCmp
import Derived.Test.YtihiklmomhhdbaaGreatDoorShelf
namespace Go.Proofs.YtihiklmomhhdbaaGreatDoor
open Go.RowKit Go.Sort
set_option maxRecDepth 100000
set_option maxHeartbeats 1000000

def encL (x : Lb) : List Value := [.string x.1, .string x.2]
/-- a row of labels that may be written -/
def Row (W : World) (b o : Nat) (l : List Lb) : Prop :=
  ∀ i x, l[i]? = some x → (W.cell? ⟨b, o + i * 2, none⟩ = some (.string x.1) ∧ W.frozen? ⟨b, o + i * 2, none⟩ = false) ∧ W.cell? ⟨b, o + i * 2 + 1, none⟩ = some (.string x.2) ∧ W.frozen? ⟨b, o + i * 2 + 1, none⟩ = false
theorem flat_get (l : List Lb) (i : Nat) (x : Lb) (h : l[i]? = some x) : (flatK encL 2 l.toArray)[i * 2]! = .string x.1 ∧ (flatK encL 2 l.toArray)[i * 2 + 1]! = .string x.2 := by
  obtain ⟨hi, rfl⟩ := List.getElem?_eq_some_iff.1 h
  have hg : l.toArray[i]! = l[i] := by simp [getElem!_pos, hi]
  refine ⟨?_, ?_⟩
  · rw [get_flatK _ _ _ _ (by simp; omega), show i * 2 / 2 = i by omega, show i * 2 % 2 = 0 by omega, hg]; rfl
  · rw [get_flatK _ _ _ _ (by simp; omega), show (i * 2 + 1) / 2 = i by omega, show (i * 2 + 1) % 2 = 1 by omega, hg]; rfl
theorem Row.holds {W : World} {b o : Nat} {l : List Lb} (h : Row W b o l) : HoldsK encL 2 W b o l.toArray := by
  intro j hj
  have hj' : j < l.length * 2 := by simpa using hj
  have hi : j / 2 < l.length := by omega
  have hx := List.getElem?_eq_getElem hi
  obtain ⟨⟨c1, f1⟩, c2, f2⟩ := h _ _ hx
  obtain ⟨g1, g2⟩ := flat_get l _ _ hx
  rcases Nat.mod_two_eq_zero_or_one j with e | e
  · have e2 : j / 2 * 2 = j := by omega
    rw [e2] at c1 f1 g1
    exact ⟨by rw [g1]; exact c1, f1⟩
  · have e2 : j / 2 * 2 + 1 = j := by omega
    rw [Nat.add_assoc, e2] at c2 f2
    rw [e2] at g2
    exact ⟨by rw [g2]; exact c2, f2⟩
theorem Row.of_holds {W : World} {b o : Nat} {l : List Lb} (h : HoldsK encL 2 W b o l.toArray) : Row W b o l := by
  intro i x hx
  obtain ⟨hi, rfl⟩ := List.getElem?_eq_some_iff.1 hx
  obtain ⟨g1, g2⟩ := flat_get l _ _ hx
  have h1 := h (i * 2) (by simp; omega)
  have h2 := h (i * 2 + 1) (by simp; omega)
  simp only [id] at h1 h2
  rw [g1] at h1
  rw [g2] at h2
  exact ⟨h1, h2⟩
theorem Row.labs {W : World} {b o : Nat} {l : List Lb} (h : Row W b o l) : LabsAt W (some ⟨b, o, none⟩) l := fun _ => ⟨b, o, rfl, fun i x hx => ⟨(h i x hx).1.1, (h i x hx).2.1⟩⟩

theorem grown_sortWorld {w : World} {b o n : Nat} {d : Array Lb} {os : Array Obj} : w.grownBy (sortWorldK encL 2 w b o n d os) (some b) := by
  refine ⟨rfl, rfl, rfl, ?_, fun k hk hne => ?_⟩
  · simp [sortWorldK, Go.Sort.grow, putRowK, putRow, mapBlock, Sort.ahead]
  · have hb : b ≠ k := fun e => hne (by rw [e])
    have e : (sortWorldK encL 2 w b o n d os).heap = (w.heap.modify b (onCells (putCells id o (flatK encL 2 d)))) ++ os := rfl
    rw [e, Array.getElem?_append_left (by simpa using hk), Array.getElem?_modify, if_neg hb]
theorem cmpLays (b o size : Nat) (w : World) : CmpLays Tryz.prog 146 #[] encL 2 cmpL b o size w :=
  fun m os dk _ x y => by
    have e : ∀ W : World, (W.alloc (.cells #[.string x.1, .string x.2] 71)).alloc (.cells #[.string y.1, .string y.2] 71) = Go.Sort.grow (W.drewN 0) (#[.cells #[.string x.1, .string x.2] 71] ++ #[.cells #[.string y.1, .string y.2] 71]) := fun W => by
      rw [alloc_eq_grow, alloc_eq_grow, grow_grow]; rfl
    exact (compare_any x.1 x.2 y.1 y.2 _).mono fun _ _ h => ⟨h.1, 0, _, h.2.trans (e _)⟩
theorem ltOf_cmpL : ltOf cmpL = lbLt := by funext x y; exact cmpL_neg x y
theorem swo : SWO (ltOf cmpL) where
  irrefl x := by rw [ltOf_cmpL, lbLt_irrefl]
  trans x y z h1 h2 := by rw [ltOf_cmpL] at *; exact lbLt_trans h1 h2
  ntrans x y z h1 h2 := by
    rw [ltOf_cmpL] at *
    cases h : lbLt x z
    · rfl
    · exfalso
      cases hyx : lbLt y x
      · have := lbLt_tri h1 hyx; subst this; rw [h] at h2; cases h2
      · have := lbLt_trans hyx h; rw [this] at h2; cases h2
end Go.Proofs.YtihiklmomhhdbaaGreatDoor
