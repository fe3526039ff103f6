/- Rows of samples that may be written; swaps. -/
import Derived.Test.YtllhkegefinlbaaGreatDoorGMath
import Derived.Test.YtllhkegefinlbaaGreatDoorGStm
import Derived.Lib.QuietBelow
import Derived.BigRegion
import Derived.Laws.StructEq
import Derived.Shelf.SlSortCmp.InsertionK
namespace Go.Proofs.YtllhkegefinlbaaGreatDoor.Pt
open Go.RowKit
set_option maxRecDepth 100000

theorem ktake_s {f : Pt → List Lb} {l : List Pt} {i : Nat} (h : i < l.length) : keysP f (l.take (i + 1)) = keyStep (keysP f (l.take i)) (f l[i]) := by
  rw [List.take_succ_eq_append_getElem h, keysP_snoc]
/-- which points are done before the i-th -/
def doneL (f : Pt → List Lb) (l : List Pt) (i : Nat) : List Bool := l.map fun p => memB (keysP f (l.take i)) (f p)
theorem doneL_len (f : Pt → List Lb) (l : List Pt) (i : Nat) : (doneL f l i).length = l.length := by unfold doneL; simp
theorem doneL_0 (f : Pt → List Lb) (l : List Pt) : doneL f l 0 = List.replicate l.length false := by
  unfold doneL
  rw [List.take_zero]
  have : (fun p => memB (keysP f []) (f p)) = fun _ => false := by funext p; rfl
  rw [this]
  exact List.map_const'
theorem doneL_at {f : Pt → List Lb} {l : List Pt} {i j : Nat} (h : j < l.length) : (doneL f l i)[j]? = some (memB (keysP f (l.take i)) (f l[j])) := by
  unfold doneL
  rw [List.getElem?_map, List.getElem?_eq_getElem h]; rfl
theorem done_in {f : Pt → List Lb} {l : List Pt} {i : Nat} (h : i < l.length) (g : memB (keysP f (l.take i)) (f l[i]) = true) : keysP f (l.take (i + 1)) = keysP f (l.take i) ∧ doneL f l (i + 1) = doneL f l i := by
  have e : keysP f (l.take (i + 1)) = keysP f (l.take i) := by rw [ktake_s h, step_in (memB_iff.1 g)]
  exact ⟨e, by unfold doneL; rw [e]⟩
theorem done_out {f : Pt → List Lb} {l : List Pt} {i : Nat} (h : i < l.length) (g : memB (keysP f (l.take i)) (f l[i]) = false) :
    keysP f (l.take (i + 1)) = keysP f (l.take i) ++ [f l[i]] ∧ (∀ p, memB (keysP f (l.take (i + 1))) (f p) = (memB (keysP f (l.take i)) (f p) || decide (f p = f l[i]))) ∧ memG f (f l[i]) (l.take i) = [] := by
  have hn : f l[i] ∉ keysP f (l.take i) := fun hm => by rw [memB_iff.2 hm] at g; cases g
  have e : keysP f (l.take (i + 1)) = keysP f (l.take i) ++ [f l[i]] := by rw [ktake_s h, step_out hn]
  refine ⟨e, fun p => ?_, ?_⟩
  · rw [e]
    unfold memB
    rw [List.any_append]
    congr 1
    simp only [List.any_cons, List.any_nil, Bool.or_false]
    exact decide_eq_decide.2 ⟨fun h => h.symm, fun h => h.symm⟩
  · exact List.filter_eq_nil_iff.2 fun y hy e2 => hn (mem_keys.2 ⟨y, hy, by simpa using e2⟩)
/-- the row of marks within a round -/
def doneTo (f : Pt → List Lb) (l : List Pt) (i j : Nat) : List Bool := (doneL f l (i + 1)).take j ++ (doneL f l i).drop j
theorem doneTo_len (f : Pt → List Lb) (l : List Pt) (i : Nat) {j : Nat} (h : j ≤ l.length) : (doneTo f l i j).length = l.length := by
  unfold doneTo
  rw [List.length_append, List.length_take, List.length_drop, doneL_len, doneL_len]
  omega
theorem doneTo_end (f : Pt → List Lb) (l : List Pt) (i : Nat) : doneTo f l i l.length = doneL f l (i + 1) := by
  unfold doneTo
  rw [List.take_of_length_le (by rw [doneL_len]; omega), List.drop_eq_nil_of_le (by rw [doneL_len]; omega), List.append_nil]
/-- at the round's begin: what stands before i is done already -/
theorem doneTo_0 {f : Pt → List Lb} {l : List Pt} {i : Nat} (h : i ≤ l.length) : doneTo f l i i = doneL f l i := by
  have key : ∀ m, i ≤ m → (doneL f l m).take i = List.replicate i true := fun m hm => by
    apply List.ext_getElem?
    intro j
    by_cases hj : j < i
    · rw [List.getElem?_take_of_lt hj, doneL_at (by omega), List.getElem?_replicate, if_pos hj]
      congr 1
      refine memB_iff.2 (mem_keys.2 ⟨l[j], ?_, rfl⟩)
      exact List.mem_take_iff_getElem.2 ⟨j, by omega, rfl⟩
    · rw [List.getElem?_eq_none (by rw [List.length_take, doneL_len]; omega), List.getElem?_eq_none (by simp; omega)]
  unfold doneTo
  rw [key (i + 1) (by omega), ← key i (Nat.le_refl _), List.take_append_drop]
theorem doneTo_s {f : Pt → List Lb} {l : List Pt} {i j : Nat} (hj : j < l.length) : doneTo f l i (j + 1) = (doneTo f l i j).set j (memB (keysP f (l.take (i + 1))) (f l[j])) := by
  apply List.ext_getElem?
  intro m
  unfold doneTo
  have l1 := doneL_len f l (i + 1)
  have l2 := doneL_len f l i
  have at1 : (doneL f l (i + 1))[j]? = some (memB (keysP f (l.take (i + 1))) (f l[j])) := doneL_at hj
  rw [List.getElem?_set, List.length_append, List.length_take, List.length_drop, l1, l2]
  by_cases e : j = m
  · subst e
    rw [if_pos rfl, if_pos (by omega), List.getElem?_append_left (by rw [List.length_take]; omega), List.getElem?_take_of_lt (by omega), at1]
  · rw [if_neg e]
    by_cases h1 : m < j
    · rw [List.getElem?_append_left (by rw [List.length_take]; omega), List.getElem?_append_left (by rw [List.length_take]; omega), List.getElem?_take_of_lt (by omega), List.getElem?_take_of_lt h1]
    · rw [List.getElem?_append_right (by rw [List.length_take]; omega), List.getElem?_append_right (by rw [List.length_take]; omega), List.length_take, List.length_take, List.getElem?_drop, List.getElem?_drop]
      congr 1
      omega
theorem memG_take_s {f : Pt → List Lb} {x : List Lb} {l : List Pt} {j : Nat} (h : j < l.length) : memG f x (l.take (j + 1)) = if f l[j] = x then memG f x (l.take j) ++ [l[j]] else memG f x (l.take j) := by
  rw [List.take_succ_eq_append_getElem h]
  by_cases e : f l[j] = x
  · rw [if_pos e, memG_same e]
  · rw [if_neg e, memG_other e]
/-- the groups that are out before the i-th point -/
def outTo (op : Int) (f : Pt → List Lb) (k : Nat) (l : List Pt) (i : Nat) : List Pt := ((keysP f (l.take i)).map fun x => (x, memG f x l)).flatMap (outG op k)
theorem outTo_0 (op : Int) (f : Pt → List Lb) (k : Nat) (l : List Pt) : outTo op f k l 0 = [] := rfl
theorem outTo_end (op : Int) (f : Pt → List Lb) (k : Nat) (l : List Pt) : outTo op f k l l.length = aggP op f k l := by
  unfold outTo aggP grpsP
  rw [List.take_length]
theorem outTo_in {op : Int} {f : Pt → List Lb} {k : Nat} {l : List Pt} {i : Nat} (h : i < l.length) (g : memB (keysP f (l.take i)) (f l[i]) = true) : outTo op f k l (i + 1) = outTo op f k l i := by
  unfold outTo
  rw [(done_in h g).1]
theorem outTo_out {op : Int} {f : Pt → List Lb} {k : Nat} {l : List Pt} {i : Nat} (h : i < l.length) (g : memB (keysP f (l.take i)) (f l[i]) = false) : outTo op f k l (i + 1) = outTo op f k l i ++ outG op k (f l[i], memG f (f l[i]) l) := by
  unfold outTo
  rw [(done_out h g).1, List.map_append, List.flatMap_append]
  simp
end Go.Proofs.YtllhkegefinlbaaGreatDoor.Pt
namespace Go.Proofs.YtllhkegefinlbaaGreatDoor.Gs
open Go.RowKit Go.Sort
set_option maxRecDepth 100000
variable {tp : Bool} {ca : Nat}
set_option maxHeartbeats 2000000

/-- of what was there block b alone may have changed -/
abbrev Only (w w' : World) (b : Nat) : Prop := w.grownBy w' (some b)
theorem Only.refl (w : World) (b : Nat) : Only w w b := ⟨rfl, rfl, rfl, Nat.le_refl _, fun _ _ _ => rfl⟩
theorem Only.trans {a w w' : World} {b : Nat} (h : Only a w b) (g : Only w w' b) : Only a w' b :=
  ⟨g.os.trans h.os, g.tape.trans h.tape, g.output.trans h.output, Nat.le_trans h.size g.size, fun i hi hne => (g.block i (Nat.lt_of_lt_of_le hi h.size) hne).trans (h.block i hi hne)⟩
theorem Only.setCell {a w : World} {b : Nat} (h : Only a w b) {p : Addr} (hp : p.block = b) (u : Value) : Only a (w.setCell p u) b :=
  ⟨h.os, h.tape, h.output, by simpa [World.setCell] using h.size, fun i hi hne => (Below.heap_setCell w p u i (by
    rintro rfl
    exact hne (by rw [hp]))).trans (h.block i hi hne)⟩
theorem Only.gr {a w w' : World} {b : Nat} (h : Only a w b) (g : Gr w w') : Only a w' b :=
  ⟨g.b.os.trans h.os, g.b.tape.trans h.tape, g.b.output.trans h.output, Nat.le_trans h.size g.b.size, fun i hi hne => (g.b.block i (Nat.lt_of_lt_of_le hi h.size)).trans (h.block i hi hne)⟩
theorem Only.drewN {a w : World} {b : Nat} (h : Only a w b) (n : Nat) : Only a (w.drewN n) b := ⟨h.os, h.tape, h.output, h.size, h.block⟩
def encP (x : Po tp) : List Value := [.slice x.sa x.sn x.sc, .float .f64 x.fb]
/-- a row of samples that may be written -/
def RowP (W : World) (b o : Nat) (l : List (Po tp)) : Prop :=
  ∀ i x, l[i]? = some x → (W.cell? ⟨b, o + i * 2, none⟩ = some (.slice x.sa x.sn x.sc) ∧ W.frozen? ⟨b, o + i * 2, none⟩ = false) ∧ W.cell? ⟨b, o + i * 2 + 1, none⟩ = some (.float .f64 x.fb) ∧ W.frozen? ⟨b, o + i * 2 + 1, none⟩ = false
theorem flatP_get (l : List (Po tp)) (i : Nat) (x : Po tp) (h : l[i]? = some x) : (flatK encP 2 l.toArray)[i * 2]! = .slice x.sa x.sn x.sc ∧ (flatK encP 2 l.toArray)[i * 2 + 1]! = .float .f64 x.fb := by
  obtain ⟨hi, rfl⟩ := List.getElem?_eq_some_iff.1 h
  have hg : l.toArray[i]! = l[i] := by simp [getElem!_pos, hi]
  refine ⟨?_, ?_⟩
  · rw [get_flatK _ _ _ _ (by simp; omega), show i * 2 / 2 = i by omega, show i * 2 % 2 = 0 by omega, hg]; rfl
  · rw [get_flatK _ _ _ _ (by simp; omega), show (i * 2 + 1) / 2 = i by omega, show (i * 2 + 1) % 2 = 1 by omega, hg]; rfl
theorem RowP.holds {W : World} {b o : Nat} {l : List (Po tp)} (h : RowP W b o l) : HoldsK encP 2 W b o l.toArray := by
  intro j hj
  have hj' : j < l.length * 2 := by simpa using hj
  have hi : j / 2 < l.length := by omega
  have hx := List.getElem?_eq_getElem hi
  obtain ⟨⟨c1, f1⟩, c2, f2⟩ := h _ _ hx
  obtain ⟨g1, g2⟩ := flatP_get l _ _ hx
  rcases Nat.mod_two_eq_zero_or_one j with e | e
  · have e2 : j / 2 * 2 = j := by omega
    rw [e2] at c1 f1 g1
    exact ⟨by rw [g1]; exact c1, f1⟩
  · have e2 : j / 2 * 2 + 1 = j := by omega
    rw [Nat.add_assoc, e2] at c2 f2
    rw [e2] at g2
    exact ⟨by rw [g2]; exact c2, f2⟩
theorem RowP.of_holds {W : World} {b o : Nat} {l : List (Po tp)} (h : HoldsK encP 2 W b o l.toArray) : RowP W b o l := by
  intro i x hx
  obtain ⟨hi, rfl⟩ := List.getElem?_eq_some_iff.1 hx
  obtain ⟨g1, g2⟩ := flatP_get l _ _ hx
  have h1 := h (i * 2) (by simp; omega)
  have h2 := h (i * 2 + 1) (by simp; omega)
  simp only [id] at h1 h2
  rw [g1] at h1
  rw [g2] at h2
  exact ⟨h1, h2⟩
theorem RowP.cell {W : World} {b o : Nat} {l : List (Po tp)} (h : RowP W b o l) {k : Nat} (hk : k < l.length) :
    W.cell? ⟨b, o + k * 2, none⟩ = some (.slice (l[k]).sa (l[k]).sn (l[k]).sc) ∧ W.cell? ⟨b, o + k * 2 + 1, none⟩ = some (.float .f64 (l[k]).fb) ∧ W.frozen? ⟨b, o + k * 2, none⟩ = false ∧ W.frozen? ⟨b, o + k * 2 + 1, none⟩ = false := by
  obtain ⟨⟨c1, f1⟩, c2, f2⟩ := h k _ (List.getElem?_eq_getElem hk)
  exact ⟨c1, c2, f1, f2⟩
theorem RowP.far {W W' : World} {b o : Nat} {l : List (Po tp)} (h : RowP W b o l) {row : Option Nat} (g : W.grownBy W' row) (hne : some b ≠ row) : RowP W' b o l := by
  intro i x hx
  obtain ⟨⟨c1, f1⟩, c2, f2⟩ := h i x hx
  have hb : W'.heap[b]? = W.heap[b]? := g.block b (World.block_lt_of_cell? W _ c1) hne
  exact ⟨⟨(World.cell?_of_block (a := ⟨b, _, none⟩) hb).trans c1, (World.frozen?_of_block (a := ⟨b, _, none⟩) hb).trans f1⟩, (World.cell?_of_block (a := ⟨b, _, none⟩) hb).trans c2, (World.frozen?_of_block (a := ⟨b, _, none⟩) hb).trans f2⟩
theorem RowP.gr {W W' : World} {b o : Nat} {l : List (Po tp)} (h : RowP W b o l) (g : Gr W W') : RowP W' b o l :=
  h.far (row := none) ⟨g.b.os, g.b.tape, g.b.output, g.b.size, fun k hk _ => g.b.block k hk⟩ (by simp)
theorem RowP.lt {W : World} {b o : Nat} {l : List (Po tp)} (h : RowP W b o l) (h0 : 0 < l.length) : b < W.heap.size := World.block_lt_of_cell? W _ (h 0 _ (List.getElem?_eq_getElem h0)).1.1
theorem RowP.store {W : World} {b o : Nat} {l : List (Po tp)} (h : RowP W b o l) {k : Nat} (hk : k < l.length) (x : Po tp) :
    RowP ((W.setCell ⟨b, o + k * 2, none⟩ (.slice x.sa x.sn x.sc)).setCell ⟨b, o + k * 2 + 1, none⟩ (.float .f64 x.fb)) b o (l.set k x) := by
  intro i y hy
  obtain ⟨c1, c2, f1, f2⟩ := h.cell hk
  have hi : i < l.length := by have := (List.getElem?_eq_some_iff.1 hy).1; simpa using this
  obtain ⟨d1, d2, g1, g2⟩ := h.cell hi
  have hf : ∀ a, ((W.setCell ⟨b, o + k * 2, none⟩ (.slice x.sa x.sn x.sc)).setCell ⟨b, o + k * 2 + 1, none⟩ (.float .f64 x.fb)).frozen? a = W.frozen? a := fun a => by
    rw [World.frozen?_setCell, World.frozen?_setCell]
  rw [hf, hf]
  refine ⟨⟨?_, g1⟩, ?_, g2⟩
  all_goals by_cases e : k = i
  · subst e
    obtain rfl : x = y := by simpa [hk] using hy
    rw [World.cell?_setCell_other _ _ _ _ (by simp)]
    exact World.cell?_setCell_same _ _ _ c1
  · rw [World.cell?_setCell_other _ _ _ _ (by simp; first | done | omega), World.cell?_setCell_other _ _ _ _ (by simp; first | done | omega)]
    rw [List.getElem?_set, if_neg e, List.getElem?_eq_getElem hi] at hy
    cases hy; exact d1
  · subst e
    obtain rfl : x = y := by simpa [hk] using hy
    have : (W.setCell ⟨b, o + k * 2, none⟩ (.slice x.sa x.sn x.sc)).cell? ⟨b, o + k * 2 + 1, none⟩ = some (.float .f64 (l[k]).fb) := by
      rw [World.cell?_setCell_other _ _ _ _ (by simp)]; exact c2
    exact World.cell?_setCell_same _ _ _ this
  · rw [World.cell?_setCell_other _ _ _ _ (by simp; first | done | omega), World.cell?_setCell_other _ _ _ _ (by simp; first | done | omega)]
    rw [List.getElem?_set, if_neg e, List.getElem?_eq_getElem hi] at hy
    cases hy; exact d2
/-- two change places -/
def swp2 (l : List (Po tp)) (p q : Nat) : List (Po tp) := match l[p]?, l[q]? with
  | some x, some y => (l.set p y).set q x
  | _, _ => l
theorem swp2_len (l : List (Po tp)) (p q : Nat) : (swp2 l p q).length = l.length := by
  unfold swp2; split <;> simp
theorem swp2_eq {l : List (Po tp)} {p q : Nat} (hp : p < l.length) (hq : q < l.length) : swp2 l p q = (l.set p l[q]).set q l[p] := by
  unfold swp2; rw [List.getElem?_eq_getElem hp, List.getElem?_eq_getElem hq]
theorem swp2_get {l : List (Po tp)} {p q : Nat} (hp : p < l.length) (hq : q < l.length) (t : Nat) : (swp2 l p q)[t]? = if t = q then l[p]? else if t = p then l[q]? else l[t]? := by
  rw [swp2_eq hp hq, List.getElem?_set, List.getElem?_set, List.length_set]
  by_cases h1 : q = t
  · subst h1; simp [hq, List.getElem?_eq_getElem hp]
  · rw [if_neg h1, if_neg (Ne.symm h1)]
    by_cases h2 : p = t
    · subst h2; simp [hp, List.getElem?_eq_getElem hq]
    · rw [if_neg h2, if_neg (Ne.symm h2)]
theorem RowP.swap {W : World} {b o : Nat} {l : List (Po tp)} (h : RowP W b o l) {p q : Nat} (hp : p < l.length) (hq : q < l.length) :
    RowP ((((W.setCell ⟨b, o + p * 2, none⟩ (.slice (l[q]).sa (l[q]).sn (l[q]).sc)).setCell ⟨b, o + p * 2 + 1, none⟩ (.float .f64 (l[q]).fb)).setCell ⟨b, o + q * 2, none⟩ (.slice (l[p]).sa (l[p]).sn (l[p]).sc)).setCell ⟨b, o + q * 2 + 1, none⟩ (.float .f64 (l[p]).fb)) b o (swp2 l p q) := by
  rw [swp2_eq hp hq]
  exact (h.store hp l[q]).store (by simpa using hq) l[p]
/-- n, one by one -/
def swpR (a b : Nat) : Nat → List (Po tp) → List (Po tp)
  | 0, l => l
  | n + 1, l => swp2 (swpR a b n l) (a + n) (b + n)
theorem swpR_len (a b : Nat) : ∀ (n : Nat) (l : List (Po tp)), (swpR a b n l).length = l.length
  | 0, _ => rfl
  | n + 1, l => by unfold swpR; rw [swp2_len, swpR_len a b n l]
theorem swpR_get {a b : Nat} : ∀ {n : Nat} {l : List (Po tp)}, a + n ≤ b → b + n ≤ l.length → ∀ t, (swpR a b n l)[t]? = if a ≤ t ∧ t < a + n then l[t - a + b]? else if b ≤ t ∧ t < b + n then l[t - b + a]? else l[t]?
  | 0, l, _, _, t => by
    rw [if_neg (by omega), if_neg (by omega)]; rfl
  | n + 1, l, h1, h2, t => by
    have ih := fun t => swpR_get (n := n) (l := l) (by omega : a + n ≤ b) (by omega) t
    unfold swpR
    rw [swp2_get (by rw [swpR_len]; omega) (by rw [swpR_len]; omega), ih, ih, ih]
    by_cases e1 : t = b + n
    · subst e1
      rw [if_pos rfl, if_neg (by omega), if_neg (by omega), if_neg (by omega), if_pos (by omega), show b + n - b + a = a + n by omega]
    · rw [if_neg e1]
      by_cases e2 : t = a + n
      · subst e2
        rw [if_pos rfl, if_neg (by omega), if_neg (by omega), if_pos (by omega), show a + n - a + b = b + n by omega]
      · rw [if_neg e2]
        by_cases e3 : a ≤ t ∧ t < a + n
        · rw [if_pos e3, if_pos (by omega)]
        · rw [if_neg e3, if_neg (c := a ≤ t ∧ t < a + (n + 1)) (by omega)]
          by_cases e4 : b ≤ t ∧ t < b + n
          · rw [if_pos e4, if_pos (by omega)]
          · rw [if_neg e4, if_neg (by omega)]
/-- two parts of one length change places -/
theorem swpR_parts (P X M Y S : List (Po tp)) (h : X.length = Y.length) : swpR P.length (P.length + X.length + M.length) X.length (P ++ (X ++ (M ++ (Y ++ S)))) = P ++ (Y ++ (M ++ (X ++ S))) := by
  apply List.ext_getElem?
  intro t
  rw [swpR_get (by omega) (by simp; omega)]
  simp only [List.getElem?_append]
  grind
/-- neighbours -/
theorem swp2_next (A : List (Po tp)) (x y : Po tp) (C : List (Po tp)) : swp2 (A ++ x :: y :: C) A.length (A.length + 1) = A ++ y :: x :: C := by
  have := swpR_parts A [x] [] [y] C rfl
  simpa [swpR] using this
theorem swp2_comm {l : List (Po tp)} {p q : Nat} (hp : p < l.length) (hq : q < l.length) : swp2 l p q = swp2 l q p := by
  apply List.ext_getElem?
  intro t
  rw [swp2_get hp hq, swp2_get hq hp]
  by_cases h1 : t = q
  · subst h1
    by_cases h2 : t = p
    · subst h2; rfl
    · rw [if_pos rfl, if_neg h2, if_pos rfl]
  · rw [if_neg h1]
    by_cases h2 : t = p
    · rw [if_pos h2, if_pos h2]
    · rw [if_neg h2, if_neg h2, if_neg h1]
theorem swp2_back (A : List (Po tp)) (x y : Po tp) (C : List (Po tp)) : swp2 (A ++ x :: y :: C) (A.length + 1) A.length = A ++ y :: x :: C := by
  rw [swp2_comm (by simp) (by simp), swp2_next]
end Go.Proofs.YtllhkegefinlbaaGreatDoor.Gs
