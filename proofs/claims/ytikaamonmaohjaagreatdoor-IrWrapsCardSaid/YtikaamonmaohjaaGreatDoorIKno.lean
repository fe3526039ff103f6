/- known()'s memory ahead of its calls. -/
import Derived.Test.YtikaamonmaohjaaGreatDoorICk
import Derived.Test.YtikaamonmaohjaaGreatDoorIBud
import Derived.Test.YtikaamonmaohjaaGreatDoorIEach
namespace Go.Proofs.YtikaamonmaohjaaGreatDoor.Ir
open Go.RowKit Go.Shelf
set_option maxRecDepth 100000
set_option maxHeartbeats 1000000

def dMap : Nf := { d0 with k := 6, fn := 1 }
def dAgg : Nf := { d0 with k := 8, fn := 1 }
def dLab : Nf := { d0 with k := 11, name := ⟨#[97]⟩, value := ⟨#[49]⟩ }
def IsW (d : Nf) : Prop := d = dMap ∨ d = dAgg ∨ d = dLab
/-- so often wrapped -/
inductive WrapOf (t : Tr) : Nat → Tr → Prop where
  | nil : WrapOf t 0 t
  | cons {n : Nat} {x : Tr} {d : Nf} (h : WrapOf t n x) (hd : IsW d) : WrapOf t (n + 1) (.mk d [x])
theorem errW {d : Nf} (h : IsW d) : errN d 1 = 0 := by rcases h with rfl | rfl | rfl <;> kernel_rfl
theorem tyW {d : Nf} (h : IsW d) : tyN d [2] = 2 := by rcases h with rfl | rfl | rfl <;> kernel_rfl
theorem subW {d : Nf} (h : IsW d) (p : Int) : subP d p = p := by
  unfold subP isSub
  rcases h with rfl | rfl | rfl <;> rfl
theorem okW {d : Nf} (h : IsW d) : OkD d 1 := by
  rcases h with rfl | rfl | rfl <;> exact ⟨by decide, by decide, by decide, by decide, by decide⟩
theorem wrap_facts {t x : Tr} {n : Nat} (h : WrapOf t n x) (hc : ckT t = .ok 2) (ho : OkT t) : ckT x = .ok 2 ∧ cnt x = cnt t + n ∧ dep x = dep t + n ∧ (fit t 1 = true → fit x 1 = true) ∧ OkT x := by
  induction h with
  | nil => exact ⟨hc, rfl, rfl, id, ho⟩
  | cons h hd ih =>
    obtain ⟨h1, h2, h3, h4, h5⟩ := ih
    refine ⟨?_, ?_, ?_, fun hf => ?_, ?_⟩
    · rw [ckT, ckK, h1, ckK]
      simp only [List.length_cons, List.length_nil, Nat.zero_add]
      rw [if_neg (by rw [errW hd]; simp), tyW hd]
      rfl
    · rw [cnt, cnts, cnts, h2]; omega
    · rw [dep, deps, deps, h3]; omega
    · rw [fit, fits, fits, subW hd, h4 hf]; rfl
    · rw [OkT, OkK, OkK]
      exact ⟨okW hd, h5, trivial⟩
/-- the world without what lies in block X -/
def blank (W : World) (X : Nat) : World := W.putObj X (.deferred none)
/-- all blocks but X lie as they lay -/
structure AgX (X : Nat) (W W' : World) : Prop where
  s : W.heap.size ≤ W'.heap.size
  b : ∀ b, b < W.heap.size → b ≠ X → W'.heap[b]? = W.heap[b]?
theorem blank_cell {W : World} {X b o : Nat} {v : Value} (hX : X < W.heap.size) (h : (blank W X).cell? ⟨b, o, none⟩ = some v) : b ≠ X ∧ W.cell? ⟨b, o, none⟩ = some v := by
  have hne : b ≠ X := fun e => by
    subst e
    have : (blank W b).heap[b]? = some (.deferred none) := World.putObj_heap_same hX
    unfold World.cell? at h
    rw [this] at h
    cases h
  exact ⟨hne, (World.cell?_of_block (a := ⟨b, o, none⟩) (World.putObj_heap_other (fun e => hne (by first | exact e | exact e.symm)))).symm.trans h⟩
theorem cm_blank {W W' : World} {X : Nat} (g : AgX X W W') (hX : X < W.heap.size) : Cm (blank W X) (blank W' X) := fun b o v h => by
  obtain ⟨hne, hc⟩ := blank_cell hX h
  have hb := World.block_lt_of_cell? W _ hc
  have h1 : W'.cell? ⟨b, o, none⟩ = some v := (World.cell?_of_block (a := ⟨b, o, none⟩) (g.b b hb hne)).trans hc
  exact (World.cell?_of_block (a := ⟨b, o, none⟩) (World.putObj_heap_other (fun e => hne (by first | exact e | exact e.symm)))).trans h1
theorem cm_unblank {W : World} {X : Nat} (hX : X < W.heap.size) : Cm (blank W X) W := fun _ _ _ h => (blank_cell hX h).2
theorem Gr.agX {W W' : World} (g : Gr W W') (X : Nat) : AgX X W W' := ⟨g.size, fun b hb _ => g.b.block b hb⟩
theorem AgX.trans {X : Nat} {A B C : World} (h : AgX X A B) (k : AgX X B C) : AgX X A C := ⟨Nat.le_trans h.s k.s, fun b hb hne => (k.b b (Nat.lt_of_lt_of_le hb h.s) hne).trans (h.b b hb hne)⟩
/-- a plan in a box of its own that turns round by round -/
structure WrI (w : World) (X : Nat) (t : Tr) (p : Np) (W : World) : Prop where
  g : Gr w W
  x : w.heap.size ≤ X
  box : W.heap[X]? = some (.cells (nV t.d p t.ks.length).toArray 31 (0, 0))
  tr : TrP (blank W X) t p
theorem WrI.lt {w W : World} {X : Nat} {t : Tr} {p : Np} (h : WrI w X t p W) : X < W.heap.size := (Array.getElem?_eq_some_iff.1 h.box).1
theorem WrI.real {w W : World} {X : Nat} {t : Tr} {p : Np} (h : WrI w X t p W) : TrP W t p := TrP.cm (cm_unblank h.lt) t p h.tr
theorem WrI.gr {w W W' : World} {X : Nat} {t : Tr} {p : Np} (h : WrI w X t p W) (g : Gr W W') : WrI w X t p W' := ⟨h.g.trans g, h.x, heap_gr g h.box, TrP.cm (cm_blank (Gr.agX g X) h.lt) t p h.tr⟩
/-- a new box -/
theorem WrI.new {w W : World} {t : Tr} {p : Np} (hg : Gr w W) (h : TrP W t p) : WrI w W.heap.size t p (W.alloc (.cells (nV t.d p t.ks.length).toArray 31)) := by
  refine ⟨hg.alloc _ _, hg.size, World.alloc_heap_new _ _, TrP.cm (fun b o v hc => ?_) t p h⟩
  have hb := World.block_lt_of_cell? W _ hc
  have hne : b ≠ W.heap.size := by show _ ≠ _; exact Nat.ne_of_lt hb
  have h1 : (W.alloc (.cells (nV t.d p t.ks.length).toArray 31)).cell? ⟨b, o, none⟩ = some v := ((Gr.refl W).alloc _ _).cell hc
  exact (World.cell?_of_block (a := ⟨b, o, none⟩) (World.putObj_heap_other (fun e => hne (by first | exact e | exact e.symm)))).trans h1
/-- the wrap's own parts -/
def pWr (Z : Nat) : Np := { pNil with kA := some ⟨Z, 0, none⟩, kC := 1 }
theorem nb_wr {d : Nf} (h : IsW d) (Z : Nat) : Nb d (pWr Z) 1 := by
  rcases h with rfl | rfl | rfl
  all_goals
    constructor
    all_goals first
      | exact Nat.zero_le _
      | (intro x hx; cases hx)
      | (show (1 : Nat) ≤ 1; decide)
      | (show (0 : Nat) ≤ 9223372036854775807; decide)
      | (show (1 : Nat) ≤ 9223372036854775807; decide)
      | exact ⟨by decide, by decide⟩
      | (unfold maxLen; decide)
/-- the round: the plan that was is the kid of a new one -/
theorem WrI.next {w W F : World} {X Z : Nat} {t : Tr} {p : Np} {d : Nf} (h : WrI w X t p W) (hd : IsW d) (g : AgX X W F) (hgF : Gr w F) (hZ : F.heap[Z]? = some (.cells (nV t.d p t.ks.length).toArray 31 (0, 0))) (hZX : Z ≠ X)
    (hb : F.heap[X]? = some (.cells (nV d (pWr Z) 1).toArray 31 (0, 0))) : WrI w X (.mk d [t]) (pWr Z) F := by
  refine ⟨hgF, h.x, hb, ?_⟩
  unfold TrP
  refine ⟨⟨nb_wr hd Z, ?_, ?_, ?_, ?_⟩, fun _ => ⟨Z, 0, rfl, ?_⟩⟩
  · rcases hd with rfl | rfl | rfl <;> exact fun h => absurd h (by decide)
  · rcases hd with rfl | rfl | rfl <;> exact fun h => absurd h (by decide)
  · rcases hd with rfl | rfl | rfl <;> exact fun h => absurd h (by decide)
  · rcases hd with rfl | rfl | rfl <;> exact fun h => absurd h (by decide)
  · unfold KidsAt
    refine ⟨⟨p, box_cells (T := 31) ?_, TrP.cm (cm_blank g h.lt) t p h.tr⟩, by unfold KidsAt; trivial⟩
    exact (World.putObj_heap_other (fun e => hZX (by first | exact e | exact e.symm))).trans hZ
theorem build_fold (d : Nf) (p : Np) (nk : Nat) : List.foldl (fun (cs : Array Value) (x : Value × Nat) => cs.setIfInBounds x.snd x.fst)
    #[Value.int IntKind.i64 0, Value.float FloatKind.f64 0, Value.int IntKind.i64 0, Value.slice none 0 0, Value.int IntKind.i64 0, Value.int IntKind.i64 0, Value.int IntKind.i64 0, Value.int IntKind.i64 0, Value.slice none 0 0, Value.int IntKind.i64 0, Value.slice none 0 0, Value.int IntKind.i64 0, Value.slice none 0 0, Value.bool false, Value.string { data := #[] }, Value.string { data := #[] }, Value.slice none 0 0]
    (nV d p nk).zipIdx = (nV d p nk).toArray := by
  unfold nV
  simp [List.zipIdx_cons]
theorem setRow_other (W : World) {g b : Nat} (cs : Array Value) (h : b ≠ g) : (W.setRow g cs).heap[b]? = W.heap[b]? := by
  simp only [World.setRow]
  rw [Array.getElem?_modify, if_neg (fun e => h e.symm)]
theorem setRow_same {W : World} {g : Nat} {old : Array Value} {T : TypeId} (cs : Array Value) (h : W.heap[g]? = some (.cells old T (0, 0))) : (W.setRow g cs).heap[g]? = some (.cells cs T (0, 0)) := by
  simp only [World.setRow]
  rw [Array.getElem?_modify, if_pos rfl, h]
  rfl
theorem setRow_size (W : World) (g : Nat) (cs : Array Value) : (W.setRow g cs).heap.size = W.heap.size := by simp [World.setRow]
theorem Gr.setRow {w W : World} (h : Gr w W) {g : Nat} (hg : w.heap.size ≤ g) (cs : Array Value) : Gr w (W.setRow g cs) :=
  ⟨⟨h.b.os, h.b.tape, h.b.output, by rw [setRow_size]; exact h.b.size, fun b hb => (setRow_other W cs (by omega)).trans (h.b.block b hb)⟩⟩
/-- all of a round's steps on memory: a new box Y with the wrap, a new row Z with the plan that was, the box X anew -/
theorem round_mem {w wr Wy Wz Wv F : World} {X Y Z : Nat} {t : Tr} {p : Np} {d : Nf} (h : WrI w X t p wr) (hd : IsW d) (gy : Gr wr Wy) (hYe : wr.heap.size = Y) (hY : Wy.heap[Y]? = some (.cells (nV d pNil 0).toArray 31 (0, 0)))
    (hz : Wy.alloc (.cells (nV t.d p t.ks.length).toArray 31) = Wz) (hZ : Wy.heap.size = Z) (hv : Wz.setCell ⟨Y, 16, none⟩ (.slice (some ⟨Z, 0, none⟩) 1 1) = Wv) :
    Wv.heap[Y]? = some (.cells (nV d (pWr Z) 1).toArray 31 (0, 0)) ∧ Wv.heap[X]? = some (.cells (nV t.d p t.ks.length).toArray 31 (0, 0)) ∧
    (Wv.setRow X (nV d (pWr Z) 1).toArray = F → WrI w X (.mk d [t]) (pWr Z) F ∧ AgX X wr F) := by
  have hXl := h.lt
  have gz : Gr Wy Wz := by rw [← hz]; exact (Gr.refl _).alloc _ _
  have hYl : Y < Wy.heap.size := (Array.getElem?_eq_some_iff.1 hY).1
  have hYz := heap_gr gz hY
  have hZz : Wz.heap[Z]? = some (.cells (nV t.d p t.ks.length).toArray 31 (0, 0)) := by rw [← hz, ← hZ]; exact World.alloc_heap_new _ _
  have hXz := heap_gr gz (heap_gr gy h.box)
  have hYv : Wv.heap[Y]? = some (.cells (nV d (pWr Z) 1).toArray 31 (0, 0)) := by
    rw [← hv]
    have := heap_setCell_same Wz Y 16 _ _ (.slice (some ⟨Z, 0, none⟩) 1 1) hYz
    rw [this]; rfl
  have hXv : Wv.heap[X]? = some (.cells (nV t.d p t.ks.length).toArray 31 (0, 0)) := by
    rw [← hv]; exact (Below.heap_setCell _ _ _ _ (by show X ≠ Y; omega)).trans hXz
  have hZv : Wv.heap[Z]? = some (.cells (nV t.d p t.ks.length).toArray 31 (0, 0)) := by
    rw [← hv]; exact (Below.heap_setCell _ _ _ _ (by show Z ≠ Y; omega)).trans hZz
  refine ⟨hYv, hXv, fun hF => ?_⟩
  have hyl := gy.size
  have hzl := gz.size
  have gF : AgX X wr F := by
    rw [← hF, ← hv]
    refine ⟨?_, fun b hb hne => ?_⟩
    · rw [setRow_size]; simp only [World.setCell, Array.size_modify]; omega
    · rw [setRow_other _ _ hne, Below.heap_setCell _ _ _ _ (by show b ≠ Y; omega)]
      exact (gz.b.block b (by omega)).trans (gy.b.block b hb)
  have gW : Gr w F := by
    rw [← hF, ← hv]
    exact Gr.setRow ((((h.g.trans gy).trans gz)).setCell (by show w.heap.size ≤ Y; have := h.g.size; omega) _) h.x _
  refine ⟨h.next hd gF gW ?_ (by omega) ?_, gF⟩
  · rw [← hF, setRow_other _ _ (by omega)]; exact hZv
  · rw [← hF]; exact setRow_same _ hXv
end Go.Proofs.YtikaamonmaohjaaGreatDoor.Ir
namespace Go.Proofs.YtikaamonmaohjaaGreatDoor.Ir
open Go.RowKit Go.Shelf
set_option maxRecDepth 100000
set_option maxHeartbeats 1000000

/-- the plans that known() lays -/
def dWin : Nf := { d0 with k := 4, fn := 9, m := [⟨1, ⟨#[97]⟩, ⟨#[49]⟩⟩], rg := 60000 }
def dTim : Nf := { d0 with k := 2 }
def tWin : Tr := .mk dWin []
def tTim : Tr := .mk dTim []
def tN : Tr := .mk dAgg [tWin]
def tT : Tr := .mk dAgg [tTim]
theorem cnt_tN : cnt tN = 2 := by rfl
theorem dep_tN : dep tN = 2 := by rfl
theorem chk_tN : chkV tN = (2, 0) := by
  unfold chkV limB
  kernel_rfl
theorem chk_tT : chkV tT = (0, 3) := by
  unfold chkV limB
  kernel_rfl
/-- the window's own parts: one matcher, at M -/
def pMt (M : Nat) : Np := { pNil with mA := some ⟨M, 0, none⟩, mC := 1 }
theorem nb_win (M : Nat) : Nb dWin (pMt M) 0 := by
  constructor
  all_goals first
    | exact Nat.zero_le _
    | (show (1 : Nat) ≤ 1; decide)
    | (show (1 : Nat) ≤ 9223372036854775807; decide)
    | exact ⟨by decide, by decide⟩
    | (intro x hx; cases hx; done)
    | (unfold maxLen; decide)
    | (intro x hx
       obtain rfl : x = ⟨1, ⟨#[97]⟩, ⟨#[49]⟩⟩ := by simpa [dWin] using hx
       exact ⟨by unfold maxLen; decide, by unfold maxLen; decide⟩)
    | (intro x hx
       obtain rfl : x = ⟨1, ⟨#[97]⟩, ⟨#[49]⟩⟩ := by simpa [dWin] using hx
       refine ⟨?_, ?_, ?_⟩ <;> first | (unfold maxLen; decide) | exact ⟨by decide, by decide⟩ | decide)
theorem nb_tim : Nb dTim pNil 0 := by
  constructor
  all_goals first
    | exact Nat.zero_le _
    | (intro x hx; cases hx; done)
    | exact ⟨by decide, by decide⟩
    | (unfold maxLen; decide)
theorem trp_win {W : World} {M : Nat} (h0 : W.cell? ⟨M, 0, none⟩ = some (.int .i64 1)) (h1 : W.cell? ⟨M, 1, none⟩ = some (.string ⟨#[97]⟩)) (h2 : W.cell? ⟨M, 2, none⟩ = some (.string ⟨#[49]⟩)) : TrP W tWin (pMt M) := by
  unfold tWin TrP
  refine ⟨⟨nb_win M, fun _ => ⟨M, 0, rfl, fun i x hx => ?_⟩, fun h => absurd h (by decide), fun h => absurd h (by decide), fun h => absurd h (by decide)⟩, fun h => absurd h (by decide)⟩
  match i, hx with
  | 0, hx => cases hx; exact ⟨h0, h1, h2⟩
  | n + 1, hx => cases hx
theorem trp_tim (W : World) : TrP W tTim pNil := by
  unfold tTim TrP
  exact ⟨⟨nb_tim, fun h => absurd h (by decide), fun h => absurd h (by decide), fun h => absurd h (by decide), fun h => absurd h (by decide)⟩, fun h => absurd h (by decide)⟩
theorem trp_one {W : World} {Z : Nat} {t : Tr} {p : Np} (h : TrP W t p) (hZ : CellsAt W Z 0 (nV t.d p t.ks.length)) : TrP W (.mk dAgg [t]) (pWr Z) := by
  unfold TrP
  refine ⟨⟨nb_wr (.inr (.inl rfl)) Z, fun h => absurd h (by decide), fun h => absurd h (by decide), fun h => absurd h (by decide), fun h => absurd h (by decide)⟩, fun _ => ⟨Z, 0, rfl, ?_⟩⟩
  unfold KidsAt
  exact ⟨⟨p, hZ, h⟩, by unfold KidsAt; trivial⟩
end Go.Proofs.YtikaamonmaohjaaGreatDoor.Ir
namespace Go.Proofs.YtikaamonmaohjaaGreatDoor.Ir
open Go.RowKit Go.Shelf Go.Sort
set_option maxRecDepth 100000
set_option maxHeartbeats 4000000

/-- a new box, stored into at once -/
theorem box_new {w W F : World} {T : TypeId} {a b : Array Value} (hW : w.alloc (.cells a T) = W) (hF : W.setRow w.heap.size b = F) : Gr w F ∧ F.heap[w.heap.size]? = some (.cells b T (0, 0)) ∧ F.heap.size = w.heap.size + 1 := by
  subst hW hF
  refine ⟨Gr.setRow ((Gr.refl w).alloc _ _) (Nat.le_refl _) _, setRow_same _ (World.alloc_heap_new _ _), ?_⟩
  rw [setRow_size]
  exact Array.size_push _
/-- the window, its matcher ahead of it -/
theorem kn_win {w W1 W2 F : World} (h1 : w.alloc (.cells #[.int .i64 1, .string ⟨#[97]⟩, .string ⟨#[49]⟩] 48) = W1) (h2 : W1.alloc (.cells (nV d0 pNil 0).toArray 31) = W2) (hF : W2.setRow (w.heap.size + 1) (nV dWin (pMt w.heap.size) 0).toArray = F) :
    Gr w F ∧ CellsAt F (w.heap.size + 1) 0 (nV dWin (pMt w.heap.size) 0) ∧ TrP F tWin (pMt w.heap.size) ∧ F.heap.size = w.heap.size + 2 := by
  have e1 : W1.heap.size = w.heap.size + 1 := by rw [← h1]; exact Array.size_push _
  have hM : W1.heap[w.heap.size]? = some (.cells #[.int .i64 1, .string ⟨#[97]⟩, .string ⟨#[49]⟩] 48 (0, 0)) := by rw [← h1]; exact World.alloc_heap_new _ _
  have g1 : Gr w W1 := by rw [← h1]; exact (Gr.refl w).alloc _ _
  rw [← e1] at hF ⊢
  obtain ⟨g, hb, hz⟩ := box_new h2 hF
  have hM' := heap_gr g hM
  exact ⟨g1.trans g, box_cells hb, trp_win (cell_of_row F _ 0 _ _ (0, 0) hM') (cell_of_row F _ 1 _ _ (0, 0) hM') (cell_of_row F _ 2 _ _ (0, 0) hM'), by omega⟩
/-- the sum over what lies in a box: a row of one node, a box -/
theorem kn_agg {w W1 W2 F : World} {t : Tr} {p : Np} (hT : TrP w t p) (h1 : w.alloc (.cells (nV t.d p t.ks.length).toArray 31) = W1) (h2 : W1.alloc (.cells (nV d0 pNil 0).toArray 31) = W2) (hF : W2.setRow (w.heap.size + 1) (nV dAgg (pWr w.heap.size) 1).toArray = F) :
    Gr w F ∧ CellsAt F (w.heap.size + 1) 0 (nV dAgg (pWr w.heap.size) 1) ∧ TrP F (.mk dAgg [t]) (pWr w.heap.size) ∧ F.heap.size = w.heap.size + 2 := by
  have e1 : W1.heap.size = w.heap.size + 1 := by rw [← h1]; exact Array.size_push _
  have hM : W1.heap[w.heap.size]? = some (.cells (nV t.d p t.ks.length).toArray 31 (0, 0)) := by rw [← h1]; exact World.alloc_heap_new _ _
  have g1 : Gr w W1 := by rw [← h1]; exact (Gr.refl w).alloc _ _
  rw [← e1] at hF ⊢
  obtain ⟨g, hb, hz⟩ := box_new h2 hF
  exact ⟨g1.trans g, box_cells hb, trp_one (TrP.gr (g1.trans g) t p hT) (box_cells (heap_gr g hM)), by omega⟩
theorem m_tN : ∀ x ∈ nodesT 1 tN, x.2.d.m.length ≤ 1000000 := fun x hx => by
  have h : (nodesT 1 tN).all (fun x => decide (x.2.d.m.length ≤ 1000000)) = true := by kernel_rfl
  exact of_decide_eq_true (List.all_eq_true.mp h x hx)
theorem m_tT : ∀ x ∈ nodesT 1 tT, x.2.d.m.length ≤ 1000000 := fun x hx => by
  have h : (nodesT 1 tT).all (fun x => decide (x.2.d.m.length ≤ 1000000)) = true := by kernel_rfl
  exact of_decide_eq_true (List.all_eq_true.mp h x hx)
end Go.Proofs.YtikaamonmaohjaaGreatDoor.Ir
