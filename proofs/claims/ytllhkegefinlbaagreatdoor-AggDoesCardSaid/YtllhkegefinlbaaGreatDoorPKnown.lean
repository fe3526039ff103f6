/- The laws' helpers: Few, Right, same, known. -/
import Derived.Test.YtllhkegefinlbaaGreatDoorPNorm
import Derived.Laws.Rows
import Derived.Laws.EntriesVeiled
import Derived.Test.YtllhkegefinlbaaGreatDoorPRNorm
namespace Go.Proofs.YtllhkegefinlbaaGreatDoor.Pt
open Go.RowKit Go.Sort
set_option maxRecDepth 100000
set_option maxHeartbeats 4000000
attribute [local irreducible] wpQuiet

/-- a function of values, as a closure -/
def ValC (W0 : World) (G : FuncId) (cb : Array Value) (f : Nat → Nat) : Prop := ∀ (W : World) (x : Nat), Gr W0 W → Calls Tryz.prog G (#[.float .f64 x] ++ cb) W fun e w' => e = .returned (.float .f64 (f x)) ∧ Gr W w'
/-- a point in fresh memory -/
def PtPost (p : Pt) (w : World) (e : Ending) (w' : World) : Prop :=
  ∃ A c, e = .returned (.agg #[.slice A p.1.length c, .float .f64 p.2]) ∧ LabsAt w' A p.1 ∧ Gr w w' ∧ (0 < p.1.length → ∀ b, (Value.slice A p.1.length c).ownBlock = some b → w.heap.size ≤ b)
/-- a function of points, as a closure -/
def Chg (W0 : World) (F : FuncId) (cb : Array Value) (f : Pt → Pt) : Prop := ∀ (W : World) (A : Option Addr) (c : Nat) (p : Pt), Gr W0 W → LabsAt W A p.1 → SmL p.1 → Calls Tryz.prog F (#[.agg #[.slice A p.1.length c, .float .f64 p.2]] ++ cb) W (PtPost (f p) W)
/-- without the metric's name -/
def nmP (g : Nat → Nat) (p : Pt) : Pt := (pickL p.1 [nmB] false, g p.2)
theorem pt_size : (Tryz.prog.info? 45).map (·.size) = some 2 := by kernel_rfl

theorem box2 {W : World} {b : Nat} {u v : Value} {T : TypeId} (h : W.heap[b]? = some (.cells #[u, v] T (0, 0))) (u' v' : Value) : ((W.setCell ⟨b, 0, none⟩ u').setCell ⟨b, 1, none⟩ v').heap[b]? = some (.cells #[u', v'] T (0, 0)) := by
  have h1 := heap_setCell_same W b 0 _ _ u' h
  have h2 := heap_setCell_same _ b 1 _ _ v' h1
  simpa using h2
theorem gset (W : World) (b i j : Nat) (u v : Value) : W.grownBy ((W.setCell ⟨b, i, none⟩ u).setCell ⟨b, j, none⟩ v) (some b) :=
  ⟨rfl, rfl, rfl, by simp [World.setCell], fun k _ hne => (Below.heap_setCell _ _ v k (by
    rintro rfl
    exact hne rfl)).trans (Below.heap_setCell W _ u k (by
    rintro rfl
    exact hne rfl))⟩
theorem labs_only {W W' : World} {A : Option Addr} {l : List Lb} {r : Nat} (h : LabsAt W A l) (g : W.grownBy W' (some r)) (hne : 0 < l.length → ∀ b o, A = some ⟨b, o, none⟩ → b ≠ r) : LabsAt W' A l := fun h0 => by
  obtain ⟨b, o, e, hc⟩ := h h0
  have := hne h0 b o e
  exact ⟨b, o, e, fun i y hy => ⟨g.cell (hc i y hy).1 (fun e => this (by injection e)), g.cell (hc i y hy).2 (fun e => this (by injection e))⟩⟩
/-- a point built in a block of the call's own -/
theorem pt_end {W W2 w4 w5 : World} {N : Nat} {A : Option Addr} {l : List Lb} {c : Nat} {y : Nat} (hN : W.heap.size = N) (hG : Gr W W2) (h4 : LabsAt w4 A l) (g4 : Gr W2 w4) (g5 : Gr w4 w5) (hz : N + 1 < W2.heap.size) (hf : 0 < l.length → ∀ b, (Value.slice A l.length c).ownBlock = some b → W2.heap.size ≤ b) :
    PtPost (l, y) W (.returned (.agg #[.slice A l.length c, .float .f64 y])) ((w5.setCell ⟨N + 1, 0, none⟩ (.slice A l.length c)).setCell ⟨N + 1, 1, none⟩ (.float .f64 y)) := by
  have gs := gset w5 (N + 1) 0 1 (.slice A l.length c) (.float .f64 y)
  refine ⟨A, c, rfl, labs_only (h4.gr g5) gs (fun h0 b o hb => ?_), ((hG.trans g4).trans g5).grown gs (fun k hk => by injection hk; omega), fun h0 b hb => ?_⟩
  · have := hf h0 b (by rw [hb]; rfl)
    omega
  · have := hf h0 b hb
    have := hG.size
    omega
end Go.Proofs.YtllhkegefinlbaaGreatDoor.Pt
namespace Go.Proofs.YtllhkegefinlbaaGreatDoor.Pt
open Go.RowKit Go.Sort
set_option maxRecDepth 100000
set_option maxHeartbeats 4000000
attribute [local irreducible] wpQuiet

end Go.Proofs.YtllhkegefinlbaaGreatDoor.Pt
/- nameless, Map, Label, the program's. -/
namespace Go.Proofs.YtllhkegefinlbaaGreatDoor.Pt
open Go.RowKit Go.Sort
set_option maxRecDepth 100000
set_option maxHeartbeats 4000000
attribute [local irreducible] wpQuiet

theorem SmL.pick {x : List Lb} (h : SmL x) (ns : List ByteArray) (am : Bool) : SmL (pickL x ns am) := ⟨by have := pickL_len x ns am; have := h.1; omega, pickL_wd h.2 ns am⟩
theorem SmP.map {l : List Pt} {f : Pt → Pt} (h : SmP l) (hf : ∀ p ∈ l, SmL (f p).1) : SmP (l.map f) := ⟨by have := h.1; simpa using this, fun p hp => by obtain ⟨q, hq, rfl⟩ := List.mem_map.1 hp; exact hf q hq⟩
theorem SmP.nm {l : List Pt} (h : SmP l) (g : Nat → Nat) : SmP (l.map (nmP g)) := h.map fun p hp => (h.2 p hp).pick _ _
/-! ### Map -/
end Go.Proofs.YtllhkegefinlbaaGreatDoor.Pt
/- Label, the program's. -/
namespace Go.Proofs.YtllhkegefinlbaaGreatDoor.Pt
open Go.RowKit Go.Sort
set_option maxRecDepth 100000
set_option maxHeartbeats 4000000
attribute [local irreducible] wpQuiet

/-- with another value of a label -/
def labP (nm vl : ByteArray) (p : Pt) : Pt := (withL p.1 nm vl, p.2)
theorem SmL.with_ {x : List Lb} (h : SmL x) {nm vl : ByteArray} (h1 : nm.size ≤ maxLen) (h2 : vl.size ≤ maxLen) : SmL (withL x nm vl) := by
  unfold withL
  split
  · rename_i hr
    have := (rightB_t.1 hr).1
    exact ⟨by omega, outL_wd h.2 h1 h2⟩
  · exact h
/-- may a label be so? -/
def lokB (nm vl : ByteArray) : Bool := nameB nm && decide (vl.size ≤ 256)
end Go.Proofs.YtllhkegefinlbaaGreatDoor.Pt
/- where, Scaled, the program's. -/
namespace Go.Proofs.YtllhkegefinlbaaGreatDoor.Pt
open Go.RowKit Go.Sort
set_option maxRecDepth 100000
set_option maxHeartbeats 4000000
attribute [local irreducible] wpQuiet

/-- a test of values, as a closure -/
def TstC (W0 : World) (G : FuncId) (cb : Array Value) (f : Nat → Bool) : Prop := ∀ (W : World) (x : Nat), Gr W0 W → Calls Tryz.prog G (#[.float .f64 x] ++ cb) W fun e w' => e = .returned (.bool (f x)) ∧ Gr W w'
def whP (f : Nat → Bool) (l : List Pt) : List Pt := l.filter fun p => f p.2
theorem whP_take {f : Nat → Bool} {l : List Pt} {k : Nat} (h : k < l.length) : whP f (l.take (k + 1)) = whP f (l.take k) ++ if f (l[k]).2 then [l[k]] else [] := by
  unfold whP
  rw [List.take_succ_eq_append_getElem h, List.filter_append]
  congr 1
  simp [List.filter_cons]
theorem whP_len (f : Nat → Bool) (l : List Pt) : (whP f l).length ≤ l.length := List.length_filter_le _ _
/-! ### Scaled -/
def sdA (left : Bool) (x y : Nat) : Nat := if left then x else y
def sdB (left : Bool) (x y : Nat) : Nat := if left then y else x
/-- is an operator one that chooses? -/
def filB (op : Int) (flag : Bool) : Bool := decide (5 ≤ op) && decide (op ≤ 10) && !flag
/-- Scaled's points, its error -/
def scF (op : Int) (left : Bool) (x : Nat) (p : Pt) : Pt := nmP (fun y => Fv.opV op (sdA left x y) (sdB left x y)) p
def scW (op : Int) (left : Bool) (x : Nat) (l : List Pt) : List Pt := whP (fun y => Fv.holdsB op (sdA left x y) (sdB left x y)) l
def scV (op : Int) (x : Nat) (left flag : Bool) (l : List Pt) : List Pt := if op < 1 ∨ 10 < op then [] else if filB op flag then scW op left x l else norV (l.map (scF op left x))
def scE (op : Int) (x : Nat) (left flag : Bool) (l : List Pt) : Int := if op < 1 ∨ 10 < op then 1 else if filB op flag then 0 else norE (l.map (scF op left x))
end Go.Proofs.YtllhkegefinlbaaGreatDoor.Pt
namespace Go.Proofs.YtllhkegefinlbaaGreatDoor.Pt
open Go.RowKit Go.Sort
set_option maxRecDepth 100000
set_option maxHeartbeats 4000000
attribute [local irreducible] wpQuiet

/-- one point more, its labels in new memory -/
theorem PSt.one {w W w4 w5 w7 : World} {v v7 : Value} {cs : List Pc} {l : List Pt} (h : PSt w W v cs l) (g4 : Gr W w4) (g5 : Gr w4 w5) {A : Option Addr} {c : Nat} {p : Pt} (hl : LabsAt w4 A p.1) (hf : 0 < p.1.length → ∀ b, (Value.slice A p.1.length c).ownBlock = some b → W.heap.size ≤ b)
    (ho : OwnT w7 w.heap.size v7 (cs ++ [((⟨A, p.1.length, c⟩, p.2) : Pc)])) (hg : w5.grownBy w7 v.ownBlock) (hv : v7.ownBlock = v.ownBlock ∨ v7.ownBlock = some w5.heap.size) : PSt w w7 v7 (cs ++ [((⟨A, p.1.length, c⟩, p.2) : Pc)]) (l ++ [p]) := by
  refine (h.gr (g4.trans g5)).app (r := [p]) (Rds.one ⟨rfl, rfl, hl.gr g5⟩) (fun j c' q hc hp h0 b hb e => ?_) ho hg hv
  match j, hc, hp with
  | 0, hc, hp =>
    obtain rfl : _ = c' := by simpa using hc
    obtain rfl : _ = q := by simpa using hp
    have h1 := hf h0 b hb
    have h2 := (h.row.lt e).2
    omega

end Go.Proofs.YtllhkegefinlbaaGreatDoor.Pt
/- Label, Scaled, the reference's. -/
namespace Go.Proofs.YtllhkegefinlbaaGreatDoor.Pt
open Go.RowKit Go.Sort
set_option maxRecDepth 100000
set_option maxHeartbeats 4000000
attribute [local irreducible] wpQuiet

theorem PSt.one2 {w W w4 w5 w7 : World} {v v7 : Value} {cs : List Pc} {l : List Pt} (h : PSt w W v cs l) (g4 : Gr W w4) (g5 : Gr w4 w5) {A : Option Addr} {c : Nat} {p : Pt} (hl : LabsAt w4 A p.1) (hf : 0 < p.1.length → ∀ b, (Value.slice A p.1.length c).ownBlock = some b → b < w.heap.size ∨ W.heap.size ≤ b)
    (ho : OwnT w7 w.heap.size v7 (cs ++ [((⟨A, p.1.length, c⟩, p.2) : Pc)])) (hg : w5.grownBy w7 v.ownBlock) (hv : v7.ownBlock = v.ownBlock ∨ v7.ownBlock = some w5.heap.size) : PSt w w7 v7 (cs ++ [((⟨A, p.1.length, c⟩, p.2) : Pc)]) (l ++ [p]) := by
  refine (h.gr (g4.trans g5)).app (r := [p]) (Rds.one ⟨rfl, rfl, hl.gr g5⟩) (fun j c' q hc hp h0 b hb e => ?_) ho hg hv
  match j, hc, hp with
  | 0, hc, hp =>
    obtain rfl : _ = c' := by simpa using hc
    obtain rfl : _ = q := by simpa using hp
    have h1 := hf h0 b hb
    have h2 := h.row.lt e
    omega
theorem lab_lt {W : World} {A : Option Addr} {l : List Lb} {n c b : Nat} (h : LabsAt W A l) (h0 : 0 < l.length) (hb : (Value.slice A n c).ownBlock = some b) : b < W.heap.size := by
  obtain ⟨b', o, rfl, hc⟩ := h h0
  have e : some b' = some b := hb
  injection e with e
  subst e
  exact World.block_lt_of_cell? W _ (hc 0 _ (List.getElem?_eq_getElem h0)).1
end Go.Proofs.YtllhkegefinlbaaGreatDoor.Pt
/- Scaled, the reference's. -/
namespace Go.Proofs.YtllhkegefinlbaaGreatDoor.Pt
open Go.RowKit Go.Sort
set_option maxRecDepth 100000
set_option maxHeartbeats 8000000
attribute [local irreducible] wpQuiet

theorem whP_sm {l : List Pt} (h : SmP l) (f : Nat → Bool) : SmP (whP f l) := h.sub (whP_len f l) fun p hp => ⟨p, (List.mem_filter.1 hp).1, rfl⟩
/-- the reference's Scaled -/
def rscV (op : Int) (x : Nat) (left flag : Bool) (l : List Pt) : List Pt := if op < 1 ∨ 10 < op then [] else if filB op flag then norV (scW op left x l) else norV (l.map (scF op left x))
def rscE (op : Int) (x : Nat) (left flag : Bool) (l : List Pt) : Int := if op < 1 ∨ 10 < op then 1 else if filB op flag then norE (scW op left x l) else norE (l.map (scF op left x))
end Go.Proofs.YtllhkegefinlbaaGreatDoor.Pt
namespace Go.Proofs.YtllhkegefinlbaaGreatDoor.Pt
open Go.RowKit Go.Sort
set_option maxRecDepth 100000
set_option maxHeartbeats 4000000
attribute [local irreducible] wpQuiet

/-- as points come in: their texts and lists are such as the model has -/
def WdP (l : List Pt) : Prop := ∀ p ∈ l, Wd p.1 ∧ p.1.length ≤ maxLen
def fewV (l : List Pt) : Bool := decide (l.length ≤ 60) && l.all fun p => decide (fewP p.1)
theorem fewV_sm {l : List Pt} (h : fewV l = true) : SmP l := by
  unfold fewV at h
  rw [Bool.and_eq_true, decide_eq_true_eq, List.all_eq_true] at h
  refine ⟨by omega, fun p hp => ?_⟩
  have := h.2 p hp
  rw [decide_eq_true_eq] at this
  obtain ⟨h1, h2⟩ := this
  exact ⟨by omega, fun x hx => by have := h2 x hx; unfold maxLen; omega⟩
theorem few1_any (A : Option Addr) (l : List Lb) (c : Nat) (w : World) (h : LabsAt w A l) (hw : Wd l) (hl : l.length ≤ maxLen) :
    Calls Tryz.prog 40 #[.slice A l.length c] w fun e w' => e = .returned (.bool (decide (fewP l))) ∧ w = w' := by
  by_cases h80 : l.length ≤ 80
  · exact few_any A l c w h hw (by omega)
  · have : decide (fewP l) = false := by rw [decide_eq_false_iff_not]; intro hf; have := hf.1; omega
    rw [this]
    exact few_big A l.length c w (by omega) hl
theorem fewV_any (A : Option Addr) (l : List Pt) (c : Nat) (w : World) (h : PtsAt w A l) (hw : WdP l) (hl : l.length ≤ maxLen) :
    Calls Tryz.prog 15 #[.slice A l.length c] w fun e w' => e = .returned (.bool (fewV l)) ∧ w = w' := by
  have HL := Lib.hid h; have HW := Lib.hid hw
  clear h hw
  unfold maxLen at hl
  by_cases h60 : 60 < l.length
  · have H : Hid (fewV l = false) := Lib.hid (by unfold fewV; rw [decide_eq_false (by omega)]; rfl)
    go_enter Tryz.func15, Tryz.ntmps15
    go_wp2
    go_ret
    exact ⟨by rw [H.out]; rfl, rfl⟩
  have h60 : l.length ≤ 60 := by omega
  have HF : Hid (fewV l = l.all fun p => decide (fewP p.1)) := Lib.hid (by unfold fewV; rw [decide_eq_true h60]; rfl)
  go_enter Tryz.func15, Tryz.ntmps15
  go_wp2
  go_loop [3] (fun i => ∃ k : Nat, k ≤ l.length ∧ i = .int .i64 k ∧ Hid (((l.take k).all fun p => decide (fewP p.1)) = true)) (fun i => l.length - (intOf i).toNat)
  case atStart => exact ⟨0, Nat.zero_le _, rfl, Lib.hid rfl⟩
  case round =>
    obtain ⟨k, hk, rfl, HU⟩ := hrel
    by_cases hlt : k < l.length
    · obtain ⟨b, o, s1, n1, rfl, c1, -, la1, -⟩ := HL.out.cell hlt
      have hn := HW.out _ (List.getElem_mem hlt)
      have outn : decide (fewP (l[k]).1) = false → Hid (fewV l = false) := fun h => Lib.hid (by rw [HF.out, List.all_eq_false]; exact ⟨_, List.getElem_mem hlt, by rw [h]; simp⟩)
      have outy : decide (fewP (l[k]).1) = true → Hid (((l.take (k + 1)).all fun p => decide (fewP p.1)) = true) := fun h => Lib.hid (by rw [List.take_succ_eq_append_getElem hlt, List.all_append, HU.out]; simp; exact of_decide_eq_true h)
      obtain ⟨x, hx⟩ : ∃ x, l[k] = x := ⟨_, rfl⟩
      rw [hx] at c1 la1 hn outn outy
      have ON := Lib.hid outn; have OY := Lib.hid outy
      obtain ⟨x1, x2⟩ := x
      simp only at c1 la1 hn
      have CF := Lib.hid (few1_any s1 x1 n1 w la1 hn.1 hn.2)
      have f4 : (k : Int) < (l.length : Int) := by omega
      have f5 : (0 : Int) ≤ (k : Int) := by omega
      obtain ⟨v, hv⟩ : ∃ v, decide (fewP x1) = v := ⟨_, rfl⟩
      rw [hv] at CF
      clear hx outn outy la1 hn
      cases v
      · have HN := ON.out hv
        clear hv
        go_wp2_with (go_at_call 40; refine CF.out.mono ?_; rintro e w' ⟨rfl, rfl⟩)
        go_ret
        exact ⟨by rw [HN.out]; rfl, rfl⟩
      · have HN := OY.out hv
        clear hv
        go_wp2_with (go_at_call 40; refine CF.out.mono ?_; rintro e w' ⟨rfl, rfl⟩)
        go_round
        case rel => exact ⟨k + 1, by omega, by go_num, HN⟩
        case measure => simp [intOf]; omega
    · obtain rfl : k = l.length := by omega
      have H : Hid (fewV l = true) := Lib.hid (by rw [HF.out]; have := HU.out; rwa [List.take_length] at this)
      go_wp2
      go_ret
      exact ⟨by rw [H.out]; rfl, rfl⟩
/-- few, and a vector -/
def rgtV (l : List Pt) : Bool := fewV l && vecB l
theorem lawRight_any (A : Option Addr) (l : List Pt) (c : Nat) (w : World) (h : PtsAt w A l) (hw : WdP l) (hl : l.length ≤ maxLen) :
    Calls Tryz.prog 5 #[.slice A l.length c] w fun e w' => e = .returned (.bool (rgtV l)) ∧ Gr w w' := by
  have CF := Lib.hid (fewV_any A l c w h hw hl)
  obtain ⟨v, hv⟩ : ∃ v, fewV l = v := ⟨_, rfl⟩
  rw [hv] at CF
  cases v
  · have HN : Hid (rgtV l = false) := Lib.hid (by unfold rgtV; rw [hv]; rfl)
    clear h hw hv
    unfold maxLen at hl
    go_enter Tryz.func5, Tryz.ntmps5
    go_wp2_with (go_at_call 15; refine CF.out.mono ?_; rintro e w' ⟨rfl, rfl⟩)
    go_ret
    exact ⟨by rw [HN.out]; rfl, Gr.refl _⟩
  · have HN : Hid (rgtV l = vecB l) := Lib.hid (by unfold rgtV; rw [hv]; rfl)
    have CR := Lib.hid (rvright_any A l c w h (fewV_sm hv))
    clear h hw hv
    unfold maxLen at hl
    go_enter Tryz.func5, Tryz.ntmps5
    go_wp2_with (first | (go_at_call 15; refine CF.out.mono ?_; rintro e w' ⟨rfl, rfl⟩) | (go_at_call 16; refine CR.out.mono ?_; rintro e w' ⟨rfl, g⟩))
    go_ret
    exact ⟨by rw [HN.out]; rfl, g⟩
/-! ### known -/
def sB : ByteArray := ⟨#[98]⟩
def sA : ByteArray := ⟨#[97]⟩
def s1 : ByteArray := ⟨#[49]⟩
def n3 : Nat := 4613937818241073152
def n1 : Nat := 4607182418800017408
def kL0 : List Pt := [([(sB, s1)], n3), ([(sA, s1)], n1)]
def kL1 : List Pt := [([(sA, s1)], n1), ([(sB, s1)], n3)]
def kL2 : List Pt := [([(sB, s1)], n3)]
theorem k_nor : norE kL0 = 0 ∧ norV kL0 = kL1 := by decide +kernel
theorem k_sc : scV 7 4611686018427387904 false false kL1 = kL2 ∧ scE 7 4611686018427387904 false false kL1 = 0 := by decide +kernel
theorem k_sm0 : SmP kL0 := ⟨by decide, fun p hp => by
  simp only [kL0, List.mem_cons, List.not_mem_nil, or_false] at hp
  rcases hp with rfl | rfl <;> exact ⟨by decide, fun x hx => by
    simp only [List.mem_cons, List.not_mem_nil, or_false] at hx
    subst hx
    unfold maxLen
    decide⟩⟩
theorem k_sm1 : SmP kL1 := by have := k_sm0.nor; rwa [k_nor.2] at this
end Go.Proofs.YtllhkegefinlbaaGreatDoor.Pt
/- known: two points, a filter. -/
namespace Go.Proofs.YtllhkegefinlbaaGreatDoor.Pt
open Go.RowKit Go.Sort
set_option maxRecDepth 100000
set_option maxHeartbeats 4000000
attribute [local irreducible] wpQuiet

theorem lab_one (W : World) (g : Nat) (a b : ByteArray) (h1 : W.cell? ⟨g, 0, none⟩ = some (.string a)) (h2 : W.cell? ⟨g, 1, none⟩ = some (.string b)) : LabsAt W (some ⟨g, 0, none⟩) [(a, b)] := fun _ => ⟨g, 0, rfl, fun i x hx => by
  match i, hx with
  | 0, hx =>
    obtain rfl : (a, b) = x := by simpa using hx
    exact ⟨h1, h2⟩⟩
end Go.Proofs.YtllhkegefinlbaaGreatDoor.Pt
