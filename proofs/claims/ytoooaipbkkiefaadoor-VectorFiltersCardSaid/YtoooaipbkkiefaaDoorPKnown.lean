/- The laws' helpers: Few, Right, same, known. -/
import Derived.Test.YtoooaipbkkiefaaDoorPRSca
namespace Go.Proofs.YtoooaipbkkiefaaDoor.Pt
open Go.RowKit Go.Sort
set_option maxRecDepth 100000
set_option maxHeartbeats 4000000
attribute [local irreducible] wpQuiet

/-- as points come in: their texts and lists are such as the model has -/
def WdP (l : List Pt) : Prop := ∀ p ∈ l, Wd p.1 ∧ p.1.length ≤ maxLen
def fewV (l : List Pt) : Bool := decide (l.length ≤ 60) && l.all fun p => decide (fewP p.1)
theorem fewV_sm {l : List Pt} (h : fewV l = true) : SmP l := by
  unfold fewV at h
  rw [Bool.and_eq_true, decide_eq_true_eq, List.all_eq_true] at h
  refine ⟨by omega, fun p hp => ?_⟩
  have := h.2 p hp
  rw [decide_eq_true_eq] at this
  obtain ⟨h1, h2⟩ := this
  exact ⟨by omega, fun x hx => by have := h2 x hx; unfold maxLen; omega⟩
theorem few1_any (A : Option Addr) (l : List Lb) (c : Nat) (w : World) (h : LabsAt w A l) (hw : Wd l) (hl : l.length ≤ maxLen) :
    Calls Tryd.prog 26 #[.slice A l.length c] w fun e w' => e = .returned (.bool (decide (fewP l))) ∧ w = w' := by
  by_cases h80 : l.length ≤ 80
  · exact few_any A l c w h hw (by omega)
  · have : decide (fewP l) = false := by rw [decide_eq_false_iff_not]; intro hf; have := hf.1; omega
    rw [this]
    exact few_big A l.length c w (by omega) hl
theorem fewV_any (A : Option Addr) (l : List Pt) (c : Nat) (w : World) (h : PtsAt w A l) (hw : WdP l) (hl : l.length ≤ maxLen) :
    Calls Tryd.prog 8 #[.slice A l.length c] w fun e w' => e = .returned (.bool (fewV l)) ∧ w = w' := by
  have HL := Lib.hid h; have HW := Lib.hid hw
  clear h hw
  unfold maxLen at hl
  by_cases h60 : 60 < l.length
  · have H : Hid (fewV l = false) := Lib.hid (by unfold fewV; rw [decide_eq_false (by omega)]; rfl)
    go_enter Tryd.func8, Tryd.ntmps8
    go_wp2
    go_ret
    exact ⟨by rw [H.out]; rfl, rfl⟩
  have h60 : l.length ≤ 60 := by omega
  have HF : Hid (fewV l = l.all fun p => decide (fewP p.1)) := Lib.hid (by unfold fewV; rw [decide_eq_true h60]; rfl)
  go_enter Tryd.func8, Tryd.ntmps8
  go_wp2
  go_loop [3] (fun i => ∃ k : Nat, k ≤ l.length ∧ i = .int .i64 k ∧ Hid (((l.take k).all fun p => decide (fewP p.1)) = true)) (fun i => l.length - (intOf i).toNat)
  case atStart => exact ⟨0, Nat.zero_le _, rfl, Lib.hid rfl⟩
  case round =>
    obtain ⟨k, hk, rfl, HU⟩ := hrel
    by_cases hlt : k < l.length
    · obtain ⟨b, o, s1, n1, rfl, c1, -, la1, -⟩ := HL.out.cell hlt
      have hn := HW.out _ (List.getElem_mem hlt)
      have outn : decide (fewP (l[k]).1) = false → Hid (fewV l = false) := fun h => Lib.hid (by rw [HF.out, List.all_eq_false]; exact ⟨_, List.getElem_mem hlt, by rw [h]; simp⟩)
      have outy : decide (fewP (l[k]).1) = true → Hid (((l.take (k + 1)).all fun p => decide (fewP p.1)) = true) := fun h => Lib.hid (by rw [List.take_succ_eq_append_getElem hlt, List.all_append, HU.out]; simp; exact of_decide_eq_true h)
      obtain ⟨x, hx⟩ : ∃ x, l[k] = x := ⟨_, rfl⟩
      rw [hx] at c1 la1 hn outn outy
      have ON := Lib.hid outn; have OY := Lib.hid outy
      obtain ⟨x1, x2⟩ := x
      simp only at c1 la1 hn
      have CF := Lib.hid (few1_any s1 x1 n1 w la1 hn.1 hn.2)
      have f4 : (k : Int) < (l.length : Int) := by omega
      have f5 : (0 : Int) ≤ (k : Int) := by omega
      obtain ⟨v, hv⟩ : ∃ v, decide (fewP x1) = v := ⟨_, rfl⟩
      rw [hv] at CF
      clear hx outn outy la1 hn
      cases v
      · have HN := ON.out hv
        clear hv
        go_wp2_with (go_at_call 26; refine CF.out.mono ?_; rintro e w' ⟨rfl, rfl⟩)
        go_ret
        exact ⟨by rw [HN.out]; rfl, rfl⟩
      · have HN := OY.out hv
        clear hv
        go_wp2_with (go_at_call 26; refine CF.out.mono ?_; rintro e w' ⟨rfl, rfl⟩)
        go_round
        case rel => exact ⟨k + 1, by omega, by go_num, HN⟩
        case measure => simp [intOf]; omega
    · obtain rfl : k = l.length := by omega
      have H : Hid (fewV l = true) := Lib.hid (by rw [HF.out]; have := HU.out; rwa [List.take_length] at this)
      go_wp2
      go_ret
      exact ⟨by rw [H.out]; rfl, rfl⟩
/-- few, and a vector -/
def rgtV (l : List Pt) : Bool := fewV l && vecB l
theorem lawRight_any (A : Option Addr) (l : List Pt) (c : Nat) (w : World) (h : PtsAt w A l) (hw : WdP l) (hl : l.length ≤ maxLen) :
    Calls Tryd.prog 14 #[.slice A l.length c] w fun e w' => e = .returned (.bool (rgtV l)) ∧ Gr w w' := by
  have CF := Lib.hid (fewV_any A l c w h hw hl)
  obtain ⟨v, hv⟩ : ∃ v, fewV l = v := ⟨_, rfl⟩
  rw [hv] at CF
  cases v
  · have HN : Hid (rgtV l = false) := Lib.hid (by unfold rgtV; rw [hv]; rfl)
    clear h hw hv
    unfold maxLen at hl
    go_enter Tryd.func14, Tryd.ntmps14
    go_wp2_with (go_at_call 8; refine CF.out.mono ?_; rintro e w' ⟨rfl, rfl⟩)
    go_ret
    exact ⟨by rw [HN.out]; rfl, Gr.refl _⟩
  · have HN : Hid (rgtV l = vecB l) := Lib.hid (by unfold rgtV; rw [hv]; rfl)
    have CR := Lib.hid (rvright_any A l c w h (fewV_sm hv))
    clear h hw hv
    unfold maxLen at hl
    go_enter Tryd.func14, Tryd.ntmps14
    go_wp2_with (first | (go_at_call 8; refine CF.out.mono ?_; rintro e w' ⟨rfl, rfl⟩) | (go_at_call 13; refine CR.out.mono ?_; rintro e w' ⟨rfl, g⟩))
    go_ret
    exact ⟨by rw [HN.out]; rfl, g⟩
/-- same: where both answer alike -/
theorem same_yes (A B : Option Addr) (a b : List Pt) (c d : Nat) (e : Int) (w : World) (ha : PtsAt w A a) (hb : PtsAt w B b) (sa : SmP a) (sb : SmP b) (h : sameP a b = true) :
    Calls Tryd.prog 11 #[.slice A a.length c, .int .i64 e, .slice B b.length d, .int .i64 e] w fun x w' => x = .returned (.bool true) ∧ Gr w w' := by
  have CS := Lib.hid (rvsame_any A B a b c d w ha hb sa sb)
  rw [h] at CS
  clear ha hb sa sb h
  go_enter Tryd.func11, Tryd.ntmps11
  go_wp2_with (go_at_call 37; refine CS.out.mono ?_; rintro e w' ⟨rfl, g⟩)
  go_ret
  exact ⟨by simp, g⟩

/-! ### known -/
def sB : ByteArray := ⟨#[98]⟩
def sA : ByteArray := ⟨#[97]⟩
def s1 : ByteArray := ⟨#[49]⟩
def n3 : Nat := 4613937818241073152
def n1 : Nat := 4607182418800017408
def kL0 : List Pt := [([(sB, s1)], n3), ([(sA, s1)], n1)]
def kL1 : List Pt := [([(sA, s1)], n1), ([(sB, s1)], n3)]
def kL2 : List Pt := [([(sB, s1)], n3)]
theorem k_nor : norE kL0 = 0 ∧ norV kL0 = kL1 := by decide +kernel
theorem k_sc : scV 7 4611686018427387904 false false kL1 = kL2 ∧ scE 7 4611686018427387904 false false kL1 = 0 := by decide +kernel
theorem k_sm0 : SmP kL0 := ⟨by decide, fun p hp => by
  simp only [kL0, List.mem_cons, List.not_mem_nil, or_false] at hp
  rcases hp with rfl | rfl <;> exact ⟨by decide, fun x hx => by
    simp only [List.mem_cons, List.not_mem_nil, or_false] at hx
    subst hx
    unfold maxLen
    decide⟩⟩
theorem k_sm1 : SmP kL1 := by have := k_sm0.nor; rwa [k_nor.2] at this
/-- the table of names, as far as known asks -/
structure Nms (w : World) : Prop where
  c1 : w.cell? ⟨0, 1, none⟩ = some (.string ⟨#[97, 98, 115]⟩)
theorem Nms.gv {w w' : World} (h : Nms w) (g : Gr w w') : Nms w' := ⟨g.cell h.c1⟩
theorem name1_any (w : World) (h : Nms w) :
    Calls Tryd.prog 23 #[.int .i64 1] w fun e w' => e = .returned (.string ⟨#[97, 98, 115]⟩) ∧ w = w' := by
  have h1 := h.c1
  go_enter Tryd.func23, Tryd.ntmps23
  go_wp2
  go_ret
  exact ⟨rfl, rfl⟩
theorem of_any (x : Nat) (w : World) :
    Calls Tryd.prog 24 #[.float .f64 x] w fun e w' => ∃ A c, e = .returned (.slice A 1 c) ∧ PtsAt w' A [([], x)] ∧ Gr w w' := by
  obtain ⟨W1, hW1, g1, hb1⟩ := fresh w #[.slice none 0 0, .float .f64 x] 42
  have HW1 := Lib.hid hW1; have G1 := Lib.hid g1
  have HP : Hid (PtsAt W1 (some ⟨w.heap.size, 0, none⟩) [([], x)]) := Lib.hid ⟨[(⟨none, 0, 0⟩, x)], at2_cells rfl (hb1 0 _ rfl) (hb1 1 _ rfl), Rds.one ⟨rfl, rfl, LabsAt.none_ _ _⟩⟩
  clear hW1 g1 hb1
  go_enter Tryd.func24, Tryd.ntmps24
  go_wp2
  go_ret
  rw [HW1.out]
  exact ⟨_, _, rfl, HP.out, G1.out⟩
theorem scalar1_any (A : Option Addr) (p : Pt) (c : Nat) (w : World) (h : PtsAt w A [p]) :
    Calls Tryd.prog 25 #[.slice A 1 c] w fun e w' => e = .returned (.float .f64 p.2) ∧ w = w' := by
  obtain ⟨b, o, s, n, rfl, c1, c2, -⟩ := h.cell (k := 0) (by simp)
  simp only [Nat.zero_mul, Nat.add_zero] at c1 c2
  rw [show ([p] : List Pt)[0] = p from rfl] at c1 c2
  clear h
  go_enter Tryd.func25, Tryd.ntmps25
  go_wp2
  go_ret
  exact ⟨rfl, rfl⟩
end Go.Proofs.YtoooaipbkkiefaaDoor.Pt
/- known: two points, a filter. -/
namespace Go.Proofs.YtoooaipbkkiefaaDoor.Pt
open Go.RowKit Go.Sort
set_option maxRecDepth 100000
set_option maxHeartbeats 4000000
attribute [local irreducible] wpQuiet

theorem lab_one (W : World) (g : Nat) (a b : ByteArray) (h1 : W.cell? ⟨g, 0, none⟩ = some (.string a)) (h2 : W.cell? ⟨g, 1, none⟩ = some (.string b)) : LabsAt W (some ⟨g, 0, none⟩) [(a, b)] := fun _ => ⟨g, 0, rfl, fun i x hx => by
  match i, hx with
  | 0, hx =>
    obtain rfl : (a, b) = x := by simpa using hx
    exact ⟨h1, h2⟩⟩
theorem known_any (w : World) (ht : Fv.Tab w) (hn : Nms w) :
    Calls Tryd.prog 7 #[] w fun e w' => e = .returned (.bool true) ∧ Gr w w' := by
  obtain ⟨W1, hW1, g1, hb1⟩ := fresh w #[.string ⟨#[98]⟩, .string ⟨#[49]⟩] 49
  obtain ⟨W2, hW2, g2, hb2⟩ := fresh W1 #[.string ⟨#[97]⟩, .string ⟨#[49]⟩] 49
  have z1 : W1.heap.size = w.heap.size + 1 := by rw [← hW1]; simp
  have z2 : W2.heap.size = w.heap.size + 1 + 1 := by rw [← hW2]; simp [z1]
  obtain ⟨W3, hW3, g3, hb3⟩ := fresh W2 #[.slice (some ⟨w.heap.size, 0, none⟩) 1 1, .float .f64 4613937818241073152, .slice (some ⟨w.heap.size + 1, 0, none⟩) 1 1, .float .f64 4607182418800017408] 42
  have hp : PtsAt W3 (some ⟨w.heap.size + 1 + 1, 0, none⟩) kL0 := by
    refine ⟨[(⟨some ⟨w.heap.size, 0, none⟩, 1, 1⟩, n3), (⟨some ⟨w.heap.size + 1, 0, none⟩, 1, 1⟩, n1)], fun _ => ⟨w.heap.size + 1 + 1, 0, rfl, fun i x hx u v hu => ?_⟩, rfl, fun k c p hc hp => ?_⟩
    · rw [z2] at hb3
      match i, hx with
      | 0, hx =>
        obtain rfl : _ = x := by simpa using hx
        simp only [encT, Sl.v] at hu
        injection hu with e1 e2
        injection e2 with e2
        subst e1; subst e2
        exact ⟨hb3 0 _ rfl, hb3 1 _ rfl⟩
      | 1, hx =>
        obtain rfl : _ = x := by simpa using hx
        simp only [encT, Sl.v] at hu
        injection hu with e1 e2
        injection e2 with e2
        subst e1; subst e2
        exact ⟨hb3 2 _ rfl, hb3 3 _ rfl⟩
      | i + 2, hx => simp at hx
    · match k, hc, hp with
      | 0, hc, hp =>
        obtain rfl : _ = c := by simpa using hc
        obtain rfl : _ = p := by simpa [kL0] using hp
        exact ⟨rfl, rfl, lab_one W3 _ sB s1 (g3.cell (g2.cell (hb1 0 _ rfl))) (g3.cell (g2.cell (hb1 1 _ rfl)))⟩
      | 1, hc, hp =>
        obtain rfl : _ = c := by simpa using hc
        obtain rfl : _ = p := by simpa [kL0] using hp
        rw [z1] at hb2
        exact ⟨rfl, rfl, lab_one W3 _ sA s1 (g3.cell (hb2 0 _ rfl)) (g3.cell (hb2 1 _ rfl))⟩
      | k + 2, hc, hp => simp at hc
  have CN := normal_any (some ⟨w.heap.size + 1 + 1, 0, none⟩) kL0 2 W3 hp k_sm0 (((ht.gv g1).gv g2).gv g3)
  rw [k_nor.1, k_nor.2] at CN
  have CN := Lib.hid CN
  have HT := Lib.hid ht; have HN := Lib.hid hn
  have HW1 := Lib.hid hW1; have HW2 := Lib.hid hW2; have HW3 := Lib.hid hW3
  have G3 := Lib.hid ((g1.trans g2).trans g3)
  have HZ1 := Lib.hid z1; have HZ2 := Lib.hid z2
  have f1 : (FloatKind.f64.format.order 4607182418800017408 4607182418800017408 == some .eq) = true := by decide +kernel
  have f2 : (FloatKind.f64.format.order 4613937818241073152 4613937818241073152 == some .eq) = true := by decide +kernel
  have f3 : (FloatKind.f64.format.order 4616189618054758400 4616189618054758400 == some .eq) = true := by decide +kernel
  clear hp ht hn hW1 hW2 hW3 g1 g2 g3 hb1 hb2 hb3 z1 z2
  go_enter Tryd.func7, Tryd.ntmps7
  go_wp2_with fail
  rw [HW1.out, HW2.out, HW3.out]
  refine CN.out.mono ?_
  rintro e w4 ⟨A4, c4, rfl, hp4, h1, h2, g4⟩
  have HP4 := Lib.hid hp4
  have HT4 := Lib.hid ((HT.out.gv G3.out).gv g4)
  have HN4 := Lib.hid ((HN.out.gv G3.out).gv g4)
  have HG4 := Lib.hid (G3.out.trans g4)
  have CS := scaled_any 7 4611686018427387904 false false A4 kL1 c4 w4 hp4 k_sm1 HT4.out
  rw [k_sc.1, k_sc.2] at CS
  have CS := Lib.hid CS
  clear hp4 g4 h1 h2 CN
  go_wp2_with fail
  refine CS.out.mono ?_
  rintro e w5 ⟨A5, c5, rfl, hp5, h1, h2, g5⟩
  obtain ⟨b4, o4, q4, m4, rfl, -, e4, -⟩ := (HP4.out.gr g5).cell (k := 0) (by decide)
  obtain ⟨b5, o5, q5, m5, rfl, -, e5, -⟩ := hp5.cell (k := 0) (by decide)
  simp only [Nat.zero_mul, Nat.add_zero] at e4 e5
  have e4' : w5.cell? ⟨b4, o4 + 1, none⟩ = some (.float .f64 4607182418800017408) := e4
  have e5' : w5.cell? ⟨b5, o5 + 1, none⟩ = some (.float .f64 4613937818241073152) := e5
  have HG5 := Lib.hid (HG4.out.trans g5)
  have CNM := Lib.hid (name1_any w5 (HN4.out.gv g5))
  have COF := Lib.hid (of_any 4616189618054758400 w5)
  clear e4 e5 hp5 g5 CS h1 h2
  go_wp2_with (first
    | (go_at_call 23; refine CNM.out.mono ?_; rintro e w' ⟨rfl, rfl⟩)
    | (go_at_call 24; refine COF.out.mono ?_; rintro e w6 ⟨A6, c6, rfl, hp6, g6⟩; have HG6 := Lib.hid (HG5.out.trans g6); have CSC := Lib.hid (scalar1_any A6 ([], 4616189618054758400) c6 w6 hp6); clear hp6 g6)
    | (go_at_call 25; refine CSC.out.mono ?_; rintro e w' ⟨rfl, rfl⟩))
  go_ret
  exact ⟨rfl, HG6.out⟩
end Go.Proofs.YtoooaipbkkiefaaDoor.Pt
