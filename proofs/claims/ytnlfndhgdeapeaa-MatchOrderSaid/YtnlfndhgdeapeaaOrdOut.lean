/- The walk of MatchOrder. -/
import Derived.Test.YtnlfndhgdeapeaaMKnown
import Derived.Test.YtnlfndhgdeapeaaMApp
import Derived.Test.YtnlfndhgdeapeaaLaid
import Derived.Test.YtnlfndhgdeapeaaLRefRight
namespace Go.Proofs.Ytnlfndhgdeapeaa
open Go.RowKit Go.Maps Go.WideMaps
set_option maxRecDepth 100000
set_option maxHeartbeats 8000000

theorem rchk_check {m : Mt} (h : rchkM m = true) : checkM m = 0 := by
  have h0 := h
  unfold rchkM at h
  simp only [Bool.and_eq_true, decide_eq_true_eq] at h
  obtain ⟨⟨⟨h1, h2⟩, h3⟩, h4⟩ := h
  unfold checkM
  rw [if_neg (by
    rintro (e | e | e)
    · rw [e] at h1; cases h1
    · rw [h2] at e; cases e
    · omega)]
  cases hp : hasP m.k
  · rfl
  · rw [hp] at h4
    simp only [Bool.not_true, Bool.false_or] at h4
    obtain ⟨t, ht⟩ := rOK_tree h4 (by
      have : m.v.data.toList.length = m.v.size := by simp
      omega)
    rw [ht]
    rfl
theorem rchk_all {l : List Mt} (h : ∀ x ∈ l, rchkM x = true) : checkL l = 0 := by
  induction l with
  | nil => rfl
  | cons y r ih =>
    unfold checkL
    rw [if_pos (rchk_check (h y (List.mem_cons_self ..)))]
    exact ih fun x hx => h x (List.mem_cons_of_mem _ hx)
theorem rchk_A {l : List Mt} (h : ∀ x ∈ l, rchkM x = true) (hl : l.length ≤ 32) : checkA l = 0 := by
  unfold checkA
  rw [if_pos (rchk_all h), if_neg (by omega)]
theorem matchL_mem {l m : List Mt} (h : ∀ x, x ∈ l ↔ x ∈ m) (s : List Lb) : matchL l s = matchL m s := by
  unfold matchL
  rw [Bool.eq_iff_iff, List.all_eq_true, List.all_eq_true]
  exact ⟨fun g x hx => g x ((h x).2 hx), fun g x hx => g x ((h x).1 hx)⟩
theorem matchL_snoc (l : List Mt) (x : Mt) (s : List Lb) : matchL (l ++ [x]) s = (matchL l s && holdM x (getL s x.n)) := by
  unfold matchL
  rw [List.all_append]
  simp
/-- New of matchers that may be -/
theorem new_good (l : List Mt) (hc : checkA l = 0) (hw : Wm l) (hl : l.length ≤ 1099511627776) (A : Option Addr) (c : Nat) (W : World) (h : MatsAt W A l) :
    Calls Try.prog 19 #[.slice A l.length c] W fun e w' => ∃ S, e = .returned (.tuple #[.pointer (some ⟨S, 0, none⟩), .int .i64 0]) ∧ SetB w' S l ∧ Gr W w' := by
  refine Calls.mono (new_any A l c W h hw hl) ?_
  rintro e w' ⟨g, h⟩
  rw [if_pos hc] at h
  obtain ⟨S, h1, h2⟩ := h
  exact ⟨S, h1, h2, g⟩
/-- what the law's test asks -/
def ordOK (l : List Mt) (x : Mt) (s : List Lb) : Prop := mfewB l = true ∧ l.length ≤ 15 ∧ mfewB [x] = true ∧ fewP s ∧ rchkL l = true ∧ rchkL [x] = true

theorem ord_out1 (A : Option Addr) (l : List Mt) (c : Nat) (xk : Int) (xn xv : ByteArray) (sv : Value) (w : World) (h : MatsAt w A l) (hw : Wm l) (hl : l.length ≤ maxLen) (hx : Wm [⟨xk, xn, xv⟩]) (h1 : mfewB l = false) :
    Calls Try.prog 5 #[.slice A l.length c, .agg #[.int .i64 xk, .string xn, .string xv], sv] w fun e w' => e = .returned (.bool true) ∧ Gr w w' := by
  have CK := Lib.hid (fun W => mknown_any W)
  have F1 := Lib.hid (fun W (g : Gr w W) => mfew_any A l c W (h.gr g) hw hl)
  have F2 : Hid (∀ N W, W.heap[N]? = some (.cells #[.int .i64 xk, .string xn, .string xv] 33 (0, 0)) → Calls Try.prog 14 #[.slice (some ⟨N, 0, none⟩) 1 1] W fun e w' => e = .returned (.bool (mfewB [⟨xk, xn, xv⟩])) ∧ W = w') := Lib.hid (fun N W h => mfew_any (some ⟨N, 0, none⟩) [⟨xk, xn, xv⟩] 1 W (mats_new h) hx (show 1 ≤ maxLen by unfold maxLen; omega))
  rw [h1] at F1
  unfold maxLen at hl
  clear h hw hx h1
  go_enter Try.func5, Try.ntmps5
  go_wp2_with fail
  refine (CK.out _).mono ?_
  rintro e w1 ⟨rfl, g1⟩
  have c0 := g1.cell (b := w.heap.size) (o := 0) (v := .int .i64 xk) (by go_simp)
  have c1 := g1.cell (b := w.heap.size) (o := 1) (v := .string xn) (by go_simp)
  have c2 := g1.cell (b := w.heap.size) (o := 2) (v := .string xv) (by go_simp)
  have G1 := Lib.hid (((Gr.refl w).alloc _ _).trans g1)
  clear g1
  go_wp2_with fail
  refine (F1.out _ G1.out).mono ?_
  rintro e w2 ⟨rfl, rfl⟩
  go_wp2
  go_ret
  exact ⟨rfl, G1.out⟩
theorem ord_out2 (A : Option Addr) (l : List Mt) (c : Nat) (xk : Int) (xn xv : ByteArray) (sv : Value) (w : World) (h : MatsAt w A l) (hw : Wm l) (hl : l.length ≤ maxLen) (hx : Wm [⟨xk, xn, xv⟩]) (h1 : mfewB l = true) (h2 : 15 < l.length) :
    Calls Try.prog 5 #[.slice A l.length c, .agg #[.int .i64 xk, .string xn, .string xv], sv] w fun e w' => e = .returned (.bool true) ∧ Gr w w' := by
  have CK := Lib.hid (fun W => mknown_any W)
  have F1 := Lib.hid (fun W (g : Gr w W) => mfew_any A l c W (h.gr g) hw hl)
  have F2 : Hid (∀ N W, W.heap[N]? = some (.cells #[.int .i64 xk, .string xn, .string xv] 33 (0, 0)) → Calls Try.prog 14 #[.slice (some ⟨N, 0, none⟩) 1 1] W fun e w' => e = .returned (.bool (mfewB [⟨xk, xn, xv⟩])) ∧ W = w') := Lib.hid (fun N W h => mfew_any (some ⟨N, 0, none⟩) [⟨xk, xn, xv⟩] 1 W (mats_new h) hx (show 1 ≤ maxLen by unfold maxLen; omega))
  rw [h1] at F1
  have n1 : (15 : Int) < (l.length : Int) := by omega
  unfold maxLen at hl
  clear h hw hx h1 h2
  go_enter Try.func5, Try.ntmps5
  go_wp2_with fail
  refine (CK.out _).mono ?_
  rintro e w1 ⟨rfl, g1⟩
  have c0 := g1.cell (b := w.heap.size) (o := 0) (v := .int .i64 xk) (by go_simp)
  have c1 := g1.cell (b := w.heap.size) (o := 1) (v := .string xn) (by go_simp)
  have c2 := g1.cell (b := w.heap.size) (o := 2) (v := .string xv) (by go_simp)
  have G1 := Lib.hid (((Gr.refl w).alloc _ _).trans g1)
  clear g1
  go_wp2_with fail
  refine (F1.out _ G1.out).mono ?_
  rintro e w2 ⟨rfl, rfl⟩
  go_wp2
  go_ret
  exact ⟨rfl, G1.out⟩
theorem ord_out3 (A : Option Addr) (l : List Mt) (c : Nat) (xk : Int) (xn xv : ByteArray) (sv : Value) (w : World) (h : MatsAt w A l) (hw : Wm l) (hl : l.length ≤ maxLen) (hx : Wm [⟨xk, xn, xv⟩]) (h1 : mfewB l = true) (h2 : l.length ≤ 15) (h3 : mfewB [⟨xk, xn, xv⟩] = false) :
    Calls Try.prog 5 #[.slice A l.length c, .agg #[.int .i64 xk, .string xn, .string xv], sv] w fun e w' => e = .returned (.bool true) ∧ Gr w w' := by
  have CK := Lib.hid (fun W => mknown_any W)
  have F1 := Lib.hid (fun W (g : Gr w W) => mfew_any A l c W (h.gr g) hw hl)
  have F2 : Hid (∀ N W, W.heap[N]? = some (.cells #[.int .i64 xk, .string xn, .string xv] 33 (0, 0)) → Calls Try.prog 14 #[.slice (some ⟨N, 0, none⟩) 1 1] W fun e w' => e = .returned (.bool (mfewB [⟨xk, xn, xv⟩])) ∧ W = w') := Lib.hid (fun N W h => mfew_any (some ⟨N, 0, none⟩) [⟨xk, xn, xv⟩] 1 W (mats_new h) hx (show 1 ≤ maxLen by unfold maxLen; omega))
  rw [h1] at F1
  have n1 : ¬ (15 : Int) < (l.length : Int) := by omega
  rw [h3] at F2
  unfold maxLen at hl
  clear h hw hx h1 h2 h3
  go_enter Try.func5, Try.ntmps5
  go_wp2_with fail
  refine (CK.out _).mono ?_
  rintro e w1 ⟨rfl, g1⟩
  have c0 := g1.cell (b := w.heap.size) (o := 0) (v := .int .i64 xk) (by go_simp)
  have c1 := g1.cell (b := w.heap.size) (o := 1) (v := .string xn) (by go_simp)
  have c2 := g1.cell (b := w.heap.size) (o := 2) (v := .string xv) (by go_simp)
  have G1 := Lib.hid (((Gr.refl w).alloc _ _).trans g1)
  clear g1
  go_wp2_with fail
  refine (F1.out _ G1.out).mono ?_
  rintro e w2 ⟨rfl, rfl⟩
  go_wp2_with fail
  refine (F2.out _ _ (heap_alloc_new w1 _)).mono ?_
  rintro e w3 ⟨rfl, rfl⟩
  obtain ⟨V, hV⟩ : ∃ V, w1.alloc (.cells #[.int .i64 xk, .string xn, .string xv] 33) = V := ⟨_, rfl⟩
  have kV : Gr w1 V := by rw [← hV]; exact (Gr.refl w1).alloc _ _
  have c0 := kV.cell c0
  have c1 := kV.cell c1
  have c2 := kV.cell c2
  have G2 := Lib.hid (G1.out.trans kV)
  rw [hV]
  clear hV kV
  go_wp2
  go_ret
  exact ⟨rfl, G2.out⟩
theorem ord_out4 (A : Option Addr) (l : List Mt) (c : Nat) (xk : Int) (xn xv : ByteArray) (sv : Value) (w : World) (h : MatsAt w A l) (hw : Wm l) (hl : l.length ≤ maxLen) (hx : Wm [⟨xk, xn, xv⟩]) (h1 : mfewB l = true) (h2 : l.length ≤ 15) (h3 : mfewB [⟨xk, xn, xv⟩] = true) (F3 : ∀ W, Gr w W → Calls Try.prog 18 #[sv] W fun e w' => e = .returned (.bool false) ∧ W = w') :
    Calls Try.prog 5 #[.slice A l.length c, .agg #[.int .i64 xk, .string xn, .string xv], sv] w fun e w' => e = .returned (.bool true) ∧ Gr w w' := by
  have CK := Lib.hid (fun W => mknown_any W)
  have F1 := Lib.hid (fun W (g : Gr w W) => mfew_any A l c W (h.gr g) hw hl)
  have F2 : Hid (∀ N W, W.heap[N]? = some (.cells #[.int .i64 xk, .string xn, .string xv] 33 (0, 0)) → Calls Try.prog 14 #[.slice (some ⟨N, 0, none⟩) 1 1] W fun e w' => e = .returned (.bool (mfewB [⟨xk, xn, xv⟩])) ∧ W = w') := Lib.hid (fun N W h => mfew_any (some ⟨N, 0, none⟩) [⟨xk, xn, xv⟩] 1 W (mats_new h) hx (show 1 ≤ maxLen by unfold maxLen; omega))
  rw [h1] at F1
  have n1 : ¬ (15 : Int) < (l.length : Int) := by omega
  rw [h3] at F2
  have F3 := Lib.hid F3
  unfold maxLen at hl
  clear h hw hx h1 h2 h3
  go_enter Try.func5, Try.ntmps5
  go_wp2_with fail
  refine (CK.out _).mono ?_
  rintro e w1 ⟨rfl, g1⟩
  have c0 := g1.cell (b := w.heap.size) (o := 0) (v := .int .i64 xk) (by go_simp)
  have c1 := g1.cell (b := w.heap.size) (o := 1) (v := .string xn) (by go_simp)
  have c2 := g1.cell (b := w.heap.size) (o := 2) (v := .string xv) (by go_simp)
  have G1 := Lib.hid (((Gr.refl w).alloc _ _).trans g1)
  clear g1
  go_wp2_with fail
  refine (F1.out _ G1.out).mono ?_
  rintro e w2 ⟨rfl, rfl⟩
  go_wp2_with fail
  refine (F2.out _ _ (heap_alloc_new w1 _)).mono ?_
  rintro e w3 ⟨rfl, rfl⟩
  obtain ⟨V, hV⟩ : ∃ V, w1.alloc (.cells #[.int .i64 xk, .string xn, .string xv] 33) = V := ⟨_, rfl⟩
  have kV : Gr w1 V := by rw [← hV]; exact (Gr.refl w1).alloc _ _
  have c0 := kV.cell c0
  have c1 := kV.cell c1
  have c2 := kV.cell c2
  have G2 := Lib.hid (G1.out.trans kV)
  rw [hV]
  clear hV kV
  go_wp2_with fail
  refine (F3.out _ G2.out).mono ?_
  rintro e w4 ⟨rfl, rfl⟩
  go_wp2
  go_ret
  exact ⟨rfl, G2.out⟩
theorem ord_out5 (A : Option Addr) (l : List Mt) (c : Nat) (xk : Int) (xn xv : ByteArray) (B : Option Addr) (s : List Lb) (d : Nat) (w : World) (h : MatsAt w A l) (hw : Wm l) (hl : l.length ≤ 1099511627776) (hx : Wm [⟨xk, xn, xv⟩]) (hB : LabsAt w B s) (hs : Wd s) (hsl : s.length ≤ 1099511627776) (h1 : mfewB l = true) (h2 : l.length ≤ 15) (h3 : mfewB [⟨xk, xn, xv⟩] = true) (h4 : decide (fewP s) = true) (h5 : rchkL l = false) :
    Calls Try.prog 5 #[.slice A l.length c, .agg #[.int .i64 xk, .string xn, .string xv], .slice B s.length d] w fun e w' => e = .returned (.bool true) ∧ Gr w w' := by
  have CK := Lib.hid (fun W => mknown_any W)
  have F1 := Lib.hid (fun W (g : Gr w W) => mfew_any A l c W (h.gr g) hw (by unfold maxLen; omega))
  have F2 : Hid (∀ N W, W.heap[N]? = some (.cells #[.int .i64 xk, .string xn, .string xv] 33 (0, 0)) → Calls Try.prog 14 #[.slice (some ⟨N, 0, none⟩) 1 1] W fun e w' => e = .returned (.bool (mfewB [⟨xk, xn, xv⟩])) ∧ W = w') := Lib.hid (fun N W h => mfew_any (some ⟨N, 0, none⟩) [⟨xk, xn, xv⟩] 1 W (mats_new h) hx (show 1 ≤ maxLen by unfold maxLen; omega))
  have F3 := Lib.hid (fun W (g : Gr w W) => few_any B s d W (hB.gr g) hs hsl)
  have R1 := Lib.hid (fun W (g : Gr w W) => rcheck_any A l c W (h.gr g) hw hl)
  have R2 : Hid (∀ N W, W.heap[N]? = some (.cells #[.int .i64 xk, .string xn, .string xv] 33 (0, 0)) → Calls Try.prog 17 #[.slice (some ⟨N, 0, none⟩) 1 1] W (RChkPost (rchkL [⟨xk, xn, xv⟩]) W)) := Lib.hid (fun N W h => rcheck_any (some ⟨N, 0, none⟩) [⟨xk, xn, xv⟩] 1 W (mats_new h) hx (show 1 ≤ 1099511627776 by omega))
  rw [h1] at F1
  have n1 : ¬ (15 : Int) < (l.length : Int) := by omega
  rw [h3] at F2
  rw [h4] at F3
  have K1 : rchkL l = false := h5
  clear h hw hx hB hs h1 h2 h3 h4
  go_enter Try.func5, Try.ntmps5
  go_wp2_with fail
  refine (CK.out _).mono ?_
  rintro e w1 ⟨rfl, g1⟩
  have c0 := g1.cell (b := w.heap.size) (o := 0) (v := .int .i64 xk) (by go_simp)
  have c1 := g1.cell (b := w.heap.size) (o := 1) (v := .string xn) (by go_simp)
  have c2 := g1.cell (b := w.heap.size) (o := 2) (v := .string xv) (by go_simp)
  have G1 := Lib.hid (((Gr.refl w).alloc _ _).trans g1)
  clear g1
  go_wp2_with fail
  refine (F1.out _ G1.out).mono ?_
  rintro e w2 ⟨rfl, rfl⟩
  go_wp2_with fail
  refine (F2.out _ _ (heap_alloc_new w1 _)).mono ?_
  rintro e w3 ⟨rfl, rfl⟩
  obtain ⟨V, hV⟩ : ∃ V, w1.alloc (.cells #[.int .i64 xk, .string xn, .string xv] 33) = V := ⟨_, rfl⟩
  have kV : Gr w1 V := by rw [← hV]; exact (Gr.refl w1).alloc _ _
  have c0 := kV.cell c0
  have c1 := kV.cell c1
  have c2 := kV.cell c2
  have G2 := Lib.hid (G1.out.trans kV)
  rw [hV]
  clear hV kV
  go_wp2_with fail
  refine (F3.out _ G2.out).mono ?_
  rintro e w4 ⟨rfl, rfl⟩
  go_wp2_with fail
  refine (R1.out _ G2.out).mono ?_
  rintro e w5 ⟨x1, rfl, hx1, g5⟩
  have c0 := g5.cell c0
  have c1 := g5.cell c1
  have c2 := g5.cell c2
  have G5 := Lib.hid (G2.out.trans g5)
  clear g5
  have b1 : (x1 != 0) = true := by rw [K1] at hx1; simpa using hx1
  clear hx1
  go_wp2
  go_ret
  exact ⟨rfl, G5.out⟩
theorem ord_out6 (A : Option Addr) (l : List Mt) (c : Nat) (xk : Int) (xn xv : ByteArray) (B : Option Addr) (s : List Lb) (d : Nat) (w : World) (h : MatsAt w A l) (hw : Wm l) (hl : l.length ≤ 1099511627776) (hx : Wm [⟨xk, xn, xv⟩]) (hB : LabsAt w B s) (hs : Wd s) (hsl : s.length ≤ 1099511627776) (h1 : mfewB l = true) (h2 : l.length ≤ 15) (h3 : mfewB [⟨xk, xn, xv⟩] = true) (h4 : decide (fewP s) = true) (h5 : rchkL l = true) (h6 : rchkL [⟨xk, xn, xv⟩] = false) :
    Calls Try.prog 5 #[.slice A l.length c, .agg #[.int .i64 xk, .string xn, .string xv], .slice B s.length d] w fun e w' => e = .returned (.bool true) ∧ Gr w w' := by
  have CK := Lib.hid (fun W => mknown_any W)
  have F1 := Lib.hid (fun W (g : Gr w W) => mfew_any A l c W (h.gr g) hw (by unfold maxLen; omega))
  have F2 : Hid (∀ N W, W.heap[N]? = some (.cells #[.int .i64 xk, .string xn, .string xv] 33 (0, 0)) → Calls Try.prog 14 #[.slice (some ⟨N, 0, none⟩) 1 1] W fun e w' => e = .returned (.bool (mfewB [⟨xk, xn, xv⟩])) ∧ W = w') := Lib.hid (fun N W h => mfew_any (some ⟨N, 0, none⟩) [⟨xk, xn, xv⟩] 1 W (mats_new h) hx (show 1 ≤ maxLen by unfold maxLen; omega))
  have F3 := Lib.hid (fun W (g : Gr w W) => few_any B s d W (hB.gr g) hs hsl)
  have R1 := Lib.hid (fun W (g : Gr w W) => rcheck_any A l c W (h.gr g) hw hl)
  have R2 : Hid (∀ N W, W.heap[N]? = some (.cells #[.int .i64 xk, .string xn, .string xv] 33 (0, 0)) → Calls Try.prog 17 #[.slice (some ⟨N, 0, none⟩) 1 1] W (RChkPost (rchkL [⟨xk, xn, xv⟩]) W)) := Lib.hid (fun N W h => rcheck_any (some ⟨N, 0, none⟩) [⟨xk, xn, xv⟩] 1 W (mats_new h) hx (show 1 ≤ 1099511627776 by omega))
  rw [h1] at F1
  have n1 : ¬ (15 : Int) < (l.length : Int) := by omega
  rw [h3] at F2
  rw [h4] at F3
  have K1 := Lib.hid h5
  have K2 : rchkL [⟨xk, xn, xv⟩] = false := h6
  clear h hw hx hB hs h1 h2 h3 h4 h5
  go_enter Try.func5, Try.ntmps5
  go_wp2_with fail
  refine (CK.out _).mono ?_
  rintro e w1 ⟨rfl, g1⟩
  have c0 := g1.cell (b := w.heap.size) (o := 0) (v := .int .i64 xk) (by go_simp)
  have c1 := g1.cell (b := w.heap.size) (o := 1) (v := .string xn) (by go_simp)
  have c2 := g1.cell (b := w.heap.size) (o := 2) (v := .string xv) (by go_simp)
  have G1 := Lib.hid (((Gr.refl w).alloc _ _).trans g1)
  clear g1
  go_wp2_with fail
  refine (F1.out _ G1.out).mono ?_
  rintro e w2 ⟨rfl, rfl⟩
  go_wp2_with fail
  refine (F2.out _ _ (heap_alloc_new w1 _)).mono ?_
  rintro e w3 ⟨rfl, rfl⟩
  obtain ⟨V, hV⟩ : ∃ V, w1.alloc (.cells #[.int .i64 xk, .string xn, .string xv] 33) = V := ⟨_, rfl⟩
  have kV : Gr w1 V := by rw [← hV]; exact (Gr.refl w1).alloc _ _
  have c0 := kV.cell c0
  have c1 := kV.cell c1
  have c2 := kV.cell c2
  have G2 := Lib.hid (G1.out.trans kV)
  rw [hV]
  clear hV kV
  go_wp2_with fail
  refine (F3.out _ G2.out).mono ?_
  rintro e w4 ⟨rfl, rfl⟩
  go_wp2_with fail
  refine (R1.out _ G2.out).mono ?_
  rintro e w5 ⟨x1, rfl, hx1, g5⟩
  have c0 := g5.cell c0
  have c1 := g5.cell c1
  have c2 := g5.cell c2
  have G5 := Lib.hid (G2.out.trans g5)
  clear g5
  obtain rfl : x1 = 0 := hx1.2 K1.out
  clear hx1
  go_wp2_with fail
  refine (R2.out _ _ (heap_alloc_new w5 _)).mono ?_
  rintro e w6 ⟨x2, rfl, hx2, g6⟩
  have k6 : Gr w5 w6 := ((Gr.refl w5).alloc _ _).trans g6
  have c0 := k6.cell c0
  have c1 := k6.cell c1
  have c2 := k6.cell c2
  have G6 := Lib.hid (G5.out.trans k6)
  clear k6 g6
  have b2 : (x2 != 0) = true := by rw [K2] at hx2; simpa using hx2
  clear hx2
  go_wp2
  go_ret
  exact ⟨rfl, G6.out⟩
end Go.Proofs.Ytnlfndhgdeapeaa
