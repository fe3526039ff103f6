/- WindowSmall's walk. -/
import Derived.Test.YtjjfkjpkbpefpaaDoorVLawN
import Derived.Test.YtjjfkjpkbpefpaaDoorVSame
namespace Go.Proofs.YtjjfkjpkbpefpaaDoor.Vn
open Go.RowKit
set_option maxRecDepth 100000
set_option maxHeartbeats 8000000

theorem ofI_1 : Flo.ofI 1 = 4607182418800017408 := by decide +kernel
theorem ofI_0 : Flo.ofI 0 = 0 := by decide +kernel
theorem sameB_r (a : Nat) : sameB a a = true := by unfold sameB; simp
theorem sameB_c (v : Nat) : sameB (canon v) v = true := by unfold sameB; rw [canon_idem]; simp
theorem one_str (t len : Int) (v : Nat) (h : 1 ≤ len) : strL [(t, v)] (t - len) t = [(t, v)] := by
  unfold strL strP
  simp; omega
theorem one_none (t b : Int) (v : Nat) : strL [(t, v)] t b = [] := by
  unfold strL strP
  simp
/-- what a function should tell of one value -/
def wantV (k v : Nat) : Nat := if k = 1 then 4607182418800017408 else if k = 11 ∨ k = 12 then 0 else v
theorem one_val (k : Nat) (v L : Nat) (hv : v < 2 ^ 64) (h1 : 1 ≤ k) (h2 : k ≤ 12) (h3 : leastN k = 1) : sameB (valF k [v] L) (wantV k v) = true := by
  have hcl := canon_lt v hv
  rcases (by omega : k = 1 ∨ k = 2 ∨ k = 3 ∨ k = 4 ∨ k = 5 ∨ k = 6 ∨ k = 7 ∨ k = 8 ∨ k = 9 ∨ k = 10 ∨ k = 11 ∨ k = 12) with rfl | rfl | rfl | rfl | rfl | rfl | rfl | rfl | rfl | rfl | rfl | rfl
  · have e : valF 1 [v] L = Flo.ofI 1 := by
      unfold valF
      first | done | (simp only []; done) | (simp only []; rfl) | (simp [sumL, extL, cntL, prsL])
    have e2 : wantV 1 v = 4607182418800017408 := by simp [wantV]
    rw [e, e2, ofI_1]; exact sameB_r _
  · have e : valF 2 [v] L = canon v := by
      unfold valF
      first | done | (simp only []; done) | (simp only []; rfl) | (simp [sumL, extL, cntL, prsL])
    have e2 : wantV 2 v = v := by simp [wantV]
    rw [e, e2]; exact sameB_c v
  · have e : valF 3 [v] L = divC (canon v) (Flo.ofI 1) := by
      unfold valF
      first | done | (simp only []; done) | (simp only []; rfl) | (simp [sumL, extL, cntL, prsL])
    have e2 : wantV 3 v = v := by simp [wantV]
    have e3 : Flo.ofI 1 = Flo.one := ofI_1
    rw [e, e2, e3, divC_one _ hcl, canon_idem]
    exact sameB_c v
  · have e : valF 4 [v] L = canon v := by
      unfold valF
      first | done | (simp only []; done) | (simp only []; rfl) | (simp [sumL, extL, cntL, prsL])
    have e2 : wantV 4 v = v := by simp [wantV]
    rw [e, e2]; exact sameB_c v
  · have e : valF 5 [v] L = canon v := by
      unfold valF
      first | done | (simp only []; done) | (simp only []; rfl) | (simp [sumL, extL, cntL, prsL])
    have e2 : wantV 5 v = v := by simp [wantV]
    rw [e, e2]; exact sameB_c v
  · have e : valF 6 [v] L = canon v := by
      unfold valF
      first | done | (simp only []; done) | (simp only []; rfl) | (simp [sumL, extL, cntL, prsL])
    have e2 : wantV 6 v = v := by simp [wantV]
    rw [e, e2]; exact sameB_c v
  · have e : valF 7 [v] L = canon v := by
      unfold valF
      first | done | (simp only []; done) | (simp only []; rfl) | (simp [sumL, extL, cntL, prsL])
    have e2 : wantV 7 v = v := by simp [wantV]
    rw [e, e2]; exact sameB_c v
  · exact absurd h3 (by decide)
  · exact absurd h3 (by decide)
  · exact absurd h3 (by decide)
  · have e : valF 11 [v] L = Flo.ofI 0 := by
      unfold valF
      first | done | (simp only []; done) | (simp only []; rfl) | (simp [sumL, extL, cntL, prsL])
    have e2 : wantV 11 v = 0 := by simp [wantV]
    rw [e, e2, ofI_0]; exact sameB_r _
  · have e : valF 12 [v] L = Flo.ofI 0 := by
      unfold valF
      first | done | (simp only []; done) | (simp only []; rfl) | (simp [sumL, extL, cntL, prsL])
    have e2 : wantV 12 v = 0 := by simp [wantV]
    rw [e, e2, ofI_0]; exact sameB_r _
theorem one_fn (k : Nat) (t len : Int) (v : Nat) (h : 1 ≤ len) (h1 : 1 ≤ k) (h2 : k ≤ 14) : fnP k [(t, v)] (t - len) t = if leastN k = 1 then some (valF k [v] (Flo.ofI (t - (t - len)))) else none := by
  have hi : isFn (k : Int) = true := by unfold isFn; rw [decide_eq_true (by omega), decide_eq_true (by omega)]; rfl
  unfold fnP outP
  rw [hi, decide_eq_true (by omega), one_str t len v h]
  show (if [v].length < leastN k then none else some (valF k [v] _)) = _
  unfold leastN
  by_cases h3 : k = 8 ∨ k = 9 ∨ k = 10
  · rw [if_pos h3]; simp
  · rw [if_neg h3]; simp
theorem one_fn2 (k : Nat) (t len : Int) (v : Nat) : fnP k [(t, v)] t (t + len) = none := by
  unfold fnP outP
  rw [one_none]
  have : 0 < leastN k := by unfold leastN; split <;> omega
  have e : (vals []).length < leastN k := this
  split
  · rw [show ((k : Nat) : Int).toNat = k from rfl, if_pos e]
  · rfl
theorem cols1 (W : World) (ht : Tab W) (a b : Nat) (hs : sameB a b = true) :
    Calls Tryd.prog 25 #[.agg #[.slice (some ⟨W.heap.size, 0, none⟩) 1 1, .slice (some ⟨W.heap.size + 1, 0, none⟩) 1 1], .agg #[.slice (some ⟨W.heap.size + 2, 0, none⟩) 1 1, .slice (some ⟨W.heap.size + 3, 0, none⟩) 1 1]]
      ((((W.alloc (.cells #[.float .f64 a] 26)).alloc (.cells #[.bool true] 4)).alloc (.cells #[.float .f64 b] 26)).alloc (.cells #[.bool true] 4))
      fun e w' => e = .returned (.bool true) ∧ Gr W w' :=
  cols_any W ht [a] [b] [true] rfl (fun i x y hx hy => by
    match i, hx, hy with
    | 0, hx, hy => simp at hx hy; subst hx; subst hy; exact hs) (by simp) (by simp)
theorem s1_at (w : World) (t : Int) (v : Nat) : At2 encP (w.alloc (.cells #[.int .i64 t, .float .f64 v] 34)) (some ⟨w.heap.size, 0, none⟩) [(t, v)] := at2_one (enc := encP) w (t, v) _ _ rfl _
theorem walkSmall_none (t : Int) (v : Nat) (len : Int) (w : World) (ht : Tab w) (hf : FTab w) (hno : t < -562949953421312 ∨ 562949953421312 < t ∨ len < 1 ∨ 562949953421312 < len) :
    Calls Tryd.prog 8 #[.int .i64 t, .float .f64 v, .int .i64 len] w fun e w' => e = .returned (.bool true) ∧ Gr w w' := by
  have CK := Lib.hid (known_any w ht hf)
  clear ht hf
  by_cases h1 : t < -562949953421312
  · have q1 : decide (t < -562949953421312) = true := decide_eq_true h1
    clear hno
    go_enter Tryd.func8, Tryd.ntmps8
    go_wp2_with (first | (go_at_call 9; refine CK.out.mono ?_; rintro e w1 ⟨rfl, g1⟩) | fail)
    go_ret
    exact ⟨rfl, g1⟩
  by_cases h2 : 562949953421312 < t
  · have q1 : decide (t < -562949953421312) = false := decide_eq_false h1
    have q2 : decide (t > 562949953421312) = true := decide_eq_true h2
    clear hno
    go_enter Tryd.func8, Tryd.ntmps8
    go_wp2_with (first | (go_at_call 9; refine CK.out.mono ?_; rintro e w1 ⟨rfl, g1⟩) | fail)
    go_ret
    exact ⟨rfl, g1⟩
  by_cases h3 : len < 1
  · have q1 : decide (t < -562949953421312) = false := decide_eq_false h1
    have q2 : decide (t > 562949953421312) = false := decide_eq_false h2
    have q3 : decide (len < 1) = true := decide_eq_true h3
    clear hno
    go_enter Tryd.func8, Tryd.ntmps8
    go_wp2_with (first | (go_at_call 9; refine CK.out.mono ?_; rintro e w1 ⟨rfl, g1⟩) | fail)
    go_ret
    exact ⟨rfl, g1⟩
  · have q1 : decide (t < -562949953421312) = false := decide_eq_false h1
    have q2 : decide (t > 562949953421312) = false := decide_eq_false h2
    have q3 : decide (len < 1) = false := decide_eq_false h3
    have q4 : decide (len > 562949953421312) = true := decide_eq_true (by omega)
    clear hno
    go_enter Tryd.func8, Tryd.ntmps8
    go_wp2_with (first | (go_at_call 9; refine CK.out.mono ?_; rintro e w1 ⟨rfl, g1⟩) | fail)
    go_ret
    exact ⟨rfl, g1⟩
theorem walkSmall_some (t : Int) (v : Nat) (len : Int) (w : World) (ht : Tab w) (hf : FTab w) (hv : v < 2 ^ 64) (a1 : -562949953421312 ≤ t) (a2 : t ≤ 562949953421312) (a3 : 1 ≤ len) (a4 : len ≤ 562949953421312) :
    Calls Tryd.prog 8 #[.int .i64 t, .float .f64 v, .int .i64 len] w fun e w' => e = .returned (.bool true) ∧ Gr w w' := by
  have CK := Lib.hid (known_any w ht hf)
  have HT := Lib.hid ht; have HF := Lib.hid hf; have HVB := Lib.hid hv
  have q1 : decide (t < -562949953421312) = false := decide_eq_false (by omega)
  have q2 : decide (t > 562949953421312) = false := decide_eq_false (by omega)
  have q3 : decide (len < 1) = false := decide_eq_false (by omega)
  have q4 : decide (len > 562949953421312) = false := decide_eq_false (by omega)
  have HSM : Hid (∀ w1, Gr w w1 → SmpH (w1.alloc (.cells #[.int .i64 t, .float .f64 v] 34)) (some ⟨w1.heap.size, 0, none⟩) 1 [(t, v)]) := Lib.hid fun w1 g => ⟨ht.gv (g.alloc _ _), hf.gr (g.alloc _ _), s1_at w1 t v, by simp, by simp, by unfold AscT; simp, fun q hq => by simp at hq; subst hq; exact hv⟩
  have C1 : Hid (∀ (k : Nat) A W, SmpH W A 1 [(t, v)] → Calls Tryd.prog 12 #[.int .i64 k, .slice A 1 1, .int .i64 (t - len), .int .i64 t] W fun e w' => e = .returned (optV (fnP k [(t, v)] (t - len) t)) ∧ Gr W w') := Lib.hid fun k A W h => Fn_any k A 1 [(t, v)] (t - len) t W h (by omega) (by omega)
  have C2 : Hid (∀ (k : Nat) A W, SmpH W A 1 [(t, v)] → Calls Tryd.prog 12 #[.int .i64 k, .slice A 1 1, .int .i64 t, .int .i64 (t + len)] W fun e w' => e = .returned (optV (fnP k [(t, v)] t (t + len))) ∧ Gr W w') := Lib.hid fun k A W h => Fn_any k A 1 [(t, v)] t (t + len) W h (by omega) (by omega)
  have C2' : Hid (∀ (k : Nat) A W, SmpH W A 1 [(t, v)] → Calls Tryd.prog 12 #[.int .i64 k, .slice A 1 1, .int .i64 t, .int .i64 (t + len)] W fun e w' => e = .returned (.tuple #[.float .f64 0, .bool false]) ∧ Gr W w') := Lib.hid fun k A W h => by
    have := C2.out k A W h
    rwa [one_fn2 k t len v] at this
  have CA : Hid (∀ (k : Nat) A W, 1 ≤ k → k ≤ 12 → leastN k = 1 → SmpH W A 1 [(t, v)] → ∃ a, sameB a (wantV k v) = true ∧ Calls Tryd.prog 12 #[.int .i64 k, .slice A 1 1, .int .i64 (t - len), .int .i64 t] W fun e w' => e = .returned (.tuple #[.float .f64 a, .bool true]) ∧ Gr W w') := Lib.hid fun k A W h1 h2 h3 h => by
    have := C1.out k A W h
    rw [one_fn k t len v a3 h1 (by omega), if_pos h3] at this
    exact ⟨_, one_val k v _ hv h1 h2 h3, this⟩
  have CZ : Hid (∀ (k : Nat) A W, 13 ≤ k → k ≤ 14 → SmpH W A 1 [(t, v)] → ∃ a, Calls Tryd.prog 12 #[.int .i64 k, .slice A 1 1, .int .i64 (t - len), .int .i64 t] W fun e w' => e = .returned (.tuple #[.float .f64 a, .bool true]) ∧ Gr W w') := Lib.hid fun k A W h1 h2 h => by
    have := C1.out k A W h
    rw [one_fn k t len v a3 (by omega) h2, if_pos (by unfold leastN; rw [if_neg (by omega)])] at this
    exact ⟨_, this⟩
  have CB : Hid (∀ (k : Nat) A W, 8 ≤ k → k ≤ 10 → SmpH W A 1 [(t, v)] → Calls Tryd.prog 12 #[.int .i64 k, .slice A 1 1, .int .i64 (t - len), .int .i64 t] W fun e w' => e = .returned (.tuple #[.float .f64 0, .bool false]) ∧ Gr W w') := Lib.hid fun k A W h1 h2 h => by
    have := C1.out k A W h
    rw [one_fn k t len v a3 (by omega) (by omega), if_neg (by unfold leastN; rw [if_pos (by omega)]; omega)] at this
    exact this
  have HW : Hid (wantV 1 v = 4607182418800017408 ∧ wantV 2 v = v ∧ wantV 3 v = v ∧ wantV 4 v = v ∧ wantV 5 v = v ∧ wantV 6 v = v ∧ wantV 7 v = v ∧ wantV 11 v = 0 ∧ wantV 12 v = 0) := Lib.hid (by simp [wantV])
  clear ht hf hv C1 C2
  go_enter Tryd.func8, Tryd.ntmps8
  go_wp2_with (first | (go_at_call 9; refine CK.out.mono ?_; rintro e w1 ⟨rfl, g1⟩; have HG1 := Lib.hid g1; clear g1) | fail)
  have HS1 := Lib.hid (HSM.out w1 HG1.out)
  have HG2 := Lib.hid (HG1.out.alloc #[.int .i64 t, .float .f64 v] 34)
  obtain ⟨N, hN⟩ : ∃ N, w1.heap.size = N := ⟨_, rfl⟩
  obtain ⟨X, hX⟩ : ∃ X, w1.alloc (.cells #[.int .i64 t, .float .f64 v] 34) = X := ⟨_, rfl⟩
  rw [hN, hX] at HS1
  rw [hX] at HG2
  rw [hN, hX]
  clear hN hX HSM CK
  go_loopw [8] (fun i9 wr => ∃ k : Nat, 1 ≤ k ∧ k ≤ 15 ∧ i9 = .int .i64 k ∧ Hid (Gr X wr)) (fun i9 _ => 15 - (intOf i9).toNat)
  case atStart => exact ⟨1, by omega, by omega, rfl, Lib.hid (Gr.refl _)⟩
  case round =>
    obtain ⟨k, h1, h2, rfl, HG⟩ := hrel
    by_cases hlt : k ≤ 14
    · have HSW := Lib.hid (HS1.out.gr HG.out)
      rcases (by omega : k = 1 ∨ k = 2 ∨ k = 3 ∨ k = 4 ∨ k = 5 ∨ k = 6 ∨ k = 7 ∨ k = 8 ∨ k = 9 ∨ k = 10 ∨ k = 11 ∨ k = 12 ∨ k = 13 ∨ k = 14) with rfl | rfl | rfl | rfl | rfl | rfl | rfl | rfl | rfl | rfl | rfl | rfl | rfl | rfl
      · obtain ⟨a, hs, ca⟩ := CA.out 1 (some ⟨N, 0, none⟩) wr (by omega) (by omega) (by decide) HSW.out
        rw [HW.out.1] at hs
        have HSA := Lib.hid hs; have CA1 := Lib.hid ca
        clear hs ca
        clear h1 h2 hlt
        go_wp2_with fail
        refine CA1.out.mono ?_
        rintro e w4 ⟨rfl, g4⟩
        have HG4 := Lib.hid (HG.out.trans g4)
        have CA2 := Lib.hid (C2'.out 1 (some ⟨N, 0, none⟩) w4 (HSW.out.gr g4))
        clear g4
        go_wp2_with fail
        refine CA2.out.mono ?_
        rintro e w5 ⟨rfl, g5⟩
        have HG5 := Lib.hid (HG4.out.trans g5)
        clear g5
        have CCO := Lib.hid (cols1 w5 (HT.out.gv (HG2.out.trans HG5.out)) a _ HSA.out)
        go_wp2_with (first | (go_at_call 25; refine CCO.out.mono ?_; rintro e w6 ⟨rfl, g6⟩; have HG6 := Lib.hid (HG5.out.trans g6); clear g6) | fail)
        go_roundw
        case rel => exact ⟨2, by omega, by omega, by go_num, HG6⟩
        case measure => simp [intOf]
      · obtain ⟨a, hs, ca⟩ := CA.out 2 (some ⟨N, 0, none⟩) wr (by omega) (by omega) (by decide) HSW.out
        rw [HW.out.2.1] at hs
        have HSA := Lib.hid hs; have CA1 := Lib.hid ca
        clear hs ca
        clear h1 h2 hlt
        go_wp2_with fail
        refine CA1.out.mono ?_
        rintro e w4 ⟨rfl, g4⟩
        have HG4 := Lib.hid (HG.out.trans g4)
        have CA2 := Lib.hid (C2'.out 2 (some ⟨N, 0, none⟩) w4 (HSW.out.gr g4))
        clear g4
        go_wp2_with fail
        refine CA2.out.mono ?_
        rintro e w5 ⟨rfl, g5⟩
        have HG5 := Lib.hid (HG4.out.trans g5)
        clear g5
        have CCO := Lib.hid (cols1 w5 (HT.out.gv (HG2.out.trans HG5.out)) a _ HSA.out)
        go_wp2_with (first | (go_at_call 25; refine CCO.out.mono ?_; rintro e w6 ⟨rfl, g6⟩; have HG6 := Lib.hid (HG5.out.trans g6); clear g6) | fail)
        go_roundw
        case rel => exact ⟨3, by omega, by omega, by go_num, HG6⟩
        case measure => simp [intOf]
      · obtain ⟨a, hs, ca⟩ := CA.out 3 (some ⟨N, 0, none⟩) wr (by omega) (by omega) (by decide) HSW.out
        rw [HW.out.2.2.1] at hs
        have HSA := Lib.hid hs; have CA1 := Lib.hid ca
        clear hs ca
        clear h1 h2 hlt
        go_wp2_with fail
        refine CA1.out.mono ?_
        rintro e w4 ⟨rfl, g4⟩
        have HG4 := Lib.hid (HG.out.trans g4)
        have CA2 := Lib.hid (C2'.out 3 (some ⟨N, 0, none⟩) w4 (HSW.out.gr g4))
        clear g4
        go_wp2_with fail
        refine CA2.out.mono ?_
        rintro e w5 ⟨rfl, g5⟩
        have HG5 := Lib.hid (HG4.out.trans g5)
        clear g5
        have CCO := Lib.hid (cols1 w5 (HT.out.gv (HG2.out.trans HG5.out)) a _ HSA.out)
        go_wp2_with (first | (go_at_call 25; refine CCO.out.mono ?_; rintro e w6 ⟨rfl, g6⟩; have HG6 := Lib.hid (HG5.out.trans g6); clear g6) | fail)
        go_roundw
        case rel => exact ⟨4, by omega, by omega, by go_num, HG6⟩
        case measure => simp [intOf]
      · obtain ⟨a, hs, ca⟩ := CA.out 4 (some ⟨N, 0, none⟩) wr (by omega) (by omega) (by decide) HSW.out
        rw [HW.out.2.2.2.1] at hs
        have HSA := Lib.hid hs; have CA1 := Lib.hid ca
        clear hs ca
        clear h1 h2 hlt
        go_wp2_with fail
        refine CA1.out.mono ?_
        rintro e w4 ⟨rfl, g4⟩
        have HG4 := Lib.hid (HG.out.trans g4)
        have CA2 := Lib.hid (C2'.out 4 (some ⟨N, 0, none⟩) w4 (HSW.out.gr g4))
        clear g4
        go_wp2_with fail
        refine CA2.out.mono ?_
        rintro e w5 ⟨rfl, g5⟩
        have HG5 := Lib.hid (HG4.out.trans g5)
        clear g5
        have CCO := Lib.hid (cols1 w5 (HT.out.gv (HG2.out.trans HG5.out)) a _ HSA.out)
        go_wp2_with (first | (go_at_call 25; refine CCO.out.mono ?_; rintro e w6 ⟨rfl, g6⟩; have HG6 := Lib.hid (HG5.out.trans g6); clear g6) | fail)
        go_roundw
        case rel => exact ⟨5, by omega, by omega, by go_num, HG6⟩
        case measure => simp [intOf]
      · obtain ⟨a, hs, ca⟩ := CA.out 5 (some ⟨N, 0, none⟩) wr (by omega) (by omega) (by decide) HSW.out
        rw [HW.out.2.2.2.2.1] at hs
        have HSA := Lib.hid hs; have CA1 := Lib.hid ca
        clear hs ca
        clear h1 h2 hlt
        go_wp2_with fail
        refine CA1.out.mono ?_
        rintro e w4 ⟨rfl, g4⟩
        have HG4 := Lib.hid (HG.out.trans g4)
        have CA2 := Lib.hid (C2'.out 5 (some ⟨N, 0, none⟩) w4 (HSW.out.gr g4))
        clear g4
        go_wp2_with fail
        refine CA2.out.mono ?_
        rintro e w5 ⟨rfl, g5⟩
        have HG5 := Lib.hid (HG4.out.trans g5)
        clear g5
        have CCO := Lib.hid (cols1 w5 (HT.out.gv (HG2.out.trans HG5.out)) a _ HSA.out)
        go_wp2_with (first | (go_at_call 25; refine CCO.out.mono ?_; rintro e w6 ⟨rfl, g6⟩; have HG6 := Lib.hid (HG5.out.trans g6); clear g6) | fail)
        go_roundw
        case rel => exact ⟨6, by omega, by omega, by go_num, HG6⟩
        case measure => simp [intOf]
      · obtain ⟨a, hs, ca⟩ := CA.out 6 (some ⟨N, 0, none⟩) wr (by omega) (by omega) (by decide) HSW.out
        rw [HW.out.2.2.2.2.2.1] at hs
        have HSA := Lib.hid hs; have CA1 := Lib.hid ca
        clear hs ca
        clear h1 h2 hlt
        go_wp2_with fail
        refine CA1.out.mono ?_
        rintro e w4 ⟨rfl, g4⟩
        have HG4 := Lib.hid (HG.out.trans g4)
        have CA2 := Lib.hid (C2'.out 6 (some ⟨N, 0, none⟩) w4 (HSW.out.gr g4))
        clear g4
        go_wp2_with fail
        refine CA2.out.mono ?_
        rintro e w5 ⟨rfl, g5⟩
        have HG5 := Lib.hid (HG4.out.trans g5)
        clear g5
        have CCO := Lib.hid (cols1 w5 (HT.out.gv (HG2.out.trans HG5.out)) a _ HSA.out)
        go_wp2_with (first | (go_at_call 25; refine CCO.out.mono ?_; rintro e w6 ⟨rfl, g6⟩; have HG6 := Lib.hid (HG5.out.trans g6); clear g6) | fail)
        go_roundw
        case rel => exact ⟨7, by omega, by omega, by go_num, HG6⟩
        case measure => simp [intOf]
      · obtain ⟨a, hs, ca⟩ := CA.out 7 (some ⟨N, 0, none⟩) wr (by omega) (by omega) (by decide) HSW.out
        rw [HW.out.2.2.2.2.2.2.1] at hs
        have HSA := Lib.hid hs; have CA1 := Lib.hid ca
        clear hs ca
        clear h1 h2 hlt
        go_wp2_with fail
        refine CA1.out.mono ?_
        rintro e w4 ⟨rfl, g4⟩
        have HG4 := Lib.hid (HG.out.trans g4)
        have CA2 := Lib.hid (C2'.out 7 (some ⟨N, 0, none⟩) w4 (HSW.out.gr g4))
        clear g4
        go_wp2_with fail
        refine CA2.out.mono ?_
        rintro e w5 ⟨rfl, g5⟩
        have HG5 := Lib.hid (HG4.out.trans g5)
        clear g5
        have CCO := Lib.hid (cols1 w5 (HT.out.gv (HG2.out.trans HG5.out)) a _ HSA.out)
        go_wp2_with (first | (go_at_call 25; refine CCO.out.mono ?_; rintro e w6 ⟨rfl, g6⟩; have HG6 := Lib.hid (HG5.out.trans g6); clear g6) | fail)
        go_roundw
        case rel => exact ⟨8, by omega, by omega, by go_num, HG6⟩
        case measure => simp [intOf]
      · have CA1 := Lib.hid (CB.out 8 (some ⟨N, 0, none⟩) wr (by omega) (by omega) HSW.out)
        clear h1 h2 hlt
        go_wp2_with fail
        refine CA1.out.mono ?_
        rintro e w4 ⟨rfl, g4⟩
        have HG4 := Lib.hid (HG.out.trans g4)
        have CA2 := Lib.hid (C2'.out 8 (some ⟨N, 0, none⟩) w4 (HSW.out.gr g4))
        clear g4
        go_wp2_with fail
        refine CA2.out.mono ?_
        rintro e w5 ⟨rfl, g5⟩
        have HG5 := Lib.hid (HG4.out.trans g5)
        clear g5
        go_wp2_with fail
        go_roundw
        case rel => exact ⟨9, by omega, by omega, by go_num, HG5⟩
        case measure => simp [intOf]
      · have CA1 := Lib.hid (CB.out 9 (some ⟨N, 0, none⟩) wr (by omega) (by omega) HSW.out)
        clear h1 h2 hlt
        go_wp2_with fail
        refine CA1.out.mono ?_
        rintro e w4 ⟨rfl, g4⟩
        have HG4 := Lib.hid (HG.out.trans g4)
        have CA2 := Lib.hid (C2'.out 9 (some ⟨N, 0, none⟩) w4 (HSW.out.gr g4))
        clear g4
        go_wp2_with fail
        refine CA2.out.mono ?_
        rintro e w5 ⟨rfl, g5⟩
        have HG5 := Lib.hid (HG4.out.trans g5)
        clear g5
        go_wp2_with fail
        go_roundw
        case rel => exact ⟨10, by omega, by omega, by go_num, HG5⟩
        case measure => simp [intOf]
      · have CA1 := Lib.hid (CB.out 10 (some ⟨N, 0, none⟩) wr (by omega) (by omega) HSW.out)
        clear h1 h2 hlt
        go_wp2_with fail
        refine CA1.out.mono ?_
        rintro e w4 ⟨rfl, g4⟩
        have HG4 := Lib.hid (HG.out.trans g4)
        have CA2 := Lib.hid (C2'.out 10 (some ⟨N, 0, none⟩) w4 (HSW.out.gr g4))
        clear g4
        go_wp2_with fail
        refine CA2.out.mono ?_
        rintro e w5 ⟨rfl, g5⟩
        have HG5 := Lib.hid (HG4.out.trans g5)
        clear g5
        go_wp2_with fail
        go_roundw
        case rel => exact ⟨11, by omega, by omega, by go_num, HG5⟩
        case measure => simp [intOf]
      · obtain ⟨a, hs, ca⟩ := CA.out 11 (some ⟨N, 0, none⟩) wr (by omega) (by omega) (by decide) HSW.out
        rw [HW.out.2.2.2.2.2.2.2.1] at hs
        have HSA := Lib.hid hs; have CA1 := Lib.hid ca
        clear hs ca
        clear h1 h2 hlt
        go_wp2_with fail
        refine CA1.out.mono ?_
        rintro e w4 ⟨rfl, g4⟩
        have HG4 := Lib.hid (HG.out.trans g4)
        have CA2 := Lib.hid (C2'.out 11 (some ⟨N, 0, none⟩) w4 (HSW.out.gr g4))
        clear g4
        go_wp2_with fail
        refine CA2.out.mono ?_
        rintro e w5 ⟨rfl, g5⟩
        have HG5 := Lib.hid (HG4.out.trans g5)
        clear g5
        have CCO := Lib.hid (cols1 w5 (HT.out.gv (HG2.out.trans HG5.out)) a _ HSA.out)
        go_wp2_with (first | (go_at_call 25; refine CCO.out.mono ?_; rintro e w6 ⟨rfl, g6⟩; have HG6 := Lib.hid (HG5.out.trans g6); clear g6) | fail)
        go_roundw
        case rel => exact ⟨12, by omega, by omega, by go_num, HG6⟩
        case measure => simp [intOf]
      · obtain ⟨a, hs, ca⟩ := CA.out 12 (some ⟨N, 0, none⟩) wr (by omega) (by omega) (by decide) HSW.out
        rw [HW.out.2.2.2.2.2.2.2.2] at hs
        have HSA := Lib.hid hs; have CA1 := Lib.hid ca
        clear hs ca
        clear h1 h2 hlt
        go_wp2_with fail
        refine CA1.out.mono ?_
        rintro e w4 ⟨rfl, g4⟩
        have HG4 := Lib.hid (HG.out.trans g4)
        have CA2 := Lib.hid (C2'.out 12 (some ⟨N, 0, none⟩) w4 (HSW.out.gr g4))
        clear g4
        go_wp2_with fail
        refine CA2.out.mono ?_
        rintro e w5 ⟨rfl, g5⟩
        have HG5 := Lib.hid (HG4.out.trans g5)
        clear g5
        have CCO := Lib.hid (cols1 w5 (HT.out.gv (HG2.out.trans HG5.out)) a _ HSA.out)
        go_wp2_with (first | (go_at_call 25; refine CCO.out.mono ?_; rintro e w6 ⟨rfl, g6⟩; have HG6 := Lib.hid (HG5.out.trans g6); clear g6) | fail)
        go_roundw
        case rel => exact ⟨13, by omega, by omega, by go_num, HG6⟩
        case measure => simp [intOf]
      · obtain ⟨a, ca⟩ := CZ.out 13 (some ⟨N, 0, none⟩) wr (by omega) (by omega) HSW.out
        have CA1 := Lib.hid ca
        clear ca
        clear h1 h2 hlt
        go_wp2_with fail
        refine CA1.out.mono ?_
        rintro e w4 ⟨rfl, g4⟩
        have HG4 := Lib.hid (HG.out.trans g4)
        have CA2 := Lib.hid (C2'.out 13 (some ⟨N, 0, none⟩) w4 (HSW.out.gr g4))
        clear g4
        go_wp2_with fail
        refine CA2.out.mono ?_
        rintro e w5 ⟨rfl, g5⟩
        have HG5 := Lib.hid (HG4.out.trans g5)
        clear g5
        go_wp2_with fail
        go_roundw
        case rel => exact ⟨14, by omega, by omega, by go_num, HG5⟩
        case measure => simp [intOf]
      · obtain ⟨a, ca⟩ := CZ.out 14 (some ⟨N, 0, none⟩) wr (by omega) (by omega) HSW.out
        have CA1 := Lib.hid ca
        clear ca
        clear h1 h2 hlt
        go_wp2_with fail
        refine CA1.out.mono ?_
        rintro e w4 ⟨rfl, g4⟩
        have HG4 := Lib.hid (HG.out.trans g4)
        have CA2 := Lib.hid (C2'.out 14 (some ⟨N, 0, none⟩) w4 (HSW.out.gr g4))
        clear g4
        go_wp2_with fail
        refine CA2.out.mono ?_
        rintro e w5 ⟨rfl, g5⟩
        have HG5 := Lib.hid (HG4.out.trans g5)
        clear g5
        go_wp2_with fail
        go_roundw
        case rel => exact ⟨15, by omega, by omega, by go_num, HG5⟩
        case measure => simp [intOf]
    · obtain rfl : k = 15 := by omega
      clear hlt h1 h2
      go_wp2
      go_ret
      exact ⟨rfl, HG2.out.trans HG.out⟩
theorem walkSmall (t : Int) (v : Nat) (len : Int) (w : World) (ht : Tab w) (hf : FTab w) (hv : v < 2 ^ 64) :
    Calls Tryd.prog 8 #[.int .i64 t, .float .f64 v, .int .i64 len] w fun e w' => e = .returned (.bool true) ∧ Gr w w' := by
  by_cases hno : t < -562949953421312 ∨ 562949953421312 < t ∨ len < 1 ∨ 562949953421312 < len
  · exact walkSmall_none t v len w ht hf hno
  · exact walkSmall_some t v len w ht hf hv (by omega) (by omega) (by omega) (by omega)
end Go.Proofs.YtjjfkjpkbpefpaaDoor.Vn
