/- WindowSlides' walk. -/
import Derived.Test.YtjjfkjpkbpefpaaDoorVSlide
import Derived.Test.YtjjfkjpkbpefpaaDoorVLawF
import Derived.Test.YtjjfkjpkbpefpaaDoorVSame
namespace Go.Proofs.YtjjfkjpkbpefpaaDoor.Vn
open Go.RowKit
set_option maxRecDepth 100000
set_option maxHeartbeats 8000000
attribute [local irreducible] wpQuiet

theorem slide_err (fn s e p len off : Int) (A : Option Addr) (c m : Nat) (l : List Sm) (w : World) (hne : chkE fn s e p len off ≠ 0) :
    Calls Tryd.prog 23 #[.int .i64 fn, .slice A m c, .agg #[.int .i64 s, .int .i64 e, .int .i64 p], .int .i64 len, .int .i64 off] w (SlidePost fn l s e p len off w) := by
  have HPOST : Hid (∀ W, Gr w W → SlidePost fn l s e p len off w (.returned (.tuple #[.agg #[.slice none 0 0, .slice none 0 0], .int .i64 (chkE fn s e p len off)])) W) := Lib.hid fun W g => ⟨g, .inl ⟨hne, rfl⟩⟩
  have CCH := Lib.hid (fun W => wcheck_any fn s e p len off W)
  obtain ⟨x, hx⟩ : ∃ x, chkE fn s e p len off = x := ⟨_, rfl⟩
  rw [hx] at hne HPOST CCH
  have d1 : (x != 0) = true := by simpa using hne
  have d2 : (x == 0) = false := by simpa using hne
  have hres : Tryd.f23.results = #[.cell 10 45, .tmp 11] := by kernel_rfl
  obtain ⟨W1, hW1, g1, hb1⟩ := fresh w #[.int .i64 s, .int .i64 e, .int .i64 p] 41
  have hs1 : W1.heap.size = w.heap.size + 1 := by rw [← hW1]; simp
  obtain ⟨W2, hW2, g2, -⟩ := fresh W1 #[.slice none 0 0, .slice none 0 0] 45
  have hR2 : W2.heap[w.heap.size + 1]? = some (.cells #[.slice none 0 0, .slice none 0 0] 45 (0, 0)) := by rw [← hW2, ← hs1]; exact heap_alloc_new _ _
  have a0 := g2.cell (hb1 0 _ rfl)
  have a1 := g2.cell (hb1 1 (.int .i64 e) rfl)
  have a2 := g2.cell (hb1 2 (.int .i64 p) rfl)
  have HW1 := Lib.hid hW1; have HW2 := Lib.hid hW2
  have HR2 := Lib.hid hR2
  have HG2 := Lib.hid (g1.trans g2)
  obtain ⟨R, hR⟩ : ∃ R, w.heap.size + 1 = R := ⟨_, rfl⟩
  have hRR := Lib.hid hR
  clear hW1 hW2 g1 g2 hb1 hR2 hx hs1
  go_enter Tryd.func23, Tryd.ntmps23
  go_wp2_with fail
  rw [HW1.out, HW2.out]
  refine wp_scope3 (fun _ _ _ => False) (fun _ _ _ => 0) (fun _ _ _ h => h.elim) rfl rfl rfl ?p2 ?p1 ?p0 ?first
  case p2 => exact fun _ _ _ h _ => h.elim
  case p1 => exact fun _ _ _ _ h _ => h.elim
  case p0 => exact fun _ _ _ _ h _ => h.elim
  case first =>
    intro hp0
    clear hp0
    refine ⟨0, ?_⟩
    rw [hRR.out] at HR2
    go_wp2_with fail
    refine (CCH.out _).mono ?_
    rintro E w3 ⟨rfl, g3⟩
    have hrb := (g3.b.block R (Array.getElem?_eq_some_iff.1 HR2.out).1).trans HR2.out
    have o0 := cell_of_row w3 R 0 _ _ _ hrb
    have o1 := cell_of_row w3 R 1 _ _ _ hrb
    have o2 := frozen_of_row w3 R 0 _ _ hrb
    have o3 := frozen_of_row w3 R 1 _ _ hrb
    have o1' : (w3.setCell ⟨R, 0, none⟩ (.slice none 0 0)).cell? ⟨R, 1, none⟩ = some (.slice none 0 0) := by rw [World.cell?_setCell_other _ _ _ _ (by simp)]; exact o1
    have HR4 := Lib.hid (box2 hrb (.slice none 0 0) (.slice none 0 0))
    have HFIN := Lib.hid (HPOST.out _ ((HG2.out.trans g3).grown (gset w3 R 0 1 (.slice none 0 0) (.slice none 0 0)) (fun k hk => by cases hk; have := hRR.out; omega)))
    clear hrb g3 a0 a1 a2
    go_wp2
    rw [jumps_ret]
    exact bodyPost_ret (v := .tuple #[.agg #[.slice none 0 0, .slice none 0 0], .int .i64 x]) (results_cell2 hres _ _ R _ _ (0, 0) _ rfl HR4.out Tryd.underlying45 rfl col_size) rfl HFIN.out
theorem slide_any (fn s e p len off : Int) (A : Option Addr) (c : Nat) (l : List Sm) (w : World) (h : SmpH w A c l) :
    Calls Tryd.prog 23 #[.int .i64 fn, .slice A l.length c, .agg #[.int .i64 s, .int .i64 e, .int .i64 p], .int .i64 len, .int .i64 off] w (SlidePost fn l s e p len off w) := by
  by_cases hc : chkE fn s e p len off = 0
  · obtain ⟨n, hn, hn1, hG⟩ := gridH hc
    have hif := (chk_0 hc).2.1
    unfold isFn at hif
    simp only [Bool.and_eq_true, decide_eq_true_eq] at hif
    obtain ⟨f, rfl⟩ : ∃ f : Nat, fn = f := ⟨fn.toNat, by omega⟩
    exact slide_ok f (by omega) (by omega) s e p len off A c l w h hc n hn hn1 hG
  · exact slide_err fn s e p len off A c l.length l w hc
theorem rslide_any (fn s e p len off : Int) (A : Option Addr) (c : Nat) (l : List Sm) (w : World) (h : SmpH w A c l) :
    Calls Tryd.prog 24 #[.int .i64 fn, .slice A l.length c, .agg #[.int .i64 s, .int .i64 e, .int .i64 p], .int .i64 len, .int .i64 off] w (RslPost fn l s e p len off w) := by
  by_cases hc : chkE fn s e p len off = 0
  · obtain ⟨n, hn, hn1, hG⟩ := gridH hc
    exact rslide_ok fn s e p len off A c l w h.at_ h.hn hc n hn hG
  · refine (rslide_err fn s e p len off A c l.length w hc).mono ?_
    rintro E w' ⟨he, hg⟩
    exact ⟨hg, .inl ⟨hc, he⟩⟩
theorem walkSlides_none (A : Option Addr) (c : Nat) (l : List Sm) (s e p fn len off : Int) (w : World) (ht : Tab w) (hf : FTab w) (h : At2 encP w A l) (hm : l.length ≤ maxLen) (hr : ¬ rightP l) :
    Calls Tryd.prog 5 #[.slice A l.length c, .agg #[.int .i64 s, .int .i64 e, .int .i64 p], .int .i64 fn, .int .i64 len, .int .i64 off] w fun e w' => e = .returned (.bool true) ∧ Gr w w' := by
  obtain ⟨W1, hW1, g1, hb1⟩ := fresh w #[.int .i64 s, .int .i64 e, .int .i64 p] 41
  have HW1 := Lib.hid hW1; have HG1 := Lib.hid g1
  have CK := Lib.hid (known_any W1 (ht.gv g1) (hf.gr g1))
  have CR2 : Hid (∀ W, Gr w W → Calls Tryd.prog 10 #[.slice A l.length c] W fun e w' => e = .returned (.bool false) ∧ Gr W w') := Lib.hid fun W g => (right_any A c l W (h.gr g) hm).mono fun e w' ⟨b, he, hb, hg⟩ => ⟨by
      cases b
      · exact he
      · exact absurd (hb.1 rfl) hr, hg⟩
  clear h hm ht hf hr hW1 g1 hb1
  go_enter Tryd.func5, Tryd.ntmps5
  go_wp2_with (first
      | (go_at_call 9; rw [HW1.out]; refine CK.out.mono ?_; rintro e w1 ⟨rfl, g1⟩; have HG2 := Lib.hid (HG1.out.trans g1); clear g1)
      | (go_at_call 10; refine (CR2.out _ HG2.out).mono ?_; rintro e w2 ⟨rfl, g2⟩; have HG3 := Lib.hid (HG2.out.trans g2); clear g2)
      | fail)
  go_ret
  exact ⟨rfl, HG3.out⟩
theorem walkSlides_ok (A : Option Addr) (c : Nat) (l : List Sm) (s e p fn len off : Int) (w : World) (h : SmpH w A c l) (hr : rightP l) (hc : chkE fn s e p len off = 0) :
    Calls Tryd.prog 5 #[.slice A l.length c, .agg #[.int .i64 s, .int .i64 e, .int .i64 p], .int .i64 fn, .int .i64 len, .int .i64 off] w fun e w' => e = .returned (.bool true) ∧ Gr w w' := by
  obtain ⟨W1, hW1, g1, hb1⟩ := fresh w #[.int .i64 s, .int .i64 e, .int .i64 p] 41
  have a0 := hb1 0 (.int .i64 s) rfl
  have a1 := hb1 1 (.int .i64 e) rfl
  have a2 := hb1 2 (.int .i64 p) rfl
  have hml : l.length ≤ maxLen := by have := h.hn; unfold maxLen; omega
  have HW1 := Lib.hid hW1; have HG1 := Lib.hid g1
  have CK := Lib.hid (known_any W1 (h.ht.gv g1) (h.hf.gr g1))
  have CR2 : Hid (∀ W, Gr w W → Calls Tryd.prog 10 #[.slice A l.length c] W fun e w' => e = .returned (.bool true) ∧ Gr W w') := Lib.hid fun W g => (right_any A c l W (h.at_.gr g) hml).mono fun e w' ⟨b, he, hb, hg⟩ => ⟨by rw [he, hb.2 hr], hg⟩
  obtain ⟨n, hn, hn1, hG⟩ := gridH hc
  obtain ⟨hc0, -, hlb, hob⟩ := chk_0 hc
  obtain ⟨hg, h4⟩ := chE_0 hc0
  obtain ⟨s1, e2, hse, p1, p2⟩ := gridB_t hg
  have CSL : Hid (∀ W, Gr w W → Calls Tryd.prog 23 #[.int .i64 fn, .slice A l.length c, .agg #[.int .i64 s, .int .i64 e, .int .i64 p], .int .i64 len, .int .i64 off] W fun E w' => Gr W w' ∧ ∃ A1 A2, E = .returned (.tuple #[.agg #[.slice A1 n n, .slice A2 n n], .int .i64 0]) ∧ FlL w' A1 (colV fn l s p len off n) ∧ At1 encB w' A2 (colH fn l s p len off n)) := Lib.hid fun W g => (slide_any fn s e p len off A c l W (h.gr g)).mono fun E w' ⟨hg, hh⟩ => ⟨hg, by
    rcases hh with ⟨hz, -⟩ | ⟨-, m, hm, A1, A2, he, h1, h2⟩
    · exact absurd hc hz
    · obtain rfl : m = n := by omega
      exact ⟨A1, A2, he, h1, h2⟩⟩
  have CRS : Hid (∀ W, Gr w W → Calls Tryd.prog 24 #[.int .i64 fn, .slice A l.length c, .agg #[.int .i64 s, .int .i64 e, .int .i64 p], .int .i64 len, .int .i64 off] W fun E w' => Gr W w' ∧ ∃ A1 c1 A2 c2, E = .returned (.tuple #[.slice A1 n c1, .slice A2 n c2, .int .i64 0]) ∧ FlL w' A1 (colV fn l s p len off n) ∧ At1 encB w' A2 (colH fn l s p len off n)) := Lib.hid fun W g => (rslide_any fn s e p len off A c l W (h.gr g)).mono fun E w' ⟨hg, hh⟩ => ⟨hg, by
    rcases hh with ⟨hz, -⟩ | ⟨-, m, hm, A1, c1, A2, c2, he, h1, h2⟩
    · exact absurd hc hz
    · obtain rfl : m = n := by omega
      exact ⟨A1, c1, A2, c2, he, h1, h2⟩⟩
  obtain ⟨D, hD⟩ : ∃ D, (e - s).tdiv p = D := ⟨_, rfl⟩
  have hDb : 0 ≤ D ∧ D < 4096 := by
    rw [Int.tdiv_eq_ediv_of_nonneg (by omega)] at hD
    have hn2 := hn
    unfold ptN at hn2
    have := hG.n4
    omega
  have q0 : decide (p > 0) = true := decide_eq_true (by omega)
  have q1 : decide (s ≤ e) = true := decide_eq_true (by omega)
  have q2 : decide (s ≥ -1125899906842624) = true := decide_eq_true (by omega)
  have q3 : decide (e ≤ 1125899906842624) = true := decide_eq_true (by omega)
  have q5 : decide (D < 4096) = true := decide_eq_true (by omega)
  have z1 : IntKind.i64.wrap (e - s) = e - s := by rw [IntKind.wrap_i64]; omega
  have z2 : IntKind.i64.wrap ((e - s).tdiv p) = D := by rw [hD, IntKind.wrap_i64]; omega
  have z3 : ¬ p = 0 := by omega
  have CSAME : Hid (∀ W A1 A2 B1 k1 B2 k2, Gr w W → FlL W A1 (colV fn l s p len off n) → At1 encB W A2 (colH fn l s p len off n) → FlL W B1 (colV fn l s p len off n) → At1 encB W B2 (colH fn l s p len off n) → Calls Tryd.prog 25 #[.agg #[.slice A1 n n, .slice A2 n n], .agg #[.slice B1 n k1, .slice B2 n k2]] W fun e w' => e = .returned (.bool true) ∧ Gr W w') := Lib.hid fun W A1 A2 B1 k1 B2 k2 g v1 v2 u1 u2 => by
    have hq := colSame_any A1 A2 B1 B2 n n k1 k2 (colV fn l s p len off n) (colV fn l s p len off n) (colH fn l s p len off n) W (h.ht.gv g) v1 v2 u1 u2 rfl (fun i a b ha hb => by rw [ha] at hb; cases hb; exact same_refl a) (by rw [colV_len]; have := hG.n4; omega) (by rw [colH_len]; have := hG.n4; omega)
    rwa [colV_len, colH_len] at hq
  have HPT : Hid (∀ k, k < n → ∃ x y, (colV fn l s p len off n)[k]? = some x ∧ (colH fn l s p len off n)[k]? = some y ∧ canon x = x ∧ (∀ W, Gr w W → Calls Tryd.prog 12 #[.int .i64 fn, .slice A l.length c, .int .i64 (s + (k : Int) * p - off - len), .int .i64 (s + (k : Int) * p - off)] W fun e w' => e = .returned (.tuple #[.float .f64 x, .bool y]) ∧ Gr W w')) := Lib.hid fun k hk => by
    refine ⟨(fnP fn l (winT s p off k - len) (winT s p off k)).getD 0, (fnP fn l (winT s p off k - len) (winT s p off k)).isSome, ?_, ?_, fnP_cn _ _ _ _ h.hn, fun W g => ?_⟩
    · unfold colV; simp [hk]
    · unfold colH; simp [hk]
    · have hb := hG.at_ k hk
      have ho := hG.of_
      have hl := hG.ln
      have hq := Fn_any fn A c l (winT s p off k - len) (winT s p off k) W (h.gr g) (by unfold winT; omega) (by unfold winT; omega)
      unfold FnPost at hq
      exact hq
  have CBI : Hid (∀ x W, canon x = x → Calls Tryd.prog 15 #[.float .f64 x] W fun e w' => e = .returned (.int .u64 x) ∧ W = w') := Lib.hid fun x W hx => by
    have hq := rbits_any x W
    rwa [hx] at hq
  have CSM : Hid (∀ x W, Calls Tryd.prog 18 #[.float .f64 x, .float .f64 x] W fun e w' => e = .returned (.bool true) ∧ W = w') := Lib.hid fun x W => by
    have hq := rsame_any x x W
    rwa [same_refl] at hq
  have HBASE := Lib.hid h
  have HGR := Lib.hid hG
  clear hW1 g1 hb1 hml hr hc hlb hob hg h4 hD h
  by_cases h60 : D > 60
  · have q4 : decide (D > 60) = true := decide_eq_true h60
    go_enter Tryd.func5, Tryd.ntmps5
    go_wp2_with (first
      | (go_at_call 9; rw [HW1.out]; refine CK.out.mono ?_; rintro e w1 ⟨rfl, g1⟩; have HG2 := Lib.hid (HG1.out.trans g1); have b0 := g1.cell a0; have b1 := g1.cell a1; have b2 := g1.cell a2; clear g1)
      | (go_at_call 10; refine (CR2.out _ HG2.out).mono ?_; rintro e w2 ⟨rfl, g2⟩; have HG3 := Lib.hid (HG2.out.trans g2); have c0 := g2.cell b0; have c1 := g2.cell b1; have c2 := g2.cell b2; clear g2)
      | fail)
    go_ret
    exact ⟨rfl, HG3.out⟩
  · have q4 : decide (D > 60) = false := decide_eq_false h60
    go_enter Tryd.func5, Tryd.ntmps5
    go_wp2_with (first
      | (go_at_call 9; rw [HW1.out]; refine CK.out.mono ?_; rintro e w1 ⟨rfl, g1⟩; have HG2 := Lib.hid (HG1.out.trans g1); have b0 := g1.cell a0; have b1 := g1.cell a1; have b2 := g1.cell a2; clear g1)
      | (go_at_call 10; refine (CR2.out _ HG2.out).mono ?_; rintro e w2 ⟨rfl, g2⟩; have HG3 := Lib.hid (HG2.out.trans g2); have c0 := g2.cell b0; have c1 := g2.cell b1; have c2 := g2.cell b2; clear g2)
      | (go_at_call 23; refine (CSL.out _ HG3.out).mono ?_; rintro E w4 ⟨g4, A1, A2, rfl, v1, v2⟩; have HG4 := Lib.hid (HG3.out.trans g4); have HV1 := Lib.hid v1; have HV2 := Lib.hid v2; have gB := (Gr.refl w4).alloc #[.slice A1 n n, .slice A2 n n] 45; have d0 := gB.cell (g4.cell c0); have d1 := gB.cell (g4.cell c1); have d2 := gB.cell (g4.cell c2); have HG5 := Lib.hid (HG4.out.trans gB); have t0 : (w4.alloc (.cells #[.slice A1 n n, .slice A2 n n] 45)).cell? ⟨w4.heap.size, 0, none⟩ = some (.slice A1 n n) := by { rw [World.cell?_alloc_at _ _ _ _ (by simp)]; rfl }; have t1 : (w4.alloc (.cells #[.slice A1 n n, .slice A2 n n] 45)).cell? ⟨w4.heap.size, 1, none⟩ = some (.slice A2 n n) := by { rw [World.cell?_alloc_at _ _ _ _ (by simp)]; rfl }; clear g4 v1 v2)
      | (go_at_call 24; refine (CRS.out _ HG5.out).mono ?_; rintro E w6 ⟨g6, B1, k1, B2, k2, rfl, u1, u2⟩; have HG6 := Lib.hid (HG5.out.trans g6); have HU1 := Lib.hid u1; have HU2 := Lib.hid u2; have HB6 := Lib.hid (gB.trans g6); have f0 := g6.cell d0; have f1 := g6.cell d1; have f2 := g6.cell d2; have f3 := g6.cell t0; have f4 := g6.cell t1; clear g6 u1 u2 gB)
      | fail)
    go_loopw [16] (fun i9 wr => ∃ k : Nat, k ≤ n ∧ i9 = .int .i64 k ∧ Hid (Gr w6 wr)) (fun i9 _ => n - (intOf i9).toNat)
    case atStart => exact ⟨0, by omega, rfl, Lib.hid (Gr.refl _)⟩
    case round =>
      obtain ⟨k, hk, rfl, HG⟩ := hrel
      have HGW := Lib.hid (HG6.out.trans HG.out)
      have o0 := HG.out.cell f0
      have o1 := HG.out.cell f1
      have o2 := HG.out.cell f2
      have o3 := HG.out.cell f3
      have o4 := HG.out.cell f4
      have X1 := Lib.hid (HV1.out.gr (HB6.out.trans HG.out))
      have X2 := Lib.hid (HV2.out.gr (HB6.out.trans HG.out))
      have Y1 := Lib.hid (HU1.out.gr HG.out)
      have Y2 := Lib.hid (HU2.out.gr HG.out)
      by_cases hlt : k < n
      · obtain ⟨x, y, hx, hy, hcx, hfn⟩ := HPT.out k hlt
        have CFN := Lib.hid hfn
        have HCX := Lib.hid hcx
        obtain ⟨ba, oa, rfl, ha⟩ := X1.out (by rw [colV_len]; omega)
        obtain ⟨bb, ob, rfl, hb⟩ := X2.out (by rw [colH_len]; omega)
        obtain ⟨bc, oc, rfl, hc⟩ := Y1.out (by rw [colV_len]; omega)
        obtain ⟨bd, od, rfl, hd⟩ := Y2.out (by rw [colH_len]; omega)
        have l1 := ha k x hx
        have l2 := hb k y hy
        have l3 := hc k x hx
        have l4 := hd k y hy
        unfold encF at l1 l3
        unfold encB at l2 l4
        have m1 : (k : Int) < (n : Int) := by omega
        have m2 : (0 : Int) ≤ (k : Int) := by omega
        obtain ⟨-, -, hb1, hb2⟩ := HGR.out.at_ k hlt
        have hof := HGR.out.of_
        have hln := HGR.out.ln
        have hn4 := HGR.out.n4
        have r0 : IntKind.i64.wrap ((k : Int) + 1) = (k : Int) + 1 := by rw [IntKind.wrap_i64]; omega
        obtain ⟨kp, hkp⟩ : ∃ kp, (k : Int) * p = kp := ⟨_, rfl⟩
        rw [hkp] at hb1 hb2 CFN
        have r1 : IntKind.i64.wrap ((k : Int) * p) = kp := by rw [hkp, IntKind.wrap_i64]; omega
        have r2 : IntKind.i64.wrap (s + kp) = s + kp := by rw [IntKind.wrap_i64]; omega
        have r3 : IntKind.i64.wrap (s + kp - off) = s + kp - off := by rw [IntKind.wrap_i64]; omega
        have r4 : IntKind.i64.wrap (s + kp - off - len) = s + kp - off - len := by rw [IntKind.wrap_i64]; omega
        clear hx hy hcx hfn ha hb hc hd hb1 hb2 hof hln hkp
        go_wp2_with fail
        go_quiet ((go_at_call 15; exact quiet_left (CBI.out _ _ HCX.out)))
        go_wp2_with (first
          | (go_at_call 12; refine (CFN.out _ (HGW.out.drewN _)).mono ?_; rintro e w8 ⟨rfl, g8⟩; have HG8 := Lib.hid ((HG.out.drewN _).trans g8); have gz := ((Gr.refl wr).drewN _).trans g8; have n3 := gz.cell l3; have n4 := gz.cell l4; clear g8 gz)
          | (go_at_call 18; refine (CSM.out _ _).mono ?_; rintro e w9 ⟨rfl, rfl⟩)
          | fail)
        go_roundw
        case rel => exact ⟨k + 1, by omega, by go_num, HG8⟩
        case measure => simp [intOf]; omega
      · obtain rfl : k = n := by omega
        have n3 : ¬ (k : Int) < (k : Int) := by omega
        clear hlt hk
        go_wp2_with (first
          | (go_at_call 25; refine (CSAME.out _ _ _ _ _ _ _ HGW.out X1.out X2.out Y1.out Y2.out).mono ?_; rintro e w8 ⟨rfl, g8⟩; have HG8 := Lib.hid (HGW.out.trans g8); clear g8)
          | fail)
        go_ret
        exact ⟨rfl, HG8.out⟩
theorem chkE_bd (fn s e p len off : Int) : 0 ≤ chkE fn s e p len off ∧ chkE fn s e p len off ≤ 100 := by
  unfold chkE chE
  repeat' split
  all_goals first | decide | omega
theorem walkSlides_err (A : Option Addr) (c : Nat) (l : List Sm) (s e p fn len off : Int) (w : World) (h : SmpH w A c l) (hr : rightP l) (hc : chkE fn s e p len off ≠ 0) :
    Calls Tryd.prog 5 #[.slice A l.length c, .agg #[.int .i64 s, .int .i64 e, .int .i64 p], .int .i64 fn, .int .i64 len, .int .i64 off] w fun e w' => e = .returned (.bool true) ∧ Gr w w' := by
  obtain ⟨W1, hW1, g1, hb1⟩ := fresh w #[.int .i64 s, .int .i64 e, .int .i64 p] 41
  have a0 := hb1 0 (.int .i64 s) rfl
  have a1 := hb1 1 (.int .i64 e) rfl
  have a2 := hb1 2 (.int .i64 p) rfl
  have hml : l.length ≤ maxLen := by have := h.hn; unfold maxLen; omega
  have HW1 := Lib.hid hW1; have HG1 := Lib.hid g1
  have CK := Lib.hid (known_any W1 (h.ht.gv g1) (h.hf.gr g1))
  have CR2 : Hid (∀ W, Gr w W → Calls Tryd.prog 10 #[.slice A l.length c] W fun e w' => e = .returned (.bool true) ∧ Gr W w') := Lib.hid fun W g => (right_any A c l W (h.at_.gr g) hml).mono fun e w' ⟨b, he, hb, hg⟩ => ⟨by rw [he, hb.2 hr], hg⟩
  have hbd := chkE_bd fn s e p len off
  have CSL0 := fun W (g : Gr w W) => slide_any fn s e p len off A c l W (h.gr g)
  have CRS0 := fun W (g : Gr w W) => rslide_any fn s e p len off A c l W (h.gr g)
  unfold SlidePost at CSL0
  unfold RslPost at CRS0
  obtain ⟨x, hx⟩ : ∃ x, chkE fn s e p len off = x := ⟨_, rfl⟩
  rw [hx] at hc hbd CSL0 CRS0
  have CSL : Hid (∀ W, Gr w W → Calls Tryd.prog 23 #[.int .i64 fn, .slice A l.length c, .agg #[.int .i64 s, .int .i64 e, .int .i64 p], .int .i64 len, .int .i64 off] W fun E w' => E = .returned (.tuple #[.agg #[.slice none 0 0, .slice none 0 0], .int .i64 x]) ∧ Gr W w') := Lib.hid fun W g => (CSL0 W g).mono fun E w' ⟨hg, hh⟩ => ⟨by
    rcases hh with ⟨-, he⟩ | ⟨hz, -⟩
    · exact he
    · exact absurd hz hc, hg⟩
  have CRS : Hid (∀ W, Gr w W → Calls Tryd.prog 24 #[.int .i64 fn, .slice A l.length c, .agg #[.int .i64 s, .int .i64 e, .int .i64 p], .int .i64 len, .int .i64 off] W fun E w' => E = .returned (.tuple #[.slice none 0 0, .slice none 0 0, .int .i64 x]) ∧ Gr W w') := Lib.hid fun W g => (CRS0 W g).mono fun E w' ⟨hg, hh⟩ => ⟨by
    rcases hh with ⟨-, he⟩ | ⟨hz, -⟩
    · exact he
    · exact absurd hz hc, hg⟩
  have CSAME : Hid (∀ W, Gr w W → Calls Tryd.prog 25 #[.agg #[.slice none 0 0, .slice none 0 0], .agg #[.slice none 0 0, .slice none 0 0]] W fun e w' => e = .returned (.bool true) ∧ Gr W w') := Lib.hid fun W g => by
    have hq := colSame_any none none none none 0 0 0 0 [] [] [] W (h.ht.gv g) (fun h0 => absurd h0 (by simp)) (fun h0 => absurd h0 (by simp)) (fun h0 => absurd h0 (by simp)) (fun h0 => absurd h0 (by simp)) rfl (fun i a b ha => by simp at ha) (by simp) (by simp)
    exact hq
  have zx : IntKind.i64.wrap x = x := by rw [IntKind.wrap_i64]; omega
  have hcs : decide (p > 0) = false ∨ (decide (p > 0) = true ∧ decide (s ≤ e) = false) ∨ (decide (p > 0) = true ∧ decide (s ≤ e) = true ∧ decide (s ≥ -1125899906842624) = false) ∨ (decide (p > 0) = true ∧ decide (s ≤ e) = true ∧ decide (s ≥ -1125899906842624) = true ∧ decide (e ≤ 1125899906842624) = false) ∨
      ∃ D : Int, decide (p > 0) = true ∧ decide (s ≤ e) = true ∧ decide (s ≥ -1125899906842624) = true ∧ decide (e ≤ 1125899906842624) = true ∧ IntKind.i64.wrap (e - s) = e - s ∧ IntKind.i64.wrap ((e - s).tdiv p) = D ∧ ¬ p = 0 ∧ (decide (D > 60) = false ∨ (decide (D > 60) = true ∧ decide (D < 4096) = false) ∨ (decide (D > 60) = true ∧ decide (D < 4096) = true)) := by
    by_cases b0 : p > 0
    · by_cases b1 : s ≤ e
      · by_cases b2 : s ≥ -1125899906842624
        · by_cases b3 : e ≤ 1125899906842624
          · refine .inr (.inr (.inr (.inr ⟨_, decide_eq_true b0, decide_eq_true b1, decide_eq_true b2, decide_eq_true b3, by rw [IntKind.wrap_i64]; omega, rfl, by omega, ?_⟩)))
            by_cases b4 : IntKind.i64.wrap ((e - s).tdiv p) > 60
            · by_cases b5 : IntKind.i64.wrap ((e - s).tdiv p) < 4096
              · exact .inr (.inr ⟨decide_eq_true b4, decide_eq_true b5⟩)
              · exact .inr (.inl ⟨decide_eq_true b4, decide_eq_false b5⟩)
            · exact .inl (decide_eq_false b4)
          · exact .inr (.inr (.inr (.inl ⟨decide_eq_true b0, decide_eq_true b1, decide_eq_true b2, decide_eq_false b3⟩)))
        · exact .inr (.inr (.inl ⟨decide_eq_true b0, decide_eq_true b1, decide_eq_false b2⟩))
      · exact .inr (.inl ⟨decide_eq_true b0, decide_eq_false b1⟩)
    · exact .inl (decide_eq_false b0)
  clear hW1 g1 hb1 hml hr hx CSL0 CRS0 h hbd hc
  rcases hcs with q0 | ⟨q0, q1⟩ | ⟨q0, q1, q2⟩ | ⟨q0, q1, q2, q3⟩ | ⟨D, q0, q1, q2, q3, z1, z2, z3, q4 | ⟨q4, q5⟩ | ⟨q4, q5⟩⟩
  all_goals
    go_enter Tryd.func5, Tryd.ntmps5
    go_wp2_with (first
      | (go_at_call 9; rw [HW1.out]; refine CK.out.mono ?_; rintro e w1 ⟨rfl, g1⟩; have HG2 := Lib.hid (HG1.out.trans g1); have b0 := g1.cell a0; have b1 := g1.cell a1; have b2 := g1.cell a2; clear g1)
      | (go_at_call 10; refine (CR2.out _ HG2.out).mono ?_; rintro e w2 ⟨rfl, g2⟩; have HG3 := Lib.hid (HG2.out.trans g2); have c0 := g2.cell b0; have c1 := g2.cell b1; have c2 := g2.cell b2; clear g2)
      | (go_at_call 23; refine (CSL.out _ HG3.out).mono ?_; rintro E w4 ⟨rfl, g4⟩; have HG4 := Lib.hid (HG3.out.trans g4); have gB := (Gr.refl w4).alloc #[.slice none 0 0, .slice none 0 0] 45; have d0 := gB.cell (g4.cell c0); have d1 := gB.cell (g4.cell c1); have d2 := gB.cell (g4.cell c2); have HG5 := Lib.hid (HG4.out.trans gB); have t0 : (w4.alloc (.cells #[.slice none 0 0, .slice none 0 0] 45)).cell? ⟨w4.heap.size, 0, none⟩ = some (.slice none 0 0) := by { rw [World.cell?_alloc_at _ _ _ _ (by simp)]; rfl }; have t1 : (w4.alloc (.cells #[.slice none 0 0, .slice none 0 0] 45)).cell? ⟨w4.heap.size, 1, none⟩ = some (.slice none 0 0) := by { rw [World.cell?_alloc_at _ _ _ _ (by simp)]; rfl }; clear g4)
      | (go_at_call 24; refine (CRS.out _ HG5.out).mono ?_; rintro E w6 ⟨rfl, g6⟩; have HG6 := Lib.hid (HG5.out.trans g6); have f0 := g6.cell d0; have f1 := g6.cell d1; have f2 := g6.cell d2; have f3 := g6.cell t0; have f4 := g6.cell t1; clear g6 gB)
      | fail)
  all_goals first
    | (go_ret
       exact ⟨rfl, HG3.out⟩)
    | skip
  all_goals
    go_loopw [16] (fun i9 wr => i9 = .int .i64 0 ∧ wr = w6) (fun _ _ => 0)
    case atStart => exact ⟨rfl, rfl⟩
    case round =>
      obtain ⟨rfl, rfl⟩ := hrel
      go_wp2_with (first
          | (go_at_call 25; refine (CSAME.out _ HG6.out).mono ?_; rintro e w8 ⟨rfl, g8⟩; have HG8 := Lib.hid (HG6.out.trans g8); clear g8)
          | fail)
      go_ret
      exact ⟨rfl, HG8.out⟩
theorem walkSlides (A : Option Addr) (c : Nat) (l : List Sm) (s e p fn len off : Int) (w : World) (ht : Tab w) (hf : FTab w) (h : At2 encP w A l) (hc : l.length ≤ c) (hm : l.length ≤ maxLen) (hb : ∀ q ∈ l, q.2 < 2 ^ 64) :
    Calls Tryd.prog 5 #[.slice A l.length c, .agg #[.int .i64 s, .int .i64 e, .int .i64 p], .int .i64 fn, .int .i64 len, .int .i64 off] w fun e w' => e = .returned (.bool true) ∧ Gr w w' := by
  by_cases hr : rightP l
  · have hs : SmpH w A c l := ⟨ht, hf, h, hc, by have := hr.1; omega, hr.asc, hb⟩
    by_cases hz : chkE fn s e p len off = 0
    · exact walkSlides_ok A c l s e p fn len off w hs hr hz
    · exact walkSlides_err A c l s e p fn len off w hs hr hz
  · exact walkSlides_none A c l s e p fn len off w ht hf h hm hr
end Go.Proofs.YtjjfkjpkbpefpaaDoor.Vn
