/- The walk of MatchOrder, where its test lets the matchers through. -/
import Derived.Test.YtnlfndhgdeapeaaOrdOut
import Derived.Deep.RegionHeld3
import Derived.Deep.CutRange
import Derived.Deep.CutBlock
namespace Go.Proofs.Ytnlfndhgdeapeaa
open Go.RowKit Go.Maps Go.WideMaps
set_option maxRecDepth 100000
set_option maxHeartbeats 16000000

/-- a matcher's box -/
def BoxM (W : World) (N : Nat) (k : Int) (n v : ByteArray) : Prop := W.cell? ⟨N, 0, none⟩ = some (.int .i64 k) ∧ W.cell? ⟨N, 1, none⟩ = some (.string n) ∧ W.cell? ⟨N, 2, none⟩ = some (.string v)
theorem BoxM.below {W W' : World} {N B : Nat} {k : Int} {n v : ByteArray} (h : BoxM W N k n v) (g : Below B W W') (hN : N < B) : BoxM W' N k n v :=
  ⟨(g.cell (p := ⟨N, 0, none⟩) hN).trans h.1, (g.cell (p := ⟨N, 1, none⟩) hN).trans h.2.1, (g.cell (p := ⟨N, 2, none⟩) hN).trans h.2.2⟩
theorem BoxM.gr {W W' : World} {N : Nat} {k : Int} {n v : ByteArray} (h : BoxM W N k n v) (g : Gr W W') : BoxM W' N k n v := ⟨g.cell h.1, g.cell h.2.1, g.cell h.2.2⟩
theorem rchkL_all {l : List Mt} (h : rchkL l = true) : ∀ x ∈ l, rchkM x = true := by
  unfold rchkL at h
  simp only [Bool.and_eq_true] at h
  exact fun x hx => List.all_eq_true.1 h.2 x hx

theorem ord_in (A : Option Addr) (l : List Mt) (c : Nat) (xk : Int) (xn xv : ByteArray) (B : Option Addr) (s : List Lb) (d : Nat) (w : World) (h : MatsAt w A l) (hw : Wm l) (hl : l.length ≤ 1099511627776) (hx : Wm [⟨xk, xn, xv⟩]) (hB : LabsAt w B s) (hs : Wd s) (hsl : s.length ≤ 1099511627776) (hlc : l.length ≤ c) (hcm : c ≤ maxLen) (h1 : mfewB l = true) (h2 : l.length ≤ 15) (h3 : mfewB [⟨xk, xn, xv⟩] = true) (h4 : decide (fewP s) = true) (h5 : rchkL l = true) (h6 : rchkL [⟨xk, xn, xv⟩] = true) :
    Calls Try.prog 5 #[.slice A l.length c, .agg #[.int .i64 xk, .string xn, .string xv], .slice B s.length d] w fun e w' => e = .returned (.bool true) ∧ Gr w w' := by
  have CK := Lib.hid (fun W => mknown_any W)
  have F1 := Lib.hid (fun W (g : Gr w W) => mfew_any A l c W (h.gr g) hw (by unfold maxLen; omega))
  have F2 : Hid (∀ N W, W.heap[N]? = some (.cells #[.int .i64 xk, .string xn, .string xv] 33 (0, 0)) → Calls Try.prog 14 #[.slice (some ⟨N, 0, none⟩) 1 1] W fun e w' => e = .returned (.bool (mfewB [⟨xk, xn, xv⟩])) ∧ W = w') := Lib.hid (fun N W h => mfew_any (some ⟨N, 0, none⟩) [⟨xk, xn, xv⟩] 1 W (mats_new h) hx (show 1 ≤ maxLen by unfold maxLen; omega))
  have F3 := Lib.hid (fun W (g : Gr w W) => few_any B s d W (hB.gr g) hs hsl)
  have R1 := Lib.hid (fun W (g : Gr w W) => rcheck_any A l c W (h.gr g) hw hl)
  have R2 : Hid (∀ N W, W.heap[N]? = some (.cells #[.int .i64 xk, .string xn, .string xv] 33 (0, 0)) → Calls Try.prog 17 #[.slice (some ⟨N, 0, none⟩) 1 1] W (RChkPost (rchkL [⟨xk, xn, xv⟩]) W)) := Lib.hid (fun N W h => rcheck_any (some ⟨N, 0, none⟩) [⟨xk, xn, xv⟩] 1 W (mats_new h) hx (show 1 ≤ 1099511627776 by omega))
  have hsz : ∀ x ∈ s, x.2.size ≤ 1000000000000 := fun x hx => by
    have := (of_decide_eq_true h4).2 x hx
    omega
  have hm := rchkL_all h5
  have hxm : rchkM ⟨xk, xn, xv⟩ = true := rchkL_all h6 _ (List.mem_cons_self ..)
  have mS := fun (L : List Mt) (hc : checkA L = 0) (hwL : Wm L) (S : Nat) (W : World) (hS : SetB W S L) (g : Gr w W) => match_set S L B s d W hS hwL (checkA_all hc).1 (checkA_all hc).2 (hB.gr g) hsl hsz
  have hcl : checkA l = 0 := rchk_A hm (by omega)
  have hwx : Wm (l ++ [⟨xk, xn, xv⟩]) := fun x h => by
    rcases List.mem_append.1 h with h | h
    · exact hw x h
    · exact hx x h
  have hcx : checkA (l ++ [⟨xk, xn, xv⟩]) = 0 := rchk_A (fun x h => by
    rcases List.mem_append.1 h with h | h
    · exact hm x h
    · rw [List.mem_singleton] at h
      rw [h]; exact hxm) (by simp; omega)
  have hcb : ∀ L : List Mt, (∀ x ∈ L, x ∈ l) → L.length ≤ 30 → checkA L = 0 := fun L g hL => rchk_A (fun x h => hm x (g x h)) (by omega)
  obtain ⟨y, hy⟩ : ∃ y, holdM ⟨xk, xn, xv⟩ (getL s xn) = y := ⟨_, rfl⟩
  obtain ⟨a, ha⟩ : ∃ a, matchL l s = a := ⟨_, rfl⟩
  obtain ⟨z, hz⟩ : ∃ z, (a && y) = z := ⟨_, rfl⟩
  have N1 := Lib.hid (fun W (g : Gr w W) => new_good l hcl hw hl A c W (h.gr g))
  have N2 := Lib.hid (fun (L : List Mt) A' c' W (g : ∀ x ∈ L, x ∈ l) (hL : L.length ≤ 30) (hA : MatsAt W A' L) => new_good L (hcb L g hL) (fun x hx => hw x (g x hx)) (by omega) A' c' W hA)
  have N3 := Lib.hid (fun A' c' W (hA : MatsAt W A' (l ++ [⟨xk, xn, xv⟩])) => by
    have g := new_good (l ++ [⟨xk, xn, xv⟩]) hcx hwx (by simp; omega) A' c' W hA
    rw [show (l ++ [(⟨xk, xn, xv⟩ : Mt)]).length = l.length + 1 by simp] at g
    exact g)
  have M1 : Hid (∀ S W, Gr w W → SetB W S l → Calls Try.prog 20 #[.pointer (some ⟨S, 0, none⟩), .slice B s.length d] W fun e w' => e = .returned (.bool a) ∧ Gr W w') := Lib.hid (fun S W g hS => by rw [← ha]; exact mS l hcl hw S W hS g)
  have M2 : Hid (∀ S L W, Gr w W → (∀ x ∈ L, x ∈ l) → (∀ x ∈ l, x ∈ L) → L.length ≤ 30 → SetB W S L → Calls Try.prog 20 #[.pointer (some ⟨S, 0, none⟩), .slice B s.length d] W fun e w' => e = .returned (.bool a) ∧ Gr W w') := Lib.hid (fun S L W g g1 g2 hL hS => by
    have := mS L (hcb L g1 hL) (fun x hx => hw x (g1 x hx)) S W hS g
    rwa [matchL_mem (fun x => ⟨g1 x, g2 x⟩), ha] at this)
  have M3 : Hid (∀ S W, Gr w W → SetB W S (l ++ [⟨xk, xn, xv⟩]) → Calls Try.prog 20 #[.pointer (some ⟨S, 0, none⟩), .slice B s.length d] W fun e w' => e = .returned (.bool z) ∧ Gr W w') := Lib.hid (fun S W g hS => by
    have := mS _ hcx hwx S W hS g
    rwa [matchL_snoc, ha, hy, hz] at this)
  have HZ : Hid (z = true → a = true) := Lib.hid (fun h => by
    rw [h, Bool.and_eq_true] at hz
    exact hz.1)
  have HL := Lib.hid h
  rw [h1] at F1
  have n1 : ¬ (15 : Int) < (l.length : Int) := by omega
  rw [h3] at F2
  rw [h4] at F3
  have K1 := Lib.hid h5
  have K2 := Lib.hid h6
  clear h hw hx hB hs mS hcl hwx hcx hcb hm hxm hsz hz hy ha h1 h3 h4 h5 h6
  go_enter Try.func5, Try.ntmps5
  go_wp2_with fail
  refine (CK.out _).mono ?_
  rintro e w1 ⟨rfl, g1⟩
  have c0 := g1.cell (b := w.heap.size) (o := 0) (v := .int .i64 xk) (by go_simp)
  have c1 := g1.cell (b := w.heap.size) (o := 1) (v := .string xn) (by go_simp)
  have c2 := g1.cell (b := w.heap.size) (o := 2) (v := .string xv) (by go_simp)
  have G1 := Lib.hid (((Gr.refl w).alloc _ _).trans g1)
  clear g1
  go_wp2_with fail
  refine (F1.out _ G1.out).mono ?_
  rintro e w2 ⟨rfl, rfl⟩
  go_wp2_with fail
  refine (F2.out _ _ (heap_alloc_new w1 _)).mono ?_
  rintro e w3 ⟨rfl, rfl⟩
  obtain ⟨V, hV⟩ : ∃ V, w1.alloc (.cells #[.int .i64 xk, .string xn, .string xv] 33) = V := ⟨_, rfl⟩
  have kV : Gr w1 V := by rw [← hV]; exact (Gr.refl w1).alloc _ _
  have c0 := kV.cell c0
  have c1 := kV.cell c1
  have c2 := kV.cell c2
  have G2 := Lib.hid (G1.out.trans kV)
  rw [hV]
  clear hV kV
  go_wp2_with fail
  refine (F3.out _ G2.out).mono ?_
  rintro e w4 ⟨rfl, rfl⟩
  go_wp2_with fail
  refine (R1.out _ G2.out).mono ?_
  rintro e w5 ⟨x1, rfl, hx1, g5⟩
  have c0 := g5.cell c0
  have c1 := g5.cell c1
  have c2 := g5.cell c2
  have G5 := Lib.hid (G2.out.trans g5)
  clear g5
  obtain rfl : x1 = 0 := hx1.2 K1.out
  clear hx1
  go_wp2_with fail
  refine (R2.out _ _ (heap_alloc_new w5 _)).mono ?_
  rintro e w6 ⟨x2, rfl, hx2, g6⟩
  have k6 : Gr w5 w6 := ((Gr.refl w5).alloc _ _).trans g6
  have c0 := k6.cell c0
  have c1 := k6.cell c1
  have c2 := k6.cell c2
  have G6 := Lib.hid (G5.out.trans k6)
  clear k6 g6
  obtain rfl : x2 = 0 := hx2.2 K2.out
  clear hx2
  have HB0 : Hid (BoxM w6 w.heap.size xk xn xv) := Lib.hid ⟨c0, c1, c2⟩
  clear c0 c1 c2 CK F1 F2 F3 R1 R2 K1 K2 n1 G1 G2 G5
  go_wp2
  go_loopw [7, 8] (fun v i wr => ∃ (k : Nat) (L : List Mt), k ≤ l.length ∧ i = .int .i64 ((k : Int) - 1) ∧ L.length = 2 * (l.length - k) ∧ Hid (∀ x ∈ L, x ∈ l) ∧ Hid (∀ x ∈ l.drop k, x ∈ L) ∧ Hid (OwnM wr (w.heap.size + 1) v L) ∧ Hid (Gr w wr) ∧ Hid (BoxM wr w.heap.size xk xn xv)) (fun _ i _ => (intOf i + 1).toNat)
  case atStart => exact ⟨l.length, [], Nat.le_refl _, rfl, by simp, Lib.hid (fun x hx => by cases hx), Lib.hid (fun x hx => by rw [List.drop_length] at hx; cases hx), Lib.hid (OwnM.nil _ _), G6, HB0⟩
  case round =>
    clear HB0 G6
    obtain ⟨k, L, hk, rfl, hL, HI1, HI2, HO, HG, HB⟩ := hrel
    have hgs : w.heap.size < wr.heap.size := World.block_lt_of_cell? wr _ HB.out.1
    cases k with
    | succ n =>
      have en : ((n + 1 : Nat) : Int) - 1 = (n : Int) := by omega
      rw [en]
      clear en
      have hlt : n < l.length := by omega
      obtain ⟨b, o, rfl, e1, e2, e3, hbw'⟩ := HL.out.at_ hlt
      have hbw : b < w.heap.size := hbw'
      clear hbw'
      have HD : Hid (∀ x ∈ l.drop n, x = l[n] ∨ x ∈ l.drop (n + 1)) := Lib.hid (fun x hx => by
        rw [List.drop_eq_getElem_cons hlt] at hx
        exact List.mem_cons.1 hx)
      have HM : Hid (l[n] ∈ l) := Lib.hid (List.getElem_mem hlt)
      obtain ⟨⟨mk, mn, mv⟩, hx⟩ : ∃ x, l[n] = x := ⟨_, rfl⟩
      rw [hx] at e1 e2 e3 HD HM
      simp only at e1 e2 e3
      have f1 := HG.out.cell e1
      have f2 := HG.out.cell e2
      have f3 := HG.out.cell e3
      have hbr : b < wr.heap.size := World.block_lt_of_cell? wr _ f1
      have n1 : (n : Int) < (l.length : Int) := by omega
      clear hx e1 e2 e3
      go_upto_region 9 with fail
      go_region_held3 (fun w' => w'.cell? ⟨b, o + n * 3, none⟩ = some (.int .i64 mk) ∧ w'.cell? ⟨b, o + n * 3 + 1, none⟩ = some (.string mn) ∧ w'.cell? ⟨b, o + n * 3 + 2, none⟩ = some (.string mv))
        (first
          | exact ⟨j1, j2, j3⟩
          | exact ⟨f1, f2, f3⟩
          | exact ⟨((Gr.refl wr).alloc _ _).drew.cell f1, ((Gr.refl wr).alloc _ _).drew.cell f2, ((Gr.refl wr).alloc _ _).drew.cell f3⟩
          | go_keep)
        (first
          | (refine mstep_app rfl (by rfl) (.tmp 54) (.tmp 63) (by rfl) (by rfl) (B := w.heap.size + 1) (l := L) (m := [⟨mk, mn, mv⟩, ⟨mk, mn, mv⟩]) ?_ ?_ ?_ ?_ ?_
             · exact (HO.out.alloc _).drew
             · exact readsM_two (heap_alloc_new wr _)
             · simp only [List.length_cons, List.length_nil]; omega
             · show w.heap.size + 1 ≤ (wr.alloc _).heap.size
               simp
               omega
             intro v2 W2 hown2 hbel2 hgrow2 hat2
             have HG2 : Hid (Gr w W2) := Lib.hid (gr_belowM (HG.out.alloc _ _).drew hbel2 (by omega))
             have HB2 : Hid (BoxM W2 w.heap.size xk xn xv) := Lib.hid (BoxM.below (HB.out.gr ((Gr.refl wr).alloc _ _).drew) hbel2 (by omega))
             have HO2 := Lib.hid hown2
             have j1 := (hbel2.cell (p := ⟨b, o + n * 3, none⟩) (by show b < w.heap.size + 1; omega)).trans (((Gr.refl wr).alloc _ _).drew.cell f1)
             have j2 := (hbel2.cell (p := ⟨b, o + n * 3 + 1, none⟩) (by show b < w.heap.size + 1; omega)).trans (((Gr.refl wr).alloc _ _).drew.cell f2)
             have j3 := (hbel2.cell (p := ⟨b, o + n * 3 + 2, none⟩) (by show b < w.heap.size + 1; omega)).trans (((Gr.refl wr).alloc _ _).drew.cell f3)
             clear hown2 hgrow2 hat2 hbel2))
      all_goals
        go_wp2
        go_roundw
        case rel => exact ⟨n, L ++ [⟨mk, mn, mv⟩, ⟨mk, mn, mv⟩], by omega, rfl, by simp; omega, Lib.hid (fun x hx => by
          rcases List.mem_append.1 hx with h | h
          · exact HI1.out x h
          · simp at h; rw [h]; exact HM.out), Lib.hid (fun x hx => by
          rcases HD.out x hx with h | h
          · rw [h]; simp
          · exact List.mem_append_left _ (HI2.out x h)), HO2, HG2, HB2⟩
        case measure => simp [intOf]
    | zero =>
      have ez : ((0 : Nat) : Int) - 1 = -1 := by omega
      rw [ez]
      clear ez
      rw [List.drop_zero] at HI2
      have hL2 : L.length ≤ 30 := by omega
      obtain ⟨A2, c2, rfl, hA2, -, -⟩ := HO.out.form
      have HA2 := Lib.hid hA2
      clear hA2 HO hL
      go_wp2_with fail
      refine (N1.out _ HG.out).mono ?_
      rintro e v1 ⟨S1, rfl, hS1, g1⟩
      have HS1 := Lib.hid hS1
      have HGa := Lib.hid (HG.out.trans g1)
      have HBa := Lib.hid (HB.out.gr g1)
      have HAa := Lib.hid (HA2.out.gr g1)
      clear hS1 g1 HA2 HB HG
      go_wp2_with fail
      refine (N2.out L A2 c2 _ HI1.out hL2 HAa.out).mono ?_
      rintro e v2 ⟨S2, rfl, hS2, g2⟩
      have HS1b := Lib.hid (HS1.out.gr g2)
      have HS2 := Lib.hid hS2
      have HG := Lib.hid (HGa.out.trans g2)
      have HB := Lib.hid (HBa.out.gr g2)
      clear hS2 g2 HAa HBa HGa HS1
      go_upto_region 12 with fail
      obtain ⟨f1, f2, f3⟩ := HB.out
      have hv2 : w.heap.size < v2.heap.size := World.block_lt_of_cell? v2 _ f1
      go_region_held3 (fun w' => w'.cell? ⟨w.heap.size, 0, none⟩ = some (.int .i64 xk) ∧ w'.cell? ⟨w.heap.size, 1, none⟩ = some (.string xn) ∧ w'.cell? ⟨w.heap.size, 2, none⟩ = some (.string xv))
        (first
          | exact ⟨t1, t2, t3⟩
          | exact ⟨p1, p2, p3⟩
          | exact ⟨k1, k2, k3⟩
          | exact ⟨((Gr.refl W1).alloc _ _).cell k1, ((Gr.refl W1).alloc _ _).cell k2, ((Gr.refl W1).alloc _ _).cell k3⟩
          | exact ⟨f1, f2, f3⟩
          | exact ⟨((Gr.refl v2).alloc _ _).drew.cell f1, ((Gr.refl v2).alloc _ _).drew.cell f2, ((Gr.refl v2).alloc _ _).drew.cell f3⟩
          | exact ⟨(((Gr.refl v2).alloc _ _).alloc _ _).drew.cell f1, (((Gr.refl v2).alloc _ _).alloc _ _).drew.cell f2, (((Gr.refl v2).alloc _ _).alloc _ _).drew.cell f3⟩
          | go_keep)
        (first
          | (go_at_call 19
             refine (N3.out A3 c3 _ HA3.out).mono ?_
             rintro e v4 ⟨S3, rfl, hS3, g4⟩
             have t1 := g4.cell p1
             have t2 := g4.cell p2
             have t3 := g4.cell p3
             have HS3 := Lib.hid hS3
             have GC := Lib.hid (GB.out.trans g4)
             clear hS3 g4)
          | (have tok := hown1
             clear tok
             refine mstep_app rfl ?_ (.tmp 78) (.tmp 80) ?_ ?_ (B := v2.heap.size) (l := l) (m := [⟨xk, xn, xv⟩]) ?_ ?_ ?_ ?_ ?_
             · rfl
             · rfl
             · rfl
             · first | exact hown1 | exact hown1.alloc _
             · first
                 | exact readsM_new W1 xk xn xv
                 | exact readsM_one W1 (v2.heap.size + 1) ⟨xk, xn, xv⟩ (hgrow1.cell (a := ⟨v2.heap.size + 1, 0, none⟩) (by go_simp) (by show some (v2.heap.size + 1) ≠ some v2.heap.size; simp)) (hgrow1.cell (a := ⟨v2.heap.size + 1, 1, none⟩) (by go_simp) (by show some (v2.heap.size + 1) ≠ some v2.heap.size; simp)) (hgrow1.cell (a := ⟨v2.heap.size + 1, 2, none⟩) (by go_simp) (by show some (v2.heap.size + 1) ≠ some v2.heap.size; simp))
                 | exact readsM_one W1 v2.heap.size ⟨xk, xn, xv⟩ (hgrow1.cell (a := ⟨v2.heap.size, 0, none⟩) (by go_simp) (by show some v2.heap.size ≠ some (v2.heap.size + 1); simp)) (hgrow1.cell (a := ⟨v2.heap.size, 1, none⟩) (by go_simp) (by show some v2.heap.size ≠ some (v2.heap.size + 1); simp)) (hgrow1.cell (a := ⟨v2.heap.size, 2, none⟩) (by go_simp) (by show some v2.heap.size ≠ some (v2.heap.size + 1); simp))
             · simp only [List.length_cons, List.length_nil]; omega
             · have h1 := GA.out.size
               first
                 | exact h1
                 | (show v2.heap.size ≤ (W1.alloc _).heap.size; simp; omega)
             intro u3 W3 hown3 hbel3 hgrow3 hat3
             have GB : Hid (Gr v2 W3) := Lib.hid (by first | exact gr_belowM GA.out hbel3 (Nat.le_refl _) | exact gr_belowM (GA.out.alloc _ _) hbel3 (Nat.le_refl _))
             have p1 := GB.out.cell f1
             have p2 := GB.out.cell f2
             have p3 := GB.out.cell f3
             obtain ⟨A3, c3, rfl, hA3, -, -⟩ := hown3.form
             have HA3 := Lib.hid hA3
             clear hA3 hown3 hbel3 hgrow3 hat3)
          | (refine mstep_app rfl ?_ (.tmp 76) (.tmp 77) ?_ ?_ (B := v2.heap.size) (l := []) (m := l) ?_ ?_ ?_ ?_ ?_
             · rfl
             · rfl
             · rfl
             · first | exact (mown_new v2 _ (Nat.le_refl _)).drew | exact ((mown_new v2 _ (Nat.le_refl _)).alloc _).drew | exact (mown_new_behind v2 _ (Nat.le_refl _) _).drew
             · first
                 | exact ⟨A, c, rfl, HL.out.gr (HG.out.trans ((Gr.refl v2).alloc _ _).drew), hlc, hcm⟩
                 | exact ⟨A, c, rfl, HL.out.gr (HG.out.trans (((Gr.refl v2).alloc _ _).alloc _ _).drew), hlc, hcm⟩
             · simp only [List.length_nil]; omega
             · first
                 | (show v2.heap.size ≤ (v2.alloc _).heap.size; simp; done)
                 | (show v2.heap.size ≤ ((v2.alloc _).alloc _).heap.size; simp; omega)
             intro u1 W1 hown1 hbel1 hgrow1 hat1
             have hown1 : OwnM W1 v2.heap.size u1 l := hown1
             have GA : Hid (Gr v2 W1) := Lib.hid (by first | exact gr_belowM ((Gr.refl v2).alloc _ _).drew hbel1 (Nat.le_refl _) | exact gr_belowM (((Gr.refl v2).alloc _ _).alloc _ _).drew hbel1 (Nat.le_refl _))
             have k1 := GA.out.cell f1
             have k2 := GA.out.cell f2
             have k3 := GA.out.cell f3)
          | fail)
      all_goals
        have HS1c := Lib.hid (HS1b.out.gr GC.out)
        have HS2c := Lib.hid (HS2.out.gr GC.out)
        have HGc := Lib.hid (HG.out.trans GC.out)
        clear t1 t2 t3 f1 f2 f3
        cases z
        · go_wp2_with fail
          refine (M1.out S1 _ HGc.out HS1c.out).mono ?_
          rintro e u4 ⟨rfl, y1⟩
          have G7 := Lib.hid (HGc.out.trans y1)
          have Q2 := Lib.hid (HS2c.out.gr y1)
          have Q3 := Lib.hid (HS3.out.gr y1)
          clear y1
          go_wp2_with fail
          refine (M2.out S2 L _ G7.out HI1.out HI2.out hL2 Q2.out).mono ?_
          rintro e u5 ⟨rfl, y2⟩
          have G8 := Lib.hid (G7.out.trans y2)
          have Q4 := Lib.hid (Q3.out.gr y2)
          clear y2
          go_wp2_with fail
          refine (M3.out S3 _ G8.out Q4.out).mono ?_
          rintro e u6 ⟨rfl, y3⟩
          have G9 := Lib.hid (G8.out.trans y3)
          clear y3
          go_wp2
          go_ret
          exact ⟨rfl, G9.out⟩
        · obtain rfl : a = true := HZ.out rfl
          go_wp2_with fail
          refine (M1.out S1 _ HGc.out HS1c.out).mono ?_
          rintro e u4 ⟨rfl, y1⟩
          have G7 := Lib.hid (HGc.out.trans y1)
          have Q1 := Lib.hid (HS1c.out.gr y1)
          have Q2 := Lib.hid (HS2c.out.gr y1)
          have Q3 := Lib.hid (HS3.out.gr y1)
          clear y1
          go_wp2_with fail
          refine (M2.out S2 L _ G7.out HI1.out HI2.out hL2 Q2.out).mono ?_
          rintro e u5 ⟨rfl, y2⟩
          have G8 := Lib.hid (G7.out.trans y2)
          have Q4 := Lib.hid (Q3.out.gr y2)
          have Q5 := Lib.hid (Q1.out.gr y2)
          clear y2
          go_wp2_with fail
          refine (M3.out S3 _ G8.out Q4.out).mono ?_
          rintro e u6 ⟨rfl, y3⟩
          have G9 := Lib.hid (G8.out.trans y3)
          have Q6 := Lib.hid (Q5.out.gr y3)
          clear y3
          go_wp2_with fail
          refine (M1.out S1 _ G9.out Q6.out).mono ?_
          rintro e u7 ⟨rfl, y4⟩
          have G10 := Lib.hid (G9.out.trans y4)
          clear y4
          go_wp2
          go_ret
          exact ⟨rfl, G10.out⟩

/-- what may come in as labels: as many as are not read, or a list -/
theorem lawOrd_any (A : Option Addr) (l : List Mt) (c : Nat) (xk : Int) (xn xv : ByteArray) (B : Option Addr) (n d : Nat) (w : World) (h : MatsAt w A l) (hw : Wm l) (hlc : l.length ≤ c) (hcm : c ≤ maxLen) (hx : Wm [⟨xk, xn, xv⟩]) (hn : n ≤ maxLen) (hB : n ≤ 80 → ∃ s : List Lb, s.length = n ∧ LabsAt w B s ∧ Wd s) :
    Calls Try.prog 5 #[.slice A l.length c, .agg #[.int .i64 xk, .string xn, .string xv], .slice B n d] w fun e w' => e = .returned (.bool true) ∧ Gr w w' := by
  have hl : l.length ≤ maxLen := Nat.le_trans hlc hcm
  cases h1 : mfewB l
  · exact ord_out1 A l c xk xn xv _ w h hw hl hx h1
  by_cases h2 : 15 < l.length
  · exact ord_out2 A l c xk xn xv _ w h hw hl hx h1 h2
  have h2 : l.length ≤ 15 := by omega
  cases h3 : mfewB [⟨xk, xn, xv⟩]
  · exact ord_out3 A l c xk xn xv _ w h hw hl hx h1 h2 h3
  by_cases h80 : n ≤ 80
  · obtain ⟨s, rfl, hs1, hs2⟩ := hB h80
    cases h4 : decide (fewP s)
    · exact ord_out4 A l c xk xn xv _ w h hw hl hx h1 h2 h3 (fun W g => by
        have := few_any B s d W (hs1.gr g) hs2 (by omega)
        rwa [h4] at this)
    cases h5 : rchkL l
    · exact ord_out5 A l c xk xn xv B s d w h hw (by omega) hx hs1 hs2 (by omega) h1 h2 h3 h4 h5
    cases h6 : rchkL [⟨xk, xn, xv⟩]
    · exact ord_out6 A l c xk xn xv B s d w h hw (by omega) hx hs1 hs2 (by omega) h1 h2 h3 h4 h5 h6
    exact ord_in A l c xk xn xv B s d w h hw (by omega) hx hs1 hs2 (by omega) hlc hcm h1 h2 h3 h4 h5 h6
  · exact ord_out4 A l c xk xn xv _ w h hw hl hx h1 h2 h3 (fun W _ => few_big B n d W (by omega) hn)
end Go.Proofs.Ytnlfndhgdeapeaa
