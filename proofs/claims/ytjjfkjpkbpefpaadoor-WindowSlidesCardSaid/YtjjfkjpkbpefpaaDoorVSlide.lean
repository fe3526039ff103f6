/- The window's Slide. -/
import Derived.Test.YtjjfkjpkbpefpaaDoorVSt0
namespace Go.Proofs.YtjjfkjpkbpefpaaDoor.Vn
open Go.RowKit
set_option maxRecDepth 100000
set_option maxHeartbeats 8000000
attribute [local irreducible] wpQuiet

/-- what Slide tells -/
def SlidePost (fn : Int) (l : List Sm) (s e p len off : Int) (w : World) (E : Ending) (w' : World) : Prop :=
  Gr w w' ∧ ((chkE fn s e p len off ≠ 0 ∧ E = .returned (.tuple #[.agg #[.slice none 0 0, .slice none 0 0], .int .i64 (chkE fn s e p len off)])) ∨
    (chkE fn s e p len off = 0 ∧ ∃ n : Nat, (n : Int) = ptN s e p ∧ ∃ A1 A2, E = .returned (.tuple #[.agg #[.slice A1 n n, .slice A2 n n], .int .i64 0]) ∧ FlL w' A1 (colV fn l s p len off n) ∧ At1 encB w' A2 (colH fn l s p len off n)))
theorem results_cell2 {P : Program} {fn : Func} {p q : Tmp} {ty : TypeId} (h : fn.results = #[.cell p ty, .tmp q]) (tmps : Array Value) (w : World) (g : Nat) (t : TypeId) (cs : Array Value) (fr : Nat × Nat) (d : TypeDesc)
    (hp : tmps.getD p undef = .pointer (some ⟨g, 0, none⟩)) (hg : w.heap[g]? = some (.cells cs t fr))
    (hu : P.underlying ty = some d) (hd : (match d with | .struct _ | .array _ _ => true | _ => false) = true) (hi : (P.info? ty).map (·.size) = some cs.size) :
    (results fn tmps).run P w = .ok (.tuple #[.agg cs, tmps.getD q undef]) w := by
  have hp' : tmps[p]?.getD undef = .pointer (some ⟨g, 0, none⟩) := by simpa using hp
  simp [results, h, hp', asAddr, run_loadVar_row w g t ty cs fr d hg hu hd hi]
theorem col_size : (Tryd.prog.info? 45).map (·.size) = some 2 := by kernel_rfl
/-- a box of two cells, written anew -/
theorem box2 {W : World} {b : Nat} {u v : Value} {T : TypeId} (h : W.heap[b]? = some (.cells #[u, v] T (0, 0))) (u' v' : Value) : ((W.setCell ⟨b, 0, none⟩ u').setCell ⟨b, 1, none⟩ v').heap[b]? = some (.cells #[u', v'] T (0, 0)) := by
  have h1 := heap_setCell_same W b 0 _ _ u' h
  have h2 := heap_setCell_same _ b 1 _ _ v' h1
  simpa using h2
theorem gset (W : World) (b i j : Nat) (u v : Value) : W.grownBy ((W.setCell ⟨b, i, none⟩ u).setCell ⟨b, j, none⟩ v) (some b) :=
  ⟨rfl, rfl, rfl, by simp [World.setCell], fun k _ hne => (Below.heap_setCell _ _ v k (by
    rintro rfl
    exact hne rfl)).trans (Below.heap_setCell W _ u k (by
    rintro rfl
    exact hne rfl))⟩
/-- what a row's stretch is -/
theorem sl_run (g3 lo hi m c : Nat) (h1 : lo ≤ hi) (h2 : hi ≤ c) : ∃ A', (∀ W, (Instr.slice 42 (.slice (some ⟨g3, 0, none⟩) m c) (some (.int .i64 (lo : Int))) (some (.int .i64 (hi : Int))) none).run Tryd.prog W = .ok (.slice A' (hi - lo) (c - lo)) W) ∧ (lo < c → A' = some ⟨g3, lo, none⟩) := by
  have hs : ∀ W, (sizeOf (Tryd.prog.elem 42)).run Tryd.prog W = .ok 1 W := fun W => by go_simp
  refine ⟨if c = lo then some ⟨g3, 0, none⟩ else some ⟨g3, lo, none⟩, fun W => ?_, ?_⟩
  · rw [run_slice_lh (P := Tryd.prog) W 42 _ m c Tryd.underlying42 .i64 .i64 lo hi (by omega) (by omega) (by omega), hs W]
    simp [Result.andThen, sliced, Addr.add]
    split
    · rfl
    · split <;> simp_all
  · intro h
    rw [if_neg (by omega)]
theorem fl_drop {W : World} {g3 lo hi : Nat} {l : List Nat} (h : FlL W (some ⟨g3, 0, none⟩) l) (hl : lo < l.length) : FlL W (some ⟨g3, lo, none⟩) ((l.take hi).drop lo) := fun _ => by
  obtain ⟨b, o, e, hc⟩ := h (by omega)
  simp only [Option.some.injEq, Addr.mk.injEq] at e
  obtain ⟨rfl, rfl, -⟩ := e
  refine ⟨_, lo, rfl, fun i x hx => ?_⟩
  rw [List.getElem?_drop] at hx
  have hx2 : l[lo + i]? = some x := by
    rw [List.getElem?_take] at hx
    split at hx
    · exact hx
    · cases hx
  have := hc _ x hx2
  rwa [Nat.zero_add] at this
/-- a point's two cells, told -/
theorem SlS.tail {w0 W : World} {L : List Sm} {A1 A3 : Option Addr} {s e p : Int} {G R C NV NH n i : Nat} {V : Nat → List Nat} {H : Nat → List Bool} (h : SlS w0 L A1 A3 s e p G R C NV NH n (fillV V n i) (fillH H n i) W) (hi : i < n) (x : Nat) (y : Bool) (hv : V (i + 1) = V i ++ [x]) (hh : H (i + 1) = H i ++ [y]) (lv : (V i).length = i) (lh : (H i).length = i) :
    W.cell? ⟨C, 0, none⟩ = some (.slice (some ⟨NV, 0, none⟩) n n) ∧ W.cell? ⟨C, 1, none⟩ = some (.slice (some ⟨NH, 0, none⟩) n n) ∧ (∃ u, W.cell? ⟨NV, i, none⟩ = some u) ∧ W.frozen? ⟨NV, i, none⟩ = false ∧
    (W.setCell ⟨NV, i, none⟩ (.float .f64 x)).cell? ⟨C, 0, none⟩ = some (.slice (some ⟨NV, 0, none⟩) n n) ∧ (W.setCell ⟨NV, i, none⟩ (.float .f64 x)).cell? ⟨C, 1, none⟩ = some (.slice (some ⟨NH, 0, none⟩) n n) ∧ (∃ u, (W.setCell ⟨NV, i, none⟩ (.float .f64 x)).cell? ⟨NH, i, none⟩ = some u) ∧ (W.setCell ⟨NV, i, none⟩ (.float .f64 x)).frozen? ⟨NH, i, none⟩ = false ∧
    SlS w0 L A1 A3 s e p G R C NV NH n (fillV V n (i + 1)) (fillH H n (i + 1)) ((W.setCell ⟨NV, i, none⟩ (.float .f64 x)).setCell ⟨NH, i, none⟩ (.bool y)) := by
  have h4 := h.putV i x
  have h5 := h4.putH i y
  unfold fillV at h5
  unfold fillH at h5
  rw [fill_set lv hi hv, fill_set lh hi hh] at h5
  have a := h.rv.cellAt h.lv.symm (j := i) (by rw [h.lv]; exact hi)
  have b := h4.rh.cellAt h4.lh.symm (j := i) (by rw [h4.lh]; exact hi)
  exact ⟨h.c0, h.c1, ⟨_, a.1⟩, a.2, h4.c0, h4.c1, ⟨_, b.1⟩, b.2, h5⟩
theorem winT_s (s p off : Int) (i : Nat) : winT s p off (i + 1) = winT s p off i + p := by
  unfold winT
  rw [show ((i + 1 : Nat) : Int) = (i : Int) + 1 by omega, Int.add_mul]
  omega
theorem slide_ok (fn : Nat) (h1 : 1 ≤ fn) (h14 : fn ≤ 14) (s e p len off : Int) (A : Option Addr) (c : Nat) (l : List Sm) (w : World) (h : SmpH w A c l) (hc : chkE fn s e p len off = 0) (n : Nat) (hn : (n : Int) = ptN s e p) (hn1 : 1 ≤ n) (hG : GridH s e p len off n) :
    Calls Tryd.prog 23 #[.int .i64 fn, .slice A l.length c, .agg #[.int .i64 s, .int .i64 e, .int .i64 p], .int .i64 len, .int .i64 off] w (SlidePost fn l s e p len off w) := by
  obtain ⟨L, hL⟩ : ∃ L, strL l (winT s p off 0 - len) (winT s p off (n - 1)) = L := ⟨_, rfl⟩
  have hLa : AscT L := by rw [← hL]; exact h.asc.filt _
  have hLn : L.length ≤ 1000000 := by rw [← hL]; have := strL_len l (winT s p off 0 - len) (winT s p off (n - 1)); have := h.hn; omega
  have hpos := hG.st.2.2.1
  have hwm : ∀ i, i < n → winT s p off 0 ≤ winT s p off i ∧ winT s p off i ≤ winT s p off (n - 1) := fun i hi => by
    unfold winT
    have e1 : (0 : Int) ≤ (i : Int) * p := Int.mul_nonneg (by omega) (by omega)
    have e2 : (i : Int) * p ≤ ((n - 1 : Nat) : Int) * p := Int.mul_le_mul_of_nonneg_right (by omega) (by omega)
    omega
  -- what a point is worth
  have HVAL : Hid (∀ i, i < n → fnP fn l (winT s p off i - len) (winT s p off i) = outP fn (((vals L).take (cntT L (winT s p off i))).drop (cntT L (winT s p off i - len))) (Flo.ofI len)) := Lib.hid fun i hi => by
    have hif : isFn (fn : Int) = true := by unfold isFn; rw [decide_eq_true (by omega), decide_eq_true (by omega)]; rfl
    have hw := hwm i hi
    have hl1 := hG.ln.1
    unfold fnP
    rw [hif, decide_eq_true (by omega), win_vals h.asc (F := winT s p off 0 - len) (T := winT s p off (n - 1)) (by omega) hw.2, hL]
    rw [show winT s p off i - (winT s p off i - len) = len by omega]
    rfl
  have hT : ∀ i, winT s p off (i + 1) = winT s p off i + p := winT_s s p off
  have hbT : ∀ i, i < n → -2251799813685248 ≤ winT s p off i ∧ winT s p off i ≤ 2251799813685248 := fun i hi => by
    have := hG.at_ i hi
    have := hG.of_
    unfold winT; omega
  have HVS := Lib.hid (colV_s fn l s p len off); have HHS := Lib.hid (colH_s fn l s p len off)
  have HVL := Lib.hid (colV_len fn l s p len off); have HHL := Lib.hid (colH_len fn l s p len off)
  have HTT := Lib.hid hT; have HBT := Lib.hid hbT
  have HLA := Lib.hid hLa; have HLN := Lib.hid hLn
  have HPOST : Hid (∀ W A1 A2, Gr w W → FlL W A1 (colV fn l s p len off n) → At1 encB W A2 (colH fn l s p len off n) → SlidePost fn l s e p len off w (.returned (.tuple #[.agg #[.slice A1 n n, .slice A2 n n], .int .i64 0])) W) := Lib.hid fun W A1 A2 g h1 h2 => ⟨g, .inr ⟨hc, n, hn, A1, A2, rfl, h1, h2⟩⟩
  have CO : Hid (∀ i A' c' W, i < n → Gr w W → FlL W A' (((vals L).take (cntT L (winT s p off i))).drop (cntT L (winT s p off i - len))) → (((vals L).take (cntT L (winT s p off i))).drop (cntT L (winT s p off i - len))).length ≤ c' → Calls Tryd.prog 27 #[.int .i64 fn, .slice A' (((vals L).take (cntT L (winT s p off i))).drop (cntT L (winT s p off i - len))).length c', .float .f64 (Flo.ofI len)] W fun e w' => e = .returned (optV (fnP fn l (winT s p off i - len) (winT s p off i))) ∧ Gr W w') := Lib.hid fun i A' c' W hi g hat hc' => by
    have hb : ∀ y ∈ ((vals L).take (cntT L (winT s p off i))).drop (cntT L (winT s p off i - len)), y < 2 ^ 64 := fun y hy => by
      have h2 := List.mem_of_mem_take (List.mem_of_mem_drop hy)
      rw [← hL] at h2
      exact vals_bd h.bd y h2
    have hlen : (((vals L).take (cntT L (winT s p off i))).drop (cntT L (winT s p off i - len))).length ≤ 1000000 := by
      rw [List.length_drop, List.length_take, vals_len]; omega
    have := outcome_any fn h1 h14 A' c' _ (Flo.ofI len) W (h.ht.gv g) (h.hf.gr g) hat hc' hlen hb
    rwa [← HVAL.out i hi] at this
  have CCH := Lib.hid (fun W => wcheck_any fn s e p len off W)
  rw [hc] at CCH
  have CPT := Lib.hid (fun W => pts_any s e p W)
  rw [hG.pt] at CPT
  have CCUT := Lib.hid (fun W (g : Gr w W) => cut_any0 A c l (winT s p off 0 - len) (winT s p off (n - 1)) w W g h.at_ h.asc (by have := h.hn; omega) h.hc)
  unfold CutPost0 at CCUT
  rw [asc_cut h.asc, hL] at CCUT
  have hst := hG.st
  have hof := hG.of_
  have hln := hG.ln
  have hn4 := hG.n4
  have HB0 := Lib.hid (hbT 0 (by omega))
  have HB1 := Lib.hid (hbT (n - 1) (by omega))
  have HT0 : Hid (winT s p off 0 = s - off) := Lib.hid (by unfold winT; simp)
  have HT1 : Hid (winT s p off (n - 1) = s - off + ((n : Int) - 1) * p) := Lib.hid (by unfold winT; rw [show ((n - 1 : Nat) : Int) = (n : Int) - 1 by omega]; omega)
  clear HVAL hLa hLn hwm hpos hT hbT hG hc hn h1 h14 h
  go_enter Tryd.func23, Tryd.ntmps23
  go_wp2
  refine wp_scope3 (SlJ w fn s e p len off n L (colV fn l s p len off) (colH fn l s p len off)) (slm n L) (fun _ _ _ h => h.lt) rfl rfl rfl ?p2 ?p1 ?p0 ?first
  case p2 =>
    rintro m a W ⟨A1, c1, C, NV, NH, A3, c3, i, lo, hi, F, u, rfl, hs⟩ hm
    rw [slm_fr] at hm
    have HS := Lib.hid hs; have HM := Lib.hid hm
    have hin := hs.hlt (by decide)
    have hle := hs.hhi
    have hcl := cntT_le L (winT s p off i)
    have HHI := Lib.hid (Nat.le_trans hs.hhi (cntT_le L (winT s p off i)))
    have HLO := Lib.hid (Nat.le_trans hs.hlo (cntT_le L (winT s p off i - len)))
    have HAT := Lib.hid (hs.a1.gr hs.st.gr)
    obtain ⟨tq, htq⟩ : ∃ tq, winT s p off i = tq := ⟨_, rfl⟩
    have hll := HLN.out
    clear hs hm
    by_cases hx : hi < L.length
    · obtain ⟨q, hq⟩ : ∃ q, L[hi]? = some q := ⟨_, List.getElem?_eq_getElem hx⟩
      obtain ⟨b, o, rfl, hcells⟩ := HAT.out (by omega)
      obtain ⟨d1, -⟩ := hcells hi q hq _ _ rfl
      have HCN := Lib.hid (cnt_lt HLA.out (f := winT s p off i) hq)
      obtain ⟨qt, qv⟩ := q
      simp only at d1 HCN
      rw [htq] at HCN hle hcl
      have m1 : (hi : Int) < (L.length : Int) := by omega
      have m2 : (0 : Int) ≤ (hi : Int) := by omega
      clear hq hcells
      by_cases ht : qt ≤ tq
      · have t1 : decide (qt ≤ tq) = true := decide_eq_true ht
        have HLT : Hid (hi < cntT L (winT s p off i)) := Lib.hid (by rw [htq]; exact HCN.out.1 ht)
        unfold Fr
        rw [htq]
        go_wp2
        go_step3
        show SlJ w fn s e p len off n L _ _ 2 _ _ ∧ _ < m
        exact slj_goto (lb := 2) (m := m) i lo (hi + 1) (by rfl) (by rfl) (by first | rfl | exact htq.symm | rw [htq]) (by first | rfl | exact htq.symm | rw [htq]) (by rfl) (by first | rfl | omega) (by first | rfl | omega) ⟨HS.out.st, HS.out.a1, HS.out.k1, HS.out.k3, by omega, HS.out.hi_, HS.out.hlt, HS.out.hlo, HLT.out, HS.out.ka, HS.out.kc, HS.out.heq⟩ (by have := HM.out; have := HHI.out; have := HLO.out; omega)
      · have t1 : decide (qt ≤ tq) = false := decide_eq_false ht
        have HEQ : Hid (hi = cntT L (winT s p off i)) := Lib.hid (by rw [htq]; have hnl : ¬ hi < cntT L tq := fun g => ht (HCN.out.2 g); omega)
        obtain ⟨g3, rfl⟩ := HS.out.ka
        obtain rfl := HS.out.kc
        have hlo2 := HS.out.heq rfl
        have hlh : lo ≤ hi := by rw [hlo2, HEQ.out]; exact cnt_mono L (by have := hln; omega)
        obtain ⟨x, hxx⟩ : ∃ x, (fnP fn l (winT s p off i - len) (winT s p off i)).getD 0 = x := ⟨_, rfl⟩
        obtain ⟨y, hyy⟩ : ∃ y, (fnP fn l (winT s p off i - len) (winT s p off i)).isSome = y := ⟨_, rfl⟩
        have hrl : (((vals L).take hi).drop lo).length = hi - lo := by rw [List.length_drop, List.length_take, vals_len]; have := HHI.out; have := HEQ.out; omega
        have CO2 : Hid (∀ A' c' W, Gr w W → FlL W A' (((vals L).take hi).drop lo) → hi - lo ≤ c' → Calls Tryd.prog 27 #[.int .i64 fn, .slice A' (hi - lo) c', .float .f64 (Flo.ofI len)] W fun e w' => e = .returned (.tuple #[.float .f64 x, .bool y]) ∧ Gr W w') := Lib.hid fun A' c' W g hf hcc => by
          have h9 := CO.out i A' c' W hin g (by rw [← hlo2, ← HEQ.out]; exact hf) (by rw [← hlo2, ← HEQ.out, hrl]; exact hcc)
          rw [← hlo2, ← HEQ.out, hrl] at h9
          unfold optV at h9
          have hxx' := hxx; have hyy' := hyy
          rw [hxx', hyy'] at h9
          exact h9
        have HT9 : Hid (∀ W3, Gr W W3 → _) := Lib.hid fun W3 g => (HS.out.st.next g).tail hin x y (by rw [HVS.out, hxx]) (by rw [HHS.out, hyy]) (HVL.out i) (HHL.out i)
        have HF1 : Hid (lo < L.length → ∀ W3, Gr W W3 → FlL W3 (some ⟨g3, lo, none⟩) (((vals L).take hi).drop lo)) := Lib.hid fun hl W3 g => fl_drop (HS.out.st.v.gr g) (by rw [vals_len]; exact hl)
        have HF2 : Hid (lo = L.length → ∀ W3 A, FlL W3 A (((vals L).take hi).drop lo)) := Lib.hid fun hl W3 A h0 => absurd h0 (by rw [hrl]; have := HHI.out; omega)
        have HG := Lib.hid HS.out.st.gr
        have hb9 := HBT.out i hin
        have hW2 := HS.out.st.g2
        have hnx := HTT.out i
        have hHI := HHI.out
        have HNX : Hid (∀ W', Gr w W' → SlS w L (some ⟨b, o, none⟩) (some ⟨g3, 0, none⟩) s e p w.heap.size (w.heap.size + 1) C NV NH n (fillV (colV fn l s p len off) n (i + 1)) (fillH (colH fn l s p len off) n (i + 1)) W' → SlAt w s e p len off n L (colV fn l s p len off) (colH fn l s p len off) 0 (some ⟨b, o, none⟩) c1 C NV NH (some ⟨g3, 0, none⟩) L.length (i + 1) lo hi W') := Lib.hid fun W' _ h9 => ⟨h9, HS.out.a1, HS.out.k1, by rw [vals_len]; exact Nat.le_refl _, by omega, hin, fun h => absurd rfl h, Nat.le_trans HS.out.hlo (cnt_mono L (by rw [hnx]; omega)), Nat.le_trans HS.out.hhi (cnt_mono L (by rw [hnx]; omega)), ⟨g3, rfl⟩, rfl, fun h => absurd h (by decide)⟩
        have p1 : (0 : Int) ≤ (i : Int) := by omega
        have p2 : (i : Int) < (n : Int) := by omega
        have p3 : (0 : Int) ≤ (lo : Int) := by omega
        have p4 : (lo : Int) ≤ (hi : Int) := by omega
        have p5 : (hi : Int) ≤ (L.length : Int) := by omega
        obtain ⟨A9, hsl, hA9⟩ := sl_run g3 lo hi L.length L.length hlh (by omega)
        have HF : Hid (∀ W3, Gr W W3 → FlL W3 A9 (((vals L).take hi).drop lo)) := Lib.hid fun W3 g => by
          by_cases hz : lo < L.length
          · rw [hA9 hz]; exact HF1.out hz W3 g
          · exact HF2.out (by omega) W3 A9
        clear hA9 HF1 HF2 hlo2 hxx hyy hrl
        obtain ⟨k0, k1, -⟩ := HT9.out W (Gr.refl W)
        rw [htq] at hb9 hnx
        unfold Fr
        rw [htq]
        go_wp2
        clear d1
        go_region_held3 (fun w' => w'.cell? ⟨C, 0, none⟩ = some (.slice (some ⟨NV, 0, none⟩) n n) ∧ w'.cell? ⟨C, 1, none⟩ = some (.slice (some ⟨NH, 0, none⟩) n n))
            (first | exact ⟨HS9.c0, HS9.c1⟩ | exact ⟨k4, k5⟩ | exact ks3 | exact ⟨k0, k1⟩ | go_keep)
            (first
              | (go_simp
                 go_at_call 27
                 refine (CO2.out _ _ _ (HG.out.trans (Gr.refl _).drew) (HF.out _ (Gr.refl _).drew) (by omega)).mono ?_
                 rintro e w3 ⟨rfl, g3'⟩
                 obtain ⟨q0, q1, ⟨u2, q2⟩, q3, k4, k5, ⟨u6, q6⟩, q7, HS9⟩ := HT9.out w3 ((Gr.refl _).drew.trans g3')
                 have ks3 : w3.cell? ⟨C, 0, none⟩ = some (.slice (some ⟨NV, 0, none⟩) n n) ∧ w3.cell? ⟨C, 1, none⟩ = some (.slice (some ⟨NH, 0, none⟩) n n) := ⟨q0, q1⟩))
        generalize hW9 : ((w3.setCell ⟨NV, i, none⟩ (.float .f64 x)).setCell ⟨NH, i, none⟩ (.bool y)) = W9 at HS9 ⊢
        have hg2 := HS9.g2
        have HS10 := Lib.hid HS9
        clear hW9 HS9 ks3 k0 k1 k4 k5 q0 q1 q2 q3 q6 q7 hsl hW2 HT9 CO2 HF HG
        go_wp2
        have w1 : IntKind.i64.wrap ((i : Int) + 1) = (i : Int) + 1 := by rw [IntKind.wrap_i64]; omega
        have w2 : IntKind.i64.wrap (tq - len + p) = tq - len + p := by rw [IntKind.wrap_i64]; omega
        have w3' : IntKind.i64.wrap (tq + p) = tq + p := by rw [IntKind.wrap_i64]; omega
        go_region_held3 (fun w' => w'.cell? ⟨w.heap.size, 2, none⟩ = some (.int .i64 p)) (first | exact hg2 | go_keep) (first | (fail))
        have gr9 := HS10.out.next (Gr.refl _).drew
        go_wp2
        go_step3
        show SlJ w fn s e p len off n L _ _ 0 _ _ ∧ _ < m
        exact slj_goto (lb := 0) (m := m) (i + 1) lo hi (by rfl) (by rfl) (by first | exact hnx.symm) (by rw [hnx]; omega) (by first | rfl | omega) (by rfl) (by rfl) (HNX.out _ gr9.gr gr9) (by have := HM.out; have := HHI.out; have := HLO.out; omega)
    · have HEQ : Hid (hi = cntT L (winT s p off i)) := Lib.hid (by omega)
      have m1 : ¬ (hi : Int) < (L.length : Int) := by omega
      obtain ⟨g3, rfl⟩ := HS.out.ka
      obtain rfl := HS.out.kc
      have hlo2 := HS.out.heq rfl
      have hlh : lo ≤ hi := by rw [hlo2, HEQ.out]; exact cnt_mono L (by have := hln; omega)
      obtain ⟨x, hxx⟩ : ∃ x, (fnP fn l (winT s p off i - len) (winT s p off i)).getD 0 = x := ⟨_, rfl⟩
      obtain ⟨y, hyy⟩ : ∃ y, (fnP fn l (winT s p off i - len) (winT s p off i)).isSome = y := ⟨_, rfl⟩
      have hrl : (((vals L).take hi).drop lo).length = hi - lo := by rw [List.length_drop, List.length_take, vals_len]; have := HHI.out; have := HEQ.out; omega
      have CO2 : Hid (∀ A' c' W, Gr w W → FlL W A' (((vals L).take hi).drop lo) → hi - lo ≤ c' → Calls Tryd.prog 27 #[.int .i64 fn, .slice A' (hi - lo) c', .float .f64 (Flo.ofI len)] W fun e w' => e = .returned (.tuple #[.float .f64 x, .bool y]) ∧ Gr W w') := Lib.hid fun A' c' W g hf hcc => by
        have h9 := CO.out i A' c' W hin g (by rw [← hlo2, ← HEQ.out]; exact hf) (by rw [← hlo2, ← HEQ.out, hrl]; exact hcc)
        rw [← hlo2, ← HEQ.out, hrl] at h9
        unfold optV at h9
        have hxx' := hxx; have hyy' := hyy
        rw [hxx', hyy'] at h9
        exact h9
      have HT9 : Hid (∀ W3, Gr W W3 → _) := Lib.hid fun W3 g => (HS.out.st.next g).tail hin x y (by rw [HVS.out, hxx]) (by rw [HHS.out, hyy]) (HVL.out i) (HHL.out i)
      have HF1 : Hid (lo < L.length → ∀ W3, Gr W W3 → FlL W3 (some ⟨g3, lo, none⟩) (((vals L).take hi).drop lo)) := Lib.hid fun hl W3 g => fl_drop (HS.out.st.v.gr g) (by rw [vals_len]; exact hl)
      have HF2 : Hid (lo = L.length → ∀ W3 A, FlL W3 A (((vals L).take hi).drop lo)) := Lib.hid fun hl W3 A h0 => absurd h0 (by rw [hrl]; have := HHI.out; omega)
      have HG := Lib.hid HS.out.st.gr
      have hb9 := HBT.out i hin
      have hW2 := HS.out.st.g2
      have hnx := HTT.out i
      have hHI := HHI.out
      have HNX : Hid (∀ W', Gr w W' → SlS w L A1 (some ⟨g3, 0, none⟩) s e p w.heap.size (w.heap.size + 1) C NV NH n (fillV (colV fn l s p len off) n (i + 1)) (fillH (colH fn l s p len off) n (i + 1)) W' → SlAt w s e p len off n L (colV fn l s p len off) (colH fn l s p len off) 0 A1 c1 C NV NH (some ⟨g3, 0, none⟩) L.length (i + 1) lo hi W') := Lib.hid fun W' _ h9 => ⟨h9, HS.out.a1, HS.out.k1, by rw [vals_len]; exact Nat.le_refl _, by omega, hin, fun h => absurd rfl h, Nat.le_trans HS.out.hlo (cnt_mono L (by rw [hnx]; omega)), Nat.le_trans HS.out.hhi (cnt_mono L (by rw [hnx]; omega)), ⟨g3, rfl⟩, rfl, fun h => absurd h (by decide)⟩
      have p1 : (0 : Int) ≤ (i : Int) := by omega
      have p2 : (i : Int) < (n : Int) := by omega
      have p3 : (0 : Int) ≤ (lo : Int) := by omega
      have p4 : (lo : Int) ≤ (hi : Int) := by omega
      have p5 : (hi : Int) ≤ (L.length : Int) := by omega
      obtain ⟨A9, hsl, hA9⟩ := sl_run g3 lo hi L.length L.length hlh (by omega)
      have HF : Hid (∀ W3, Gr W W3 → FlL W3 A9 (((vals L).take hi).drop lo)) := Lib.hid fun W3 g => by
        by_cases hz : lo < L.length
        · rw [hA9 hz]; exact HF1.out hz W3 g
        · exact HF2.out (by omega) W3 A9
      clear hA9 HF1 HF2 hlo2 hxx hyy hrl
      obtain ⟨k0, k1, -⟩ := HT9.out W (Gr.refl W)
      rw [htq] at hb9 hnx
      unfold Fr
      rw [htq]
      go_wp2
      go_region_held3 (fun w' => w'.cell? ⟨C, 0, none⟩ = some (.slice (some ⟨NV, 0, none⟩) n n) ∧ w'.cell? ⟨C, 1, none⟩ = some (.slice (some ⟨NH, 0, none⟩) n n))
          (first | exact ⟨HS9.c0, HS9.c1⟩ | exact ⟨k4, k5⟩ | exact ks3 | exact ⟨k0, k1⟩ | go_keep)
          (first
            | (go_simp
               go_at_call 27
               refine (CO2.out _ _ _ (HG.out.trans (Gr.refl _).drew) (HF.out _ (Gr.refl _).drew) (by omega)).mono ?_
               rintro e w3 ⟨rfl, g3'⟩
               obtain ⟨q0, q1, ⟨u2, q2⟩, q3, k4, k5, ⟨u6, q6⟩, q7, HS9⟩ := HT9.out w3 ((Gr.refl _).drew.trans g3')
               have ks3 : w3.cell? ⟨C, 0, none⟩ = some (.slice (some ⟨NV, 0, none⟩) n n) ∧ w3.cell? ⟨C, 1, none⟩ = some (.slice (some ⟨NH, 0, none⟩) n n) := ⟨q0, q1⟩))
      generalize hW9 : ((w3.setCell ⟨NV, i, none⟩ (.float .f64 x)).setCell ⟨NH, i, none⟩ (.bool y)) = W9 at HS9 ⊢
      have hg2 := HS9.g2
      have HS10 := Lib.hid HS9
      clear hW9 HS9 ks3 k0 k1 k4 k5 q0 q1 q2 q3 q6 q7 hsl hW2 HT9 CO2 HF HG
      go_wp2
      have w1 : IntKind.i64.wrap ((i : Int) + 1) = (i : Int) + 1 := by rw [IntKind.wrap_i64]; omega
      have w2 : IntKind.i64.wrap (tq - len + p) = tq - len + p := by rw [IntKind.wrap_i64]; omega
      have w3' : IntKind.i64.wrap (tq + p) = tq + p := by rw [IntKind.wrap_i64]; omega
      go_region_held3 (fun w' => w'.cell? ⟨w.heap.size, 2, none⟩ = some (.int .i64 p)) (first | exact hg2 | go_keep) (first | (fail))
      have gr9 := HS10.out.next (Gr.refl _).drew
      go_wp2
      go_step3
      show SlJ w fn s e p len off n L _ _ 0 _ _ ∧ _ < m
      exact slj_goto (lb := 0) (m := m) (i + 1) lo hi (by rfl) (by rfl) (by first | exact hnx.symm) (by rw [hnx]; omega) (by first | rfl | omega) (by rfl) (by rfl) (HNX.out _ gr9.gr gr9) (by have := HM.out; have := HHI.out; have := HLO.out; omega)
  case p1 =>
    intro hp2
    have HP := Lib.hid hp2; clear hp2
    rintro m a W ⟨A1, c1, C, NV, NH, A3, c3, i, lo, hi, F, u, rfl, hs⟩ hm
    rw [slm_fr] at hm
    have HS := Lib.hid hs; have HM := Lib.hid hm
    have hin := hs.hlt (by decide)
    have hle := hs.hlo
    have hcl := cntT_le L (winT s p off i - len)
    have HHI := Lib.hid (Nat.le_trans hs.hhi (cntT_le L (winT s p off i)))
    have HLO := Lib.hid (Nat.le_trans hs.hlo (cntT_le L (winT s p off i - len)))
    have HAT := Lib.hid (hs.a1.gr hs.st.gr)
    obtain ⟨tq, htq⟩ : ∃ tq, winT s p off i - len = tq := ⟨_, rfl⟩
    have hll := HLN.out
    clear hs hm
    by_cases hx : lo < L.length
    · obtain ⟨q, hq⟩ : ∃ q, L[lo]? = some q := ⟨_, List.getElem?_eq_getElem hx⟩
      obtain ⟨b, o, rfl, hcells⟩ := HAT.out (by omega)
      obtain ⟨d1, -⟩ := hcells lo q hq _ _ rfl
      have HCN := Lib.hid (cnt_lt HLA.out (f := winT s p off i - len) hq)
      obtain ⟨qt, qv⟩ := q
      simp only at d1 HCN
      rw [htq] at HCN hle hcl
      have m1 : (lo : Int) < (L.length : Int) := by omega
      have m2 : (0 : Int) ≤ (lo : Int) := by omega
      clear hq hcells
      by_cases ht : qt ≤ tq
      · have t1 : decide (qt ≤ tq) = true := decide_eq_true ht
        have HLT : Hid (lo < cntT L (winT s p off i - len)) := Lib.hid (by rw [htq]; exact HCN.out.1 ht)
        unfold Fr
        rw [htq]
        go_wp2
        go_step3
        show SlJ w fn s e p len off n L _ _ 1 _ _ ∧ _ < m
        exact slj_goto (lb := 1) (m := m) i (lo + 1) hi (by rfl) (by rfl) (by first | rfl | exact htq.symm) (by first | rfl | exact htq.symm) (by rfl) (by first | rfl | omega) (by first | rfl | omega) ⟨HS.out.st, HS.out.a1, HS.out.k1, HS.out.k3, by omega, HS.out.hi_, HS.out.hlt, HLT.out, HS.out.hhi, HS.out.ka, HS.out.kc, fun h => absurd h (by decide)⟩ (by have := HM.out; have := HHI.out; have := HLO.out; omega)
      · have t1 : decide (qt ≤ tq) = false := decide_eq_false ht
        have HEQ : Hid (lo = cntT L (winT s p off i - len)) := Lib.hid (by rw [htq]; have hnl : ¬ lo < cntT L tq := fun g => ht (HCN.out.2 g); omega)
        unfold Fr
        rw [htq]
        go_wp2
        go_step3
        rename_i hk
        refine hk _ _ ?_
        show Code.wp Tryd.prog _ (jumps (fun l' a' w' => SlJ w fn s e p len off n L _ _ l' a' w' ∧ slm n L l' a' w' < m) _) _ _
        exact slj_fall (lb := 2) (m := m) HP.out i lo hi (by rfl) (by rfl) (by first | rfl | exact htq.symm) (by first | rfl | exact htq.symm) (by rfl) (by rfl) (by rfl) ⟨HS.out.st, HS.out.a1, HS.out.k1, HS.out.k3, by omega, HS.out.hi_, fun _ => hin, HS.out.hlo, HS.out.hhi, HS.out.ka, HS.out.kc, fun _ => HEQ.out⟩ HM.out
    · have HEQ : Hid (lo = cntT L (winT s p off i - len)) := Lib.hid (by omega)
      have m1 : ¬ (lo : Int) < (L.length : Int) := by omega
      unfold Fr
      go_wp2
      go_step3
      rename_i hk
      refine hk _ _ ?_
      show Code.wp Tryd.prog _ (jumps (fun l' a' w' => SlJ w fn s e p len off n L _ _ l' a' w' ∧ slm n L l' a' w' < m) _) _ _
      exact slj_fall (lb := 2) (m := m) HP.out i lo hi (by rfl) (by rfl) (by first | rfl | exact htq.symm) (by first | rfl | exact htq.symm) (by rfl) (by rfl) (by rfl) ⟨HS.out.st, HS.out.a1, HS.out.k1, HS.out.k3, by omega, HS.out.hi_, fun _ => hin, HS.out.hlo, HS.out.hhi, HS.out.ka, HS.out.kc, fun _ => HEQ.out⟩ HM.out
  case p0 =>
    intro hp1
    have HP := Lib.hid hp1; clear hp1
    rintro m a W ⟨A1, c1, C, NV, NH, A3, c3, i, lo, hi, F, u, rfl, hs⟩ hm
    rw [slm_fr] at hm
    have HS := Lib.hid hs; have HM := Lib.hid hm
    have hin := hs.hi_
    by_cases hx : i = n
    · have hcb := hs.st.cb.2
      have hrb := hs.st.r
      obtain ⟨d1, d2, d3, d4, d5, d6, d7, d8, d9, d10, d11⟩ := hs.st.d
      obtain ⟨R, hR⟩ : ∃ R, w.heap.size + 1 = R := ⟨_, rfl⟩
      rw [hR] at hrb d5 d6 d10 d11
      have c0 := cell_of_row W C 0 _ _ _ hcb
      have c1' := cell_of_row W C 1 _ _ _ hcb
      have o0 := cell_of_row W R 0 _ _ _ hrb
      have o1 := cell_of_row W R 1 _ _ _ hrb
      have o2 := frozen_of_row W R 0 _ _ hrb
      have o3 := frozen_of_row W R 1 _ _ hrb
      have hR4 := box2 hrb (.slice (some ⟨NV, 0, none⟩) n n) (.slice (some ⟨NH, 0, none⟩) n n)
      have gN : W.grownBy ((W.setCell ⟨R, 0, none⟩ (.slice (some ⟨NV, 0, none⟩) n n)).setCell ⟨R, 1, none⟩ (.slice (some ⟨NH, 0, none⟩) n n)) (some R) := gset W R 0 1 _ _
      have hg := hs.st.gr.grown gN (fun k hk => by cases hk; exact d11)
      have hrv := hs.st.rv.kept gN (.inr (by simp [Value.ownBlock]; omega))
      have hrh := hs.st.rh.kept gN (.inr (by simp [Value.ownBlock]; omega))
      have HFIN : Hid (SlidePost fn l s e p len off w (.returned (.tuple #[.agg #[.slice (some ⟨NV, 0, none⟩) n n, .slice (some ⟨NH, 0, none⟩) n n], .int .i64 0])) ((W.setCell ⟨R, 0, none⟩ (.slice (some ⟨NV, 0, none⟩) n n)).setCell ⟨R, 1, none⟩ (.slice (some ⟨NH, 0, none⟩) n n))) := Lib.hid (by
        obtain ⟨A', c', hv', hat, -, -, -, -⟩ := hrv.form
        obtain ⟨B', b', hv2, hat2, -, -, -, -⟩ := hrh.form
        simp only [Value.slice.injEq] at hv' hv2
        rw [← hv'.1] at hat
        rw [← hv2.1] at hat2
        subst hx
        refine HPOST.out _ _ _ hg ?_ ?_
        · have : fillV (colV fn l s p len off) i i = colV fn l s p len off i := by unfold fillV; simp
          rw [this] at hat; exact hat
        · have : fillH (colH fn l s p len off) i i = colH fn l s p len off i := by unfold fillH; simp
          rw [this] at hat2; exact hat2)
      have HR4 := Lib.hid hR4
      have m1 : (i : Int) = (n : Int) := by omega
      clear hs hm hcb hrb d1 d2 d3 d4 d5 d6 d7 d8 d9 d10 d11 hR4 gN hg hrv hrh HS HM HP
      have hres : Tryd.f23.results = #[.cell 10 45, .tmp 11] := by kernel_rfl
      unfold Fr
      rw [hR]
      go_wp2
      rw [jumps_ret]
      exact bodyPost_ret (v := .tuple #[.agg #[.slice (some ⟨NV, 0, none⟩) n n, .slice (some ⟨NH, 0, none⟩) n n], .int .i64 0]) (results_cell2 hres _ _ R _ _ (0, 0) _ rfl HR4.out Tryd.underlying45 rfl col_size) rfl HFIN.out
    · have m1 : ¬ (i : Int) = (n : Int) := by omega
      have hlt : i < n := by omega
      clear hs hm
      obtain ⟨tq, htq⟩ : ∃ tq, winT s p off i = tq := ⟨_, rfl⟩
      unfold Fr
      rw [htq]
      go_wp2
      go_step3
      rename_i hk
      refine hk _ _ ?_
      show Code.wp Tryd.prog _ (jumps (fun l' a' w' => SlJ w fn s e p len off n L _ _ l' a' w' ∧ slm n L l' a' w' < m) _) _ _
      exact slj_fall (lb := 1) (m := m) HP.out i lo hi (by rfl) (by rfl) (by first | rfl | exact htq.symm | rw [htq]) (by first | rfl | exact htq.symm | rw [htq]) (by rfl) (by rfl) (by rfl) ⟨HS.out.st, HS.out.a1, HS.out.k1, HS.out.k3, by omega, HS.out.hi_, fun _ => hlt, HS.out.hlo, HS.out.hhi, HS.out.ka, HS.out.kc, fun h => absurd h (by decide)⟩ HM.out
  case first =>
    intro hp0
    have HP := Lib.hid hp0; clear hp0
    obtain ⟨W1, hW1, g1, hb1⟩ := fresh w #[.int .i64 s, .int .i64 e, .int .i64 p] 41
    have hs1 : W1.heap.size = w.heap.size + 1 := by rw [← hW1]; simp
    obtain ⟨W2, hW2, g2, -⟩ := fresh W1 #[.slice none 0 0, .slice none 0 0] 45
    have hR2 : W2.heap[w.heap.size + 1]? = some (.cells #[.slice none 0 0, .slice none 0 0] 45 (0, 0)) := by rw [← hW2, ← hs1]; exact heap_alloc_new _ _
    have a0 := g2.cell (hb1 0 _ rfl)
    have a1 := g2.cell (hb1 1 (.int .i64 e) rfl)
    have a2 := g2.cell (hb1 2 (.int .i64 p) rfl)
    have HR2 := Lib.hid hR2
    have HG2 := Lib.hid (g1.trans g2)
    rw [hW1, hW2]
    clear hW1 hW2 g1 g2 hb1 hR2
    refine ⟨4 * n + L.length + L.length, ?_⟩
    go_wp2_with fail
    refine (CCH.out _).mono ?_
    rintro E w3 ⟨rfl, g3⟩
    have b0 := g3.cell a0
    have b1 := g3.cell a1
    have b2 := g3.cell a2
    have HG3 := Lib.hid g3
    clear a0 a1 a2 g3
    go_wp2_with fail
    refine (CPT.out _).mono ?_
    rintro E w4 ⟨rfl, g4⟩
    have c0 := g4.cell b0
    have c1' := g4.cell b1
    have c2' := g4.cell b2
    have HG4 := Lib.hid (HG3.out.trans g4)
    clear b0 b1 b2 g4 HG3
    go_wp2_with fail
    have mk1 := run_make_row' (P := Tryd.prog) 42 26 (.float .f64 0) 8 Tryd.underlying42 info_float rfl .i64 .i64 n (by omega) (by omega)
    have mk2 := run_make_row' (P := Tryd.prog) 43 4 (.bool false) 1 Tryd.underlying43 info_bool rfl .i64 .i64 n (by omega) (by omega)
    have HCC : Hid (∀ W, Gr w W → Calls Tryd.prog 29 #[.slice A l.length c, .int .i64 (s - off - len), .int .i64 (s - off + ((n : Int) - 1) * p)] W fun E w' => Gr W w' ∧ ∃ A' c', E = .returned (.slice A' L.length c') ∧ L.length ≤ c' ∧ At2 encP w A' L) := Lib.hid (by have := CCUT.out; rw [HT0.out, HT1.out] at this; exact this)
    obtain ⟨pm, hpm⟩ : ∃ pm, ((n : Int) - 1) * p = pm := ⟨_, rfl⟩
    have hb0 := HB0.out
    have hb1 := HB1.out
    rw [HT0.out] at hb0
    rw [HT1.out, hpm] at hb1
    rw [hpm] at HCC
    have r1 : IntKind.i64.wrap (s - off) = s - off := by rw [IntKind.wrap_i64]; omega
    have r2 : IntKind.i64.wrap (s - off - len) = s - off - len := by rw [IntKind.wrap_i64]; omega
    have r3 : IntKind.i64.wrap ((n : Int) - 1) = (n : Int) - 1 := by rw [IntKind.wrap_i64]; omega
    have r4 : IntKind.i64.wrap (((n : Int) - 1) * p) = pm := by rw [hpm, IntKind.wrap_i64]; omega
    have r5 : IntKind.i64.wrap (s - off + pm) = s - off + pm := by rw [IntKind.wrap_i64]; omega
    clear hb0 hb1 hpm
    go_region_held3 (fun _ => True) (first | trivial | go_keep) (first | (fail))
    · have H5 := Lib.hid (st0_1 w4 n (by unfold maxLen; omega))
      generalize hW5 : (((w4.alloc (.cells (madeCells #[.float .f64 0] n) 26)).alloc (.cells (madeCells #[.bool false] n) 4)).alloc (.cells #[.slice (some ⟨w4.heap.size, 0, none⟩) n n, .slice (some ⟨w4.heap.size + 1, 0, none⟩) n n] 45)).drew = W5 at H5 ⊢
      generalize w4.heap.size + 1 + 1 = x2 at H5 ⊢
      generalize w4.heap.size + 1 = x1 at H5 ⊢
      generalize w4.heap.size = x0 at H5 ⊢
      have k0 := H5.out.gr.cell c0
      have k2 := H5.out.gr.cell c2'
      have HG5 := Lib.hid ((HG2.out.trans HG4.out).trans H5.out.gr)
      clear hW5 c0 c1' c2' mk1 mk2
      go_wp2_with fail
      refine (HCC.out _ HG5.out).mono ?_
      rintro E w7 ⟨g7, A', c', rfl, hc7, hat7⟩
      have k0' := g7.cell k0
      have k2' := g7.cell k2
      have HV7 := Lib.hid (values_any3 A' c' L w7 (hat7.gr (HG5.out.trans g7)) (by have := HLN.out; omega))
      have HAT7 := Lib.hid hat7
      have H7 := Lib.hid g7
      clear k0 k2 g7 hat7
      go_wp2_with fail
      refine HV7.out.mono ?_
      rintro E w8 ⟨rfl, hfl8, g8⟩
      have HSS : Hid (SlS w L A' (some ⟨w7.heap.size, 0, none⟩) s e p w.heap.size (w.heap.size + 1) x2 x0 x1 n (fillV (colV fn l s p len off) n 0) (fillH (colH fn l s p len off) n 0) w8) := Lib.hid (sls_start HG2.out HG4.out H5.out H7.out g8 HR2.out (g8.cell k0') (g8.cell k2') hfl8 rfl rfl)
      clear k0' k2' hfl8 g8
      generalize w7.heap.size = x7 at HSS ⊢
      go_wp2
      go_step3
      rename_i hk
      refine hk _ _ ?_
      show Code.wp Tryd.prog _ (jumps (fun l' a' w' => SlJ w fn s e p len off n L _ _ l' a' w' ∧ slm n L l' a' w' < 4 * n + L.length + L.length) _) _ _
      exact slj_fall (lb := 0) (m := 4 * n + L.length + L.length) HP.out 0 0 0 (by rfl) (by rfl) (by rw [HT0.out]) (by rw [HT0.out]) (by rfl) (by rfl) (by rfl) ⟨HSS.out, HAT7.out, hc7, by rw [vals_len]; exact Nat.le_refl _, by omega, by omega, fun h => absurd rfl h, Nat.zero_le _, Nat.zero_le _, ⟨_, rfl⟩, rfl, fun h => absurd h (by decide)⟩ (by omega)
    · have H5 := Lib.hid (st0_2 w4 n (by unfold maxLen; omega))
      generalize hW5 : (((w4.alloc (.cells (madeCells #[.float .f64 0] n) 26)).alloc (.cells #[.slice (some ⟨w4.heap.size, 0, none⟩) n n, .slice (some ⟨w4.heap.size + 1 + 1, 0, none⟩) n n] 45)).alloc (.cells (madeCells #[.bool false] n) 4)).drew = W5 at H5 ⊢
      generalize w4.heap.size + 1 + 1 = x2 at H5 ⊢
      generalize w4.heap.size + 1 = x1 at H5 ⊢
      generalize w4.heap.size = x0 at H5 ⊢
      have k0 := H5.out.gr.cell c0
      have k2 := H5.out.gr.cell c2'
      have HG5 := Lib.hid ((HG2.out.trans HG4.out).trans H5.out.gr)
      clear hW5 c0 c1' c2' mk1 mk2
      go_wp2_with fail
      refine (HCC.out _ HG5.out).mono ?_
      rintro E w7 ⟨g7, A', c', rfl, hc7, hat7⟩
      have k0' := g7.cell k0
      have k2' := g7.cell k2
      have HV7 := Lib.hid (values_any3 A' c' L w7 (hat7.gr (HG5.out.trans g7)) (by have := HLN.out; omega))
      have HAT7 := Lib.hid hat7
      have H7 := Lib.hid g7
      clear k0 k2 g7 hat7
      go_wp2_with fail
      refine HV7.out.mono ?_
      rintro E w8 ⟨rfl, hfl8, g8⟩
      have HSS : Hid (SlS w L A' (some ⟨w7.heap.size, 0, none⟩) s e p w.heap.size (w.heap.size + 1) x1 x0 x2 n (fillV (colV fn l s p len off) n 0) (fillH (colH fn l s p len off) n 0) w8) := Lib.hid (sls_start HG2.out HG4.out H5.out H7.out g8 HR2.out (g8.cell k0') (g8.cell k2') hfl8 rfl rfl)
      clear k0' k2' hfl8 g8
      generalize w7.heap.size = x7 at HSS ⊢
      go_wp2
      go_step3
      rename_i hk
      refine hk _ _ ?_
      show Code.wp Tryd.prog _ (jumps (fun l' a' w' => SlJ w fn s e p len off n L _ _ l' a' w' ∧ slm n L l' a' w' < 4 * n + L.length + L.length) _) _ _
      exact slj_fall (lb := 0) (m := 4 * n + L.length + L.length) HP.out 0 0 0 (by rfl) (by rfl) (by rw [HT0.out]) (by rw [HT0.out]) (by rfl) (by rfl) (by rfl) ⟨HSS.out, HAT7.out, hc7, by rw [vals_len]; exact Nat.le_refl _, by omega, by omega, fun h => absurd rfl h, Nat.zero_le _, Nat.zero_le _, ⟨_, rfl⟩, rfl, fun h => absurd h (by decide)⟩ (by omega)
    · have H5 := Lib.hid (st0_3 w4 n (by unfold maxLen; omega))
      generalize hW5 : (((w4.alloc (.cells (madeCells #[.bool false] n) 4)).alloc (.cells (madeCells #[.float .f64 0] n) 26)).alloc (.cells #[.slice (some ⟨w4.heap.size + 1, 0, none⟩) n n, .slice (some ⟨w4.heap.size, 0, none⟩) n n] 45)).drew = W5 at H5 ⊢
      generalize w4.heap.size + 1 + 1 = x2 at H5 ⊢
      generalize w4.heap.size + 1 = x1 at H5 ⊢
      generalize w4.heap.size = x0 at H5 ⊢
      have k0 := H5.out.gr.cell c0
      have k2 := H5.out.gr.cell c2'
      have HG5 := Lib.hid ((HG2.out.trans HG4.out).trans H5.out.gr)
      clear hW5 c0 c1' c2' mk1 mk2
      go_wp2_with fail
      refine (HCC.out _ HG5.out).mono ?_
      rintro E w7 ⟨g7, A', c', rfl, hc7, hat7⟩
      have k0' := g7.cell k0
      have k2' := g7.cell k2
      have HV7 := Lib.hid (values_any3 A' c' L w7 (hat7.gr (HG5.out.trans g7)) (by have := HLN.out; omega))
      have HAT7 := Lib.hid hat7
      have H7 := Lib.hid g7
      clear k0 k2 g7 hat7
      go_wp2_with fail
      refine HV7.out.mono ?_
      rintro E w8 ⟨rfl, hfl8, g8⟩
      have HSS : Hid (SlS w L A' (some ⟨w7.heap.size, 0, none⟩) s e p w.heap.size (w.heap.size + 1) x2 x1 x0 n (fillV (colV fn l s p len off) n 0) (fillH (colH fn l s p len off) n 0) w8) := Lib.hid (sls_start HG2.out HG4.out H5.out H7.out g8 HR2.out (g8.cell k0') (g8.cell k2') hfl8 rfl rfl)
      clear k0' k2' hfl8 g8
      generalize w7.heap.size = x7 at HSS ⊢
      go_wp2
      go_step3
      rename_i hk
      refine hk _ _ ?_
      show Code.wp Tryd.prog _ (jumps (fun l' a' w' => SlJ w fn s e p len off n L _ _ l' a' w' ∧ slm n L l' a' w' < 4 * n + L.length + L.length) _) _ _
      exact slj_fall (lb := 0) (m := 4 * n + L.length + L.length) HP.out 0 0 0 (by rfl) (by rfl) (by rw [HT0.out]) (by rw [HT0.out]) (by rfl) (by rfl) (by rfl) ⟨HSS.out, HAT7.out, hc7, by rw [vals_len]; exact Nat.le_refl _, by omega, by omega, fun h => absurd rfl h, Nat.zero_le _, Nat.zero_le _, ⟨_, rfl⟩, rfl, fun h => absurd h (by decide)⟩ (by omega)
    · have H5 := Lib.hid (st0_4 w4 n (by unfold maxLen; omega))
      generalize hW5 : (((w4.alloc (.cells (madeCells #[.bool false] n) 4)).alloc (.cells #[.slice (some ⟨w4.heap.size + 1 + 1, 0, none⟩) n n, .slice (some ⟨w4.heap.size, 0, none⟩) n n] 45)).alloc (.cells (madeCells #[.float .f64 0] n) 26)).drew = W5 at H5 ⊢
      generalize w4.heap.size + 1 + 1 = x2 at H5 ⊢
      generalize w4.heap.size + 1 = x1 at H5 ⊢
      generalize w4.heap.size = x0 at H5 ⊢
      have k0 := H5.out.gr.cell c0
      have k2 := H5.out.gr.cell c2'
      have HG5 := Lib.hid ((HG2.out.trans HG4.out).trans H5.out.gr)
      clear hW5 c0 c1' c2' mk1 mk2
      go_wp2_with fail
      refine (HCC.out _ HG5.out).mono ?_
      rintro E w7 ⟨g7, A', c', rfl, hc7, hat7⟩
      have k0' := g7.cell k0
      have k2' := g7.cell k2
      have HV7 := Lib.hid (values_any3 A' c' L w7 (hat7.gr (HG5.out.trans g7)) (by have := HLN.out; omega))
      have HAT7 := Lib.hid hat7
      have H7 := Lib.hid g7
      clear k0 k2 g7 hat7
      go_wp2_with fail
      refine HV7.out.mono ?_
      rintro E w8 ⟨rfl, hfl8, g8⟩
      have HSS : Hid (SlS w L A' (some ⟨w7.heap.size, 0, none⟩) s e p w.heap.size (w.heap.size + 1) x1 x2 x0 n (fillV (colV fn l s p len off) n 0) (fillH (colH fn l s p len off) n 0) w8) := Lib.hid (sls_start HG2.out HG4.out H5.out H7.out g8 HR2.out (g8.cell k0') (g8.cell k2') hfl8 rfl rfl)
      clear k0' k2' hfl8 g8
      generalize w7.heap.size = x7 at HSS ⊢
      go_wp2
      go_step3
      rename_i hk
      refine hk _ _ ?_
      show Code.wp Tryd.prog _ (jumps (fun l' a' w' => SlJ w fn s e p len off n L _ _ l' a' w' ∧ slm n L l' a' w' < 4 * n + L.length + L.length) _) _ _
      exact slj_fall (lb := 0) (m := 4 * n + L.length + L.length) HP.out 0 0 0 (by rfl) (by rfl) (by rw [HT0.out]) (by rw [HT0.out]) (by rfl) (by rfl) (by rfl) ⟨HSS.out, HAT7.out, hc7, by rw [vals_len]; exact Nat.le_refl _, by omega, by omega, fun h => absurd rfl h, Nat.zero_le _, Nat.zero_le _, ⟨_, rfl⟩, rfl, fun h => absurd h (by decide)⟩ (by omega)
    · have H5 := Lib.hid (st0_5 w4 n (by unfold maxLen; omega))
      generalize hW5 : (((w4.alloc (.cells #[.slice (some ⟨w4.heap.size + 1, 0, none⟩) n n, .slice (some ⟨w4.heap.size + 1 + 1, 0, none⟩) n n] 45)).alloc (.cells (madeCells #[.float .f64 0] n) 26)).alloc (.cells (madeCells #[.bool false] n) 4)).drew = W5 at H5 ⊢
      generalize w4.heap.size + 1 + 1 = x2 at H5 ⊢
      generalize w4.heap.size + 1 = x1 at H5 ⊢
      generalize w4.heap.size = x0 at H5 ⊢
      have k0 := H5.out.gr.cell c0
      have k2 := H5.out.gr.cell c2'
      have HG5 := Lib.hid ((HG2.out.trans HG4.out).trans H5.out.gr)
      clear hW5 c0 c1' c2' mk1 mk2
      go_wp2_with fail
      refine (HCC.out _ HG5.out).mono ?_
      rintro E w7 ⟨g7, A', c', rfl, hc7, hat7⟩
      have k0' := g7.cell k0
      have k2' := g7.cell k2
      have HV7 := Lib.hid (values_any3 A' c' L w7 (hat7.gr (HG5.out.trans g7)) (by have := HLN.out; omega))
      have HAT7 := Lib.hid hat7
      have H7 := Lib.hid g7
      clear k0 k2 g7 hat7
      go_wp2_with fail
      refine HV7.out.mono ?_
      rintro E w8 ⟨rfl, hfl8, g8⟩
      have HSS : Hid (SlS w L A' (some ⟨w7.heap.size, 0, none⟩) s e p w.heap.size (w.heap.size + 1) x0 x1 x2 n (fillV (colV fn l s p len off) n 0) (fillH (colH fn l s p len off) n 0) w8) := Lib.hid (sls_start HG2.out HG4.out H5.out H7.out g8 HR2.out (g8.cell k0') (g8.cell k2') hfl8 rfl rfl)
      clear k0' k2' hfl8 g8
      generalize w7.heap.size = x7 at HSS ⊢
      go_wp2
      go_step3
      rename_i hk
      refine hk _ _ ?_
      show Code.wp Tryd.prog _ (jumps (fun l' a' w' => SlJ w fn s e p len off n L _ _ l' a' w' ∧ slm n L l' a' w' < 4 * n + L.length + L.length) _) _ _
      exact slj_fall (lb := 0) (m := 4 * n + L.length + L.length) HP.out 0 0 0 (by rfl) (by rfl) (by rw [HT0.out]) (by rw [HT0.out]) (by rfl) (by rfl) (by rfl) ⟨HSS.out, HAT7.out, hc7, by rw [vals_len]; exact Nat.le_refl _, by omega, by omega, fun h => absurd rfl h, Nat.zero_le _, Nat.zero_le _, ⟨_, rfl⟩, rfl, fun h => absurd h (by decide)⟩ (by omega)
    · have H5 := Lib.hid (st0_6 w4 n (by unfold maxLen; omega))
      generalize hW5 : (((w4.alloc (.cells #[.slice (some ⟨w4.heap.size + 1 + 1, 0, none⟩) n n, .slice (some ⟨w4.heap.size + 1, 0, none⟩) n n] 45)).alloc (.cells (madeCells #[.bool false] n) 4)).alloc (.cells (madeCells #[.float .f64 0] n) 26)).drew = W5 at H5 ⊢
      generalize w4.heap.size + 1 + 1 = x2 at H5 ⊢
      generalize w4.heap.size + 1 = x1 at H5 ⊢
      generalize w4.heap.size = x0 at H5 ⊢
      have k0 := H5.out.gr.cell c0
      have k2 := H5.out.gr.cell c2'
      have HG5 := Lib.hid ((HG2.out.trans HG4.out).trans H5.out.gr)
      clear hW5 c0 c1' c2' mk1 mk2
      go_wp2_with fail
      refine (HCC.out _ HG5.out).mono ?_
      rintro E w7 ⟨g7, A', c', rfl, hc7, hat7⟩
      have k0' := g7.cell k0
      have k2' := g7.cell k2
      have HV7 := Lib.hid (values_any3 A' c' L w7 (hat7.gr (HG5.out.trans g7)) (by have := HLN.out; omega))
      have HAT7 := Lib.hid hat7
      have H7 := Lib.hid g7
      clear k0 k2 g7 hat7
      go_wp2_with fail
      refine HV7.out.mono ?_
      rintro E w8 ⟨rfl, hfl8, g8⟩
      have HSS : Hid (SlS w L A' (some ⟨w7.heap.size, 0, none⟩) s e p w.heap.size (w.heap.size + 1) x0 x2 x1 n (fillV (colV fn l s p len off) n 0) (fillH (colH fn l s p len off) n 0) w8) := Lib.hid (sls_start HG2.out HG4.out H5.out H7.out g8 HR2.out (g8.cell k0') (g8.cell k2') hfl8 rfl rfl)
      clear k0' k2' hfl8 g8
      generalize w7.heap.size = x7 at HSS ⊢
      go_wp2
      go_step3
      rename_i hk
      refine hk _ _ ?_
      show Code.wp Tryd.prog _ (jumps (fun l' a' w' => SlJ w fn s e p len off n L _ _ l' a' w' ∧ slm n L l' a' w' < 4 * n + L.length + L.length) _) _ _
      exact slj_fall (lb := 0) (m := 4 * n + L.length + L.length) HP.out 0 0 0 (by rfl) (by rfl) (by rw [HT0.out]) (by rw [HT0.out]) (by rfl) (by rfl) (by rfl) ⟨HSS.out, HAT7.out, hc7, by rw [vals_len]; exact Nat.le_refl _, by omega, by omega, fun h => absurd rfl h, Nat.zero_le _, Nat.zero_le _, ⟨_, rfl⟩, rfl, fun h => absurd h (by decide)⟩ (by omega)
end Go.Proofs.YtjjfkjpkbpefpaaDoor.Vn
