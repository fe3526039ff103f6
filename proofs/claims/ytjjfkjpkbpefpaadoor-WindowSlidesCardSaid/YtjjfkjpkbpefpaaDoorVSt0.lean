/- The three blocks that Slide makes, in every order. -/
import Derived.Test.YtjjfkjpkbpefpaaDoorVCut0
namespace Go.Proofs.YtjjfkjpkbpefpaaDoor.Vn
open Go.RowKit
set_option maxRecDepth 100000
set_option maxHeartbeats 4000000
theorem bornV {X Y : World} {N B n : Nat} (hN : X.heap.size = N) (g : Gr (X.alloc (.cells (madeCells #[.float .f64 0] n) 26)) Y) (hB : B ≤ N) (hn : n ≤ maxLen) : OwnF Y B (.slice (some ⟨N, 0, none⟩) n n) (List.replicate n 0) := by
  subst hN
  exact (own1_made (enc := encF) (T := 26) X 0 n hB hn).gr g
theorem bornH {X Y : World} {N B n : Nat} (hN : X.heap.size = N) (g : Gr (X.alloc (.cells (madeCells #[.bool false] n) 4)) Y) (hB : B ≤ N) (hn : n ≤ maxLen) : OwnB Y B (.slice (some ⟨N, 0, none⟩) n n) (List.replicate n false) := by
  subst hN
  exact (own1_made (enc := encB) (T := 4) X false n hB hn).gr g
theorem bornC {X Y : World} {N : Nat} {cs : Array Value} {T : TypeId} (hN : X.heap.size = N) (g : Gr (X.alloc (.cells cs T)) Y) : N < Y.heap.size ∧ Y.heap[N]? = some (.cells cs T (0, 0)) := by
  subst hN
  have hs := g.size
  have hz : (X.alloc (.cells cs T)).heap.size = X.heap.size + 1 := by simp
  exact ⟨by omega, (g.b.block X.heap.size (by omega)).trans (heap_alloc_new _ _)⟩
structure St0 (w0 w5 : World) (C NV NH n : Nat) : Prop where
  gr : Gr w0 w5
  lo : w0.heap.size ≤ C ∧ w0.heap.size ≤ NV ∧ w0.heap.size ≤ NH
  ne : C ≠ NV ∧ C ≠ NH ∧ NV ≠ NH
  cb : C < w5.heap.size ∧ w5.heap[C]? = some (.cells #[.slice (some ⟨NV, 0, none⟩) n n, .slice (some ⟨NH, 0, none⟩) n n] 45 (0, 0))
  rv : ∀ B, B ≤ w0.heap.size → OwnF w5 B (.slice (some ⟨NV, 0, none⟩) n n) (List.replicate n 0)
  rh : ∀ B, B ≤ w0.heap.size → OwnB w5 B (.slice (some ⟨NH, 0, none⟩) n n) (List.replicate n false)
theorem st0_1 (w4 : World) (n : Nat) (hn : n ≤ maxLen) : St0 w4 (((w4.alloc (.cells (madeCells #[.float .f64 0] n) 26)).alloc (.cells (madeCells #[.bool false] n) 4)).alloc (.cells #[.slice (some ⟨w4.heap.size, 0, none⟩) n n, .slice (some ⟨w4.heap.size + 1, 0, none⟩) n n] 45)).drew (w4.heap.size + 1 + 1) (w4.heap.size) (w4.heap.size + 1) n :=
  ⟨by (refine Gr.drew ?_; repeat (first | exact Gr.refl _ | refine Gr.alloc ?_ _ _)), by omega, by omega, bornC (X := ((w4.alloc (.cells (madeCells #[.float .f64 0] n) 26)).alloc (.cells (madeCells #[.bool false] n) 4))) (by simp) (by (refine Gr.drew ?_; repeat (first | exact Gr.refl _ | refine Gr.alloc ?_ _ _))), fun B hB => bornV (X := w4) (by simp) (by (refine Gr.drew ?_; repeat (first | exact Gr.refl _ | refine Gr.alloc ?_ _ _))) (by omega) hn, fun B hB => bornH (X := (w4.alloc (.cells (madeCells #[.float .f64 0] n) 26))) (by simp) (by (refine Gr.drew ?_; repeat (first | exact Gr.refl _ | refine Gr.alloc ?_ _ _))) (by omega) hn⟩
theorem st0_2 (w4 : World) (n : Nat) (hn : n ≤ maxLen) : St0 w4 (((w4.alloc (.cells (madeCells #[.float .f64 0] n) 26)).alloc (.cells #[.slice (some ⟨w4.heap.size, 0, none⟩) n n, .slice (some ⟨w4.heap.size + 1 + 1, 0, none⟩) n n] 45)).alloc (.cells (madeCells #[.bool false] n) 4)).drew (w4.heap.size + 1) (w4.heap.size) (w4.heap.size + 1 + 1) n :=
  ⟨by (refine Gr.drew ?_; repeat (first | exact Gr.refl _ | refine Gr.alloc ?_ _ _)), by omega, by omega, bornC (X := (w4.alloc (.cells (madeCells #[.float .f64 0] n) 26))) (by simp) (by (refine Gr.drew ?_; repeat (first | exact Gr.refl _ | refine Gr.alloc ?_ _ _))), fun B hB => bornV (X := w4) (by simp) (by (refine Gr.drew ?_; repeat (first | exact Gr.refl _ | refine Gr.alloc ?_ _ _))) (by omega) hn, fun B hB => bornH (X := ((w4.alloc (.cells (madeCells #[.float .f64 0] n) 26)).alloc (.cells #[.slice (some ⟨w4.heap.size, 0, none⟩) n n, .slice (some ⟨w4.heap.size + 1 + 1, 0, none⟩) n n] 45))) (by simp) (by (refine Gr.drew ?_; repeat (first | exact Gr.refl _ | refine Gr.alloc ?_ _ _))) (by omega) hn⟩
theorem st0_3 (w4 : World) (n : Nat) (hn : n ≤ maxLen) : St0 w4 (((w4.alloc (.cells (madeCells #[.bool false] n) 4)).alloc (.cells (madeCells #[.float .f64 0] n) 26)).alloc (.cells #[.slice (some ⟨w4.heap.size + 1, 0, none⟩) n n, .slice (some ⟨w4.heap.size, 0, none⟩) n n] 45)).drew (w4.heap.size + 1 + 1) (w4.heap.size + 1) (w4.heap.size) n :=
  ⟨by (refine Gr.drew ?_; repeat (first | exact Gr.refl _ | refine Gr.alloc ?_ _ _)), by omega, by omega, bornC (X := ((w4.alloc (.cells (madeCells #[.bool false] n) 4)).alloc (.cells (madeCells #[.float .f64 0] n) 26))) (by simp) (by (refine Gr.drew ?_; repeat (first | exact Gr.refl _ | refine Gr.alloc ?_ _ _))), fun B hB => bornV (X := (w4.alloc (.cells (madeCells #[.bool false] n) 4))) (by simp) (by (refine Gr.drew ?_; repeat (first | exact Gr.refl _ | refine Gr.alloc ?_ _ _))) (by omega) hn, fun B hB => bornH (X := w4) (by simp) (by (refine Gr.drew ?_; repeat (first | exact Gr.refl _ | refine Gr.alloc ?_ _ _))) (by omega) hn⟩
theorem st0_4 (w4 : World) (n : Nat) (hn : n ≤ maxLen) : St0 w4 (((w4.alloc (.cells (madeCells #[.bool false] n) 4)).alloc (.cells #[.slice (some ⟨w4.heap.size + 1 + 1, 0, none⟩) n n, .slice (some ⟨w4.heap.size, 0, none⟩) n n] 45)).alloc (.cells (madeCells #[.float .f64 0] n) 26)).drew (w4.heap.size + 1) (w4.heap.size + 1 + 1) (w4.heap.size) n :=
  ⟨by (refine Gr.drew ?_; repeat (first | exact Gr.refl _ | refine Gr.alloc ?_ _ _)), by omega, by omega, bornC (X := (w4.alloc (.cells (madeCells #[.bool false] n) 4))) (by simp) (by (refine Gr.drew ?_; repeat (first | exact Gr.refl _ | refine Gr.alloc ?_ _ _))), fun B hB => bornV (X := ((w4.alloc (.cells (madeCells #[.bool false] n) 4)).alloc (.cells #[.slice (some ⟨w4.heap.size + 1 + 1, 0, none⟩) n n, .slice (some ⟨w4.heap.size, 0, none⟩) n n] 45))) (by simp) (by (refine Gr.drew ?_; repeat (first | exact Gr.refl _ | refine Gr.alloc ?_ _ _))) (by omega) hn, fun B hB => bornH (X := w4) (by simp) (by (refine Gr.drew ?_; repeat (first | exact Gr.refl _ | refine Gr.alloc ?_ _ _))) (by omega) hn⟩
theorem st0_5 (w4 : World) (n : Nat) (hn : n ≤ maxLen) : St0 w4 (((w4.alloc (.cells #[.slice (some ⟨w4.heap.size + 1, 0, none⟩) n n, .slice (some ⟨w4.heap.size + 1 + 1, 0, none⟩) n n] 45)).alloc (.cells (madeCells #[.float .f64 0] n) 26)).alloc (.cells (madeCells #[.bool false] n) 4)).drew (w4.heap.size) (w4.heap.size + 1) (w4.heap.size + 1 + 1) n :=
  ⟨by (refine Gr.drew ?_; repeat (first | exact Gr.refl _ | refine Gr.alloc ?_ _ _)), by omega, by omega, bornC (X := w4) (by simp) (by (refine Gr.drew ?_; repeat (first | exact Gr.refl _ | refine Gr.alloc ?_ _ _))), fun B hB => bornV (X := (w4.alloc (.cells #[.slice (some ⟨w4.heap.size + 1, 0, none⟩) n n, .slice (some ⟨w4.heap.size + 1 + 1, 0, none⟩) n n] 45))) (by simp) (by (refine Gr.drew ?_; repeat (first | exact Gr.refl _ | refine Gr.alloc ?_ _ _))) (by omega) hn, fun B hB => bornH (X := ((w4.alloc (.cells #[.slice (some ⟨w4.heap.size + 1, 0, none⟩) n n, .slice (some ⟨w4.heap.size + 1 + 1, 0, none⟩) n n] 45)).alloc (.cells (madeCells #[.float .f64 0] n) 26))) (by simp) (by (refine Gr.drew ?_; repeat (first | exact Gr.refl _ | refine Gr.alloc ?_ _ _))) (by omega) hn⟩
theorem st0_6 (w4 : World) (n : Nat) (hn : n ≤ maxLen) : St0 w4 (((w4.alloc (.cells #[.slice (some ⟨w4.heap.size + 1 + 1, 0, none⟩) n n, .slice (some ⟨w4.heap.size + 1, 0, none⟩) n n] 45)).alloc (.cells (madeCells #[.bool false] n) 4)).alloc (.cells (madeCells #[.float .f64 0] n) 26)).drew (w4.heap.size) (w4.heap.size + 1 + 1) (w4.heap.size + 1) n :=
  ⟨by (refine Gr.drew ?_; repeat (first | exact Gr.refl _ | refine Gr.alloc ?_ _ _)), by omega, by omega, bornC (X := w4) (by simp) (by (refine Gr.drew ?_; repeat (first | exact Gr.refl _ | refine Gr.alloc ?_ _ _))), fun B hB => bornV (X := ((w4.alloc (.cells #[.slice (some ⟨w4.heap.size + 1 + 1, 0, none⟩) n n, .slice (some ⟨w4.heap.size + 1, 0, none⟩) n n] 45)).alloc (.cells (madeCells #[.bool false] n) 4))) (by simp) (by (refine Gr.drew ?_; repeat (first | exact Gr.refl _ | refine Gr.alloc ?_ _ _))) (by omega) hn, fun B hB => bornH (X := (w4.alloc (.cells #[.slice (some ⟨w4.heap.size + 1 + 1, 0, none⟩) n n, .slice (some ⟨w4.heap.size + 1, 0, none⟩) n n] 45))) (by simp) (by (refine Gr.drew ?_; repeat (first | exact Gr.refl _ | refine Gr.alloc ?_ _ _))) (by omega) hn⟩
theorem sls_start {w W2 w4 W5 W7 W8 : World} {C NV NH n : Nat} {L : List Sm} {A1 : Option Addr} {s e p : Int} {V : Nat → List Nat} {H : Nat → List Bool} (hg2 : Gr w W2) (hg4 : Gr W2 w4) (h5 : St0 w4 W5 C NV NH n) (g7 : Gr W5 W7) (g8 : Gr W7 W8)
    (hr2 : W2.heap[w.heap.size + 1]? = some (.cells #[.slice none 0 0, .slice none 0 0] 45 (0, 0))) (k0 : W8.cell? ⟨w.heap.size, 0, none⟩ = some (.int .i64 s)) (k2 : W8.cell? ⟨w.heap.size, 2, none⟩ = some (.int .i64 p))
    (hv : FlL W8 (some ⟨W7.heap.size, 0, none⟩) (vals L)) (hV : V 0 = []) (hH : H 0 = []) :
    SlS w L A1 (some ⟨W7.heap.size, 0, none⟩) s e p w.heap.size (w.heap.size + 1) C NV NH n (fillV V n 0) (fillH H n 0) W8 := by
  have g58 := g7.trans g8
  have hR : w.heap.size + 1 < W2.heap.size := (Array.getElem?_eq_some_iff.1 hr2).1
  have z4 := hg4.size
  have z2 := hg2.size
  have z5 := h5.gr.size
  have z7 := g7.size
  have z8 := g8.size
  obtain ⟨l1, l2, l3⟩ := h5.lo
  obtain ⟨n1, n2, n3⟩ := h5.ne
  have rv := h5.rv w.heap.size (by omega)
  have rh := h5.rh w.heap.size (by omega)
  have v1 := (rv.lt (k := NV) rfl).2
  have v2 := (rh.lt (k := NH) rfl).2
  have v3 := h5.cb.1
  have eV : fillV V n 0 = List.replicate n 0 := by unfold fillV; rw [hV]; rfl
  have eH : fillH H n 0 = List.replicate n false := by unfold fillH; rw [hH]; rfl
  have cb : C < W8.heap.size ∧ _ := ⟨by omega, (g58.b.block C h5.cb.1).trans h5.cb.2⟩
  rw [eV, eH]
  refine ⟨((hg2.trans hg4).trans h5.gr).trans g58, k0, k2, cb, cell_of_row W8 C 0 _ _ _ cb.2, cell_of_row W8 C 1 _ _ _ cb.2, ?_, rv.gr g58, rh.gr g58, by simp, by simp, hv, ⟨by omega, by omega, n1, n2, by omega, by omega, n3, by omega, by omega, by omega, by omega⟩, fun b o hb => ?_⟩
  · exact (((hg4.trans h5.gr).trans g58).b.block _ hR).trans hr2
  · simp only [Option.some.injEq, Addr.mk.injEq] at hb
    omega
end Go.Proofs.YtjjfkjpkbpefpaaDoor.Vn
