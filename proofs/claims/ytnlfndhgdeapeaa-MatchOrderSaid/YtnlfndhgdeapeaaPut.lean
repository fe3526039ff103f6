/- put. -/
import Derived.Test.YtnlfndhgdeapeaaSt
import Derived.Deep.RegionLaw
namespace Go.Proofs.Ytnlfndhgdeapeaa
open Go.RowKit
set_option maxRecDepth 100000
set_option maxHeartbeats 4000000

theorem seven_new (W : World) (x0 x1 x2 x3 x4 x5 x6 : Value) : sevenAt (W.alloc (.cells #[x0, x1, x2, x3, x4, x5, x6] 78)) W.heap.size 0 (fun j : Fin 7 => match j with | 0 => x0 | 1 => x1 | 2 => x2 | 3 => x3 | 4 => x4 | 5 => x5 | 6 => x6) := by
  intro j
  have h := heap_alloc_new W (.cells #[x0, x1, x2, x3, x4, x5, x6] 78)
  match j with
  | 0 => exact cell_of_row _ W.heap.size 0 _ _ (0, 0) h
  | 1 => exact cell_of_row _ W.heap.size 1 _ _ (0, 0) h
  | 2 => exact cell_of_row _ W.heap.size 2 _ _ (0, 0) h
  | 3 => exact cell_of_row _ W.heap.size 3 _ _ (0, 0) h
  | 4 => exact cell_of_row _ W.heap.size 4 _ _ (0, 0) h
  | 5 => exact cell_of_row _ W.heap.size 5 _ _ (0, 0) h
  | 6 => exact cell_of_row _ W.heap.size 6 _ _ (0, 0) h
def Box7 (W : World) (b : Nat) (u0 u1 u2 u3 : Nat) (f : Bool) (n o : Nat) : Prop := W.cell? ⟨b, 0, none⟩ = some (.int .u64 u0) ∧ W.cell? ⟨b, 1, none⟩ = some (.int .u64 u1) ∧ W.cell? ⟨b, 2, none⟩ = some (.int .u64 u2) ∧ W.cell? ⟨b, 3, none⟩ = some (.int .u64 u3) ∧ W.cell? ⟨b, 4, none⟩ = some (.bool f) ∧ W.cell? ⟨b, 5, none⟩ = some (.int .i64 n) ∧ W.cell? ⟨b, 6, none⟩ = some (.int .i64 o)
theorem Box7.same {W W' : World} {b u0 u1 u2 u3 n o : Nat} {f : Bool} (h : Box7 W b u0 u1 u2 u3 f n o) (g : W'.heap[b]? = W.heap[b]?) : Box7 W' b u0 u1 u2 u3 f n o := by
  have key : ∀ i v, W.cell? ⟨b, i, none⟩ = some v → W'.cell? ⟨b, i, none⟩ = some v := fun i v e => (World.cell?_of_block (a := ⟨b, i, none⟩) g).trans e
  obtain ⟨e0, e1, e2, e3, e4, e5, e6⟩ := h
  exact ⟨key _ _ e0, key _ _ e1, key _ _ e2, key _ _ e3, key _ _ e4, key _ _ e5, key _ _ e6⟩
theorem Box7.grown {W W' : World} {b u0 u1 u2 u3 n o : Nat} {f : Bool} {row : Option Nat} (h : Box7 W b u0 u1 u2 u3 f n o) (g : W.grownBy W' row) (hr : some b ≠ row) : Box7 W' b u0 u1 u2 u3 f n o :=
  h.same (g.block b (World.block_lt_of_cell? W _ h.1) hr)
theorem seven_at (w : World) (o : Obj) (u0 u1 u2 u3 : Nat) (f : Bool) (n t : Nat) : sevenAt ((w.alloc o).alloc (.cells #[.int .u64 u0, .int .u64 u1, .int .u64 u2, .int .u64 u3, .bool f, .int .i64 n, .int .i64 t] 78)).drew (w.heap.size + 1) 0 (stF u0 u1 u2 u3 f n t) := by
  have h := seven_new (w.alloc o) (.int .u64 u0) (.int .u64 u1) (.int .u64 u2) (.int .u64 u3) (.bool f) (.int .i64 n) (.int .i64 t)
  rw [show (w.alloc o).heap.size = w.heap.size + 1 by simp] at h
  intro j
  have := h j
  match j with
  | 0 => exact this
  | 1 => exact this
  | 2 => exact this
  | 3 => exact this
  | 4 => exact this
  | 5 => exact this
  | 6 => exact this
theorem put_done {B g : Nat} {S : List St} {s : St} {w W W' : World} {v v' : Value} (h : Bld B g w S v) (hg : Gr w W) (hgrow : W.grownBy W' v.ownBlock) (hrow : RowSt W' B v' (S ++ [s])) (ho : v'.ownBlock = v.ownBlock ∨ v'.ownBlock = some W.heap.size) :
    PutPost B g S s w v (.returned (.int .i64 S.length)) (W'.setCell ⟨g, 0, none⟩ v') := by
  have hgl := h.lt
  have hsz := hg.size
  have hv : v'.ownBlock ≠ some g := by
    rcases ho with e | e
    · rw [e]; exact h.n
    · rw [e]; intro e2; have := Option.some.inj e2; omega
  have hgc : W'.heap[g]? = some (.cells #[v] 95 (0, 0)) := (hgrow.block g (by omega) (fun e => h.n e.symm)).trans (h.gr hg).c
  refine ⟨rfl, v', ⟨by have := heap_setCell_same W' g 0 _ _ v' hgc; simpa using this, hrow.keep (fun c e => Below.heap_setCell W' _ _ c (by show c ≠ g; rintro rfl; exact hv e)), hv, h.b⟩, ?_⟩
  refine ⟨hgrow.os.trans hg.b.os, hgrow.tape.trans hg.b.tape, hgrow.output.trans hg.b.output, ?_, fun c hc hcg hcv => ?_, ?_⟩
  · have := hgrow.size
    simp [World.setCell]
    omega
  · rw [Below.heap_setCell W' _ _ c (by show c ≠ g; exact hcg), hgrow.block c (by omega) (fun e => hcv e.symm)]
    exact hg.b.block c hc
  · rcases ho with e | e
    · exact .inl e
    · exact .inr ⟨_, e, hsz⟩
theorem put_any (B g : Nat) (S : List St) (s : St) (v : Value) (u0 u1 u2 u3 : Nat) (w : World) (h : Bld B g w S v) (hB : B ≤ w.heap.size) (hS : S.length ≤ 1000000000000) (h0 : Wd64 u0 s.p 0) (h1 : Wd64 u1 s.p 1) (h2 : Wd64 u2 s.p 2) (h3 : Wd64 u3 s.p 3) :
    Calls Try.prog 54 #[.pointer (some ⟨g, 0, none⟩), .agg #[.int .u64 u0, .int .u64 u1, .int .u64 u2, .int .u64 u3, .bool s.fork, .int .i64 s.nx, .int .i64 s.ot]] w (PutPost B g S s w v) := by
  have hst : StV (stF u0 u1 u2 u3 s.fork s.nx s.ot) s := ⟨u0, u1, u2, u3, rfl, h0, h1, h2, h3⟩
  have HST := Lib.hid hst
  have HB := Lib.hid h
  have hgl := h.lt
  obtain ⟨cg, fg⟩ := h.cell
  obtain ⟨A, c, rfl⟩ := h.r.form
  have HN := Lib.hid h.n
  clear hst h0 h1 h2 h3 h
  obtain ⟨p, fk, nx, ot⟩ := s
  simp only at HST ⊢
  go_enter Try.func54, Try.ntmps54
  go_wp2
  have hne := World.new_ne w ⟨g, 0, none⟩ cg
  have hown : ∀ k, (Value.slice A S.length c).ownBlock = some k → k < w.heap.size := fun k e => (HB.out.r.lt k e).2
  go_region_law
    (first
     | (refine step_appSt rfl (by rfl) (.tmp 9) (.tmp 11) (by rfl) (by rfl) (B := B) (l := S) (g := w.heap.size + 1) (c := 1) (st := ⟨p, fk, nx, ot⟩) (y := stF u0 u1 u2 u3 fk nx ot) ?_ (by rfl) ?_ HST.out (by omega) ?_ ?_
        · exact (HB.out.gr (((Gr.refl w).alloc _ _).drew.alloc _ _)).r
        · exact seven_at w _ _ _ _ _ _ _ _
        · simp
          omega
        intro v' W' hrow hgrow hown'
        replace hown' : v'.ownBlock = (Value.slice A S.length c).ownBlock ∨ v'.ownBlock = some _ := hown'
        replace hgrow : World.grownBy _ W' (Value.slice A S.length c).ownBlock := hgrow
        have hgc : W'.heap[g]? = some (.cells #[.slice A S.length c] 95 (0, 0)) := (hgrow.block g (by simp; omega) (fun e => HN.out e.symm)).trans (HB.out.gr (((Gr.refl w).alloc _ _).drew.alloc _ _)).c
        have hc1 := cell_of_row W' g 0 _ _ (0, 0) hgc
        have hf1 := frozen_of_row W' g 0 _ _ hgc
        obtain ⟨A', c', rfl⟩ := hrow.form
        simp only [List.length_append, List.length_cons, List.length_nil] at hc1 ⊢))
  all_goals
    go_wp2
    go_ret
    first
    | exact put_done HB.out (((Gr.refl w).alloc _ _).drew.alloc _ _) hgrow (by simpa using hrow) (by simpa using hown')
    | exact put_done HB.out (((Gr.refl w).alloc _ _).alloc _ _).drew hgrow (by simpa using hrow) (by simpa using hown')
end Go.Proofs.Ytnlfndhgdeapeaa
