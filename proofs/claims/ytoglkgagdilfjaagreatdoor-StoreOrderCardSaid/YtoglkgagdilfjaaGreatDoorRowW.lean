/- Rows of samples as they come, laid one behind the other. -/
import Derived.Test.YtoglkgagdilfjaaGreatDoorMade
import Derived.Test.YtoglkgagdilfjaaGreatDoorOrdM
namespace Go.Proofs.YtoglkgagdilfjaaGreatDoor
open Go.RowKit Go.Sort
set_option maxRecDepth 100000
set_option maxHeartbeats 4000000

def OwnS (W : World) (B : Nat) (v : Value) (l : List Rc) : Prop := W.ownsRow B 38 3 v l.length (l.flatMap encR)
theorem OwnS.gr {W W' : World} {B : Nat} {v : Value} {l : List Rc} (h : OwnS W B v l) (g : Gr W W') : OwnS W' B v l := World.ownsRow.kept h g.gb (by cases v.ownBlock <;> simp)
/-- cells of samples -/
def RcsAt (W : World) (A : Option Addr) (l : List Rc) : Prop :=
  0 < l.length → ∃ b o, A = some ⟨b, o, none⟩ ∧ ∀ i x, l[i]? = some x → W.cell? ⟨b, o + i * 3, none⟩ = some x.1.v ∧ W.cell? ⟨b, o + i * 3 + 1, none⟩ = some (.int .i64 x.2.1) ∧ W.cell? ⟨b, o + i * 3 + 2, none⟩ = some (.float .f64 x.2.2)
theorem RcsAt.gr {W W' : World} {A : Option Addr} {l : List Rc} (h : RcsAt W A l) (g : Gr W W') : RcsAt W' A l := fun h0 => by
  obtain ⟨b, o, e, hc⟩ := h h0
  exact ⟨b, o, e, fun i x hx => ⟨g.cell (hc i x hx).1, g.cell (hc i x hx).2.1, g.cell (hc i x hx).2.2⟩⟩
theorem RcsAt.take {W : World} {b o : Nat} {l : List Rc} (h : RcsAt W (some ⟨b, o, none⟩) l) (k : Nat) : RcsAt W (some ⟨b, o, none⟩) (l.take k) := fun h0 => by
  obtain ⟨b', o', e, hc⟩ := h (by simp at h0; omega)
  exact ⟨b', o', e, fun i x hx => hc i x (by rw [List.getElem?_take] at hx; split at hx <;> simp_all)⟩
theorem RcsAt.drop {W : World} {b o : Nat} {l : List Rc} (h : RcsAt W (some ⟨b, o, none⟩) l) (k : Nat) : RcsAt W (some ⟨b, o + k * 3, none⟩) (l.drop k) := fun h0 => by
  obtain ⟨b', o', e, hc⟩ := h (by simp at h0; omega)
  cases e
  refine ⟨b, o + k * 3, rfl, fun i x hx => ?_⟩
  have := hc (k + i) x (by rw [List.getElem?_drop] at hx; exact hx)
  rw [show o + k * 3 + i * 3 = o + (k + i) * 3 by omega]
  exact this
theorem RcsAt.one (W : World) (x : Rc) (t : TypeId) : RcsAt (W.alloc (.cells #[x.1.v, .int .i64 x.2.1, .float .f64 x.2.2] t)) (some ⟨W.heap.size, 0, none⟩) [x] := fun _ => ⟨_, 0, rfl, fun i y hy => by
  cases i with
  | succ i => simp at hy
  | zero =>
    obtain rfl : x = y := by simpa using hy
    refine ⟨?_, ?_, ?_⟩ <;> rw [World.cell?_alloc_at _ _ _ _ (by simp)] <;> simp⟩
theorem RcsAt.nil (W : World) (A : Option Addr) : RcsAt W A [] := fun h => absurd h (by simp)
theorem rflat_at : ∀ (l : List Rc) (j : Nat) (u : Value), (l.flatMap encR)[j]? = some u → ∃ x, l[j / 3]? = some x ∧ (encR x)[j % 3]? = some u
  | [], j, u, h => by simp at h
  | y :: r, j, u, h => by
    rw [List.flatMap_cons] at h
    by_cases hj : j < 3
    · rw [List.getElem?_append_left (by simpa [encR] using hj)] at h
      exact ⟨y, by rw [show j / 3 = 0 by omega]; rfl, by rw [show j % 3 = j by omega]; exact h⟩
    · rw [List.getElem?_append_right (by simp [encR]; omega)] at h
      have h' : (r.flatMap encR)[j - 3]? = some u := by simpa [encR] using h
      obtain ⟨x, h1, h2⟩ := rflat_at r (j - 3) u h'
      exact ⟨x, by rw [show j / 3 = (j - 3) / 3 + 1 by omega]; exact h1, by rw [show j % 3 = (j - 3) % 3 by omega]; exact h2⟩
theorem sraw_info : (Tryz.prog.info? 38).map (fun i => (i.zero, i.size, i.bytes)) = some (some (.agg #[.slice none 0 0, .int .i64 0, .float .f64 0]), 3, 40) := by kernel_rfl
theorem OwnS.raws {W : World} {B : Nat} {v : Value} {l : List Rc} {m : List Rwm} (h : OwnS W B v l) (hl : l.length = m.length) (hr : ∀ (i : Nat) x r, l[i]? = some x → m[i]? = some r → R3 W x r) : ∃ A c, v = .slice A m.length c ∧ RawsAt W A m := by
  have hcl := fun (g : Nat) (hg : v.ownBlock = some g) => World.ownsRow.cells h hg
  rcases h.2 with ⟨e, e0⟩ | ⟨g, cap, cur, rfl, hb, hg, h1, h2, h3, h4⟩
  · exact ⟨none, 0, by rw [e, ← hl, e0], fun hh => by omega⟩
  · refine ⟨_, cap, by rw [← hl], fun h0 => ⟨g, 0, rfl, fun i r hi => ?_⟩⟩
    have hil : i < l.length := by rw [hl]; exact (List.getElem?_eq_some_iff.1 hi).1
    have hx := List.getElem?_eq_getElem hil
    obtain ⟨e1, e2, e3, e4⟩ := hr i _ r hx hi
    obtain ⟨g1, g2, g3⟩ := rflat_get l i _ hx
    have hadd : ∀ j, (⟨g, 0, none⟩ : Addr).add j = ⟨g, j, none⟩ := fun j => by unfold Addr.add; split <;> simp_all
    have d1 := hcl g rfl _ _ g1
    have d2 := hcl g rfl _ _ g2
    have d3 := hcl g rfl _ _ g3
    rw [hadd] at d1 d2 d3
    rw [Nat.zero_add]
    refine ⟨l[i].1.a, l[i].1.c, ?_, e2, by rw [d2, e3], by rw [d3, e4]⟩
    rw [d1]; unfold Sl.v; rw [e1]
/-- the cells of a list that came in -/
theorem RawsAt.rcs {W : World} {A : Option Addr} {l : List Rwm} (h : RawsAt W A l) : ∃ rcs : List Rc, rcs.length = l.length ∧ RcsAt W A rcs ∧ ∀ (i : Nat) x r, rcs[i]? = some x → l[i]? = some r → R3 W x r := by
  by_cases h0 : 0 < l.length
  · obtain ⟨b, o, rfl, hc⟩ := h h0
    have key : ∀ n, n ≤ l.length → ∃ rcs : List Rc, rcs.length = n ∧ (∀ i x, rcs[i]? = some x → W.cell? ⟨b, o + i * 3, none⟩ = some x.1.v ∧ W.cell? ⟨b, o + i * 3 + 1, none⟩ = some (.int .i64 x.2.1) ∧ W.cell? ⟨b, o + i * 3 + 2, none⟩ = some (.float .f64 x.2.2)) ∧ ∀ (i : Nat) x r, rcs[i]? = some x → l[i]? = some r → R3 W x r := by
      intro n
      induction n with
      | zero => exact fun _ => ⟨[], rfl, fun i x hx => by simp at hx, fun i x r hx => by simp at hx⟩
      | succ n ih =>
        intro hn
        obtain ⟨rs, h1, h2, h3⟩ := ih (by omega)
        have hln : l[n]? = some l[n] := List.getElem?_eq_getElem (by omega)
        obtain ⟨LA, lc, c1, c2, c3, c4⟩ := hc n _ hln
        refine ⟨rs ++ [((⟨LA, (l[n]).l.length, lc⟩, (l[n]).t, (l[n]).v) : Rc)], by simp [h1], fun i x hx => ?_, fun i x r hx hr => ?_⟩
        · by_cases hi : i < n
          · rw [List.getElem?_append_left (by omega)] at hx; exact h2 i x hx
          · have : i < (rs ++ [((⟨LA, (l[n]).l.length, lc⟩, (l[n]).t, (l[n]).v) : Rc)]).length := (List.getElem?_eq_some_iff.1 hx).1
            simp at this
            obtain rfl : i = n := by omega
            rw [List.getElem?_append_right (by omega), h1] at hx
            simp at hx; subst hx
            exact ⟨c1, c3, c4⟩
        · by_cases hi : i < n
          · rw [List.getElem?_append_left (by omega)] at hx; exact h3 i x r hx hr
          · have : i < (rs ++ [((⟨LA, (l[n]).l.length, lc⟩, (l[n]).t, (l[n]).v) : Rc)]).length := (List.getElem?_eq_some_iff.1 hx).1
            simp at this
            obtain rfl : i = n := by omega
            rw [List.getElem?_append_right (by omega), h1] at hx
            simp at hx; subst hx
            rw [hln] at hr
            cases hr
            exact ⟨rfl, c2, rfl, rfl⟩
    obtain ⟨rs, h1, h2, h3⟩ := key l.length (Nat.le_refl _)
    exact ⟨rs, h1, fun _ => ⟨b, o, rfl, h2⟩, h3⟩
  · have : l = [] := by cases l; rfl; simp at h0
    subst this
    exact ⟨[], rfl, RcsAt.nil _ _, fun i x r hx => by simp at hx⟩
/-- a block of one sample beside the row -/
def Keep1 (W : World) (v : Value) (N : Nat) (x : Rc) : Prop := RcsAt W (some ⟨N, 0, none⟩) [x] ∧ v.ownBlock ≠ some N
theorem own_nilS (X : World) (B : Nat) (hB : B ≤ X.heap.size) : OwnS (X.alloc (.cells #[] 38)) B (.slice (some ⟨X.heap.size, 0, none⟩) 0 0) [] :=
  ⟨rfl, .inr ⟨X.heap.size, 0, #[], rfl, hB, by unfold World.alloc; simp only [Array.getElem?_push_size], Nat.le_refl _, Nat.zero_le _, rfl, rfl⟩⟩
theorem size_alloc1 (w : World) (o : Obj) : (w.alloc o).heap.size = w.heap.size + 1 := by unfold World.alloc; exact Array.size_push _
theorem own_nilS2 (X : World) (o : Obj) (B : Nat) (hB : B ≤ X.heap.size) : OwnS ((X.alloc o).alloc (.cells #[] 38)) B (.slice (some ⟨X.heap.size + 1, 0, none⟩) 0 0) [] := by
  rw [← size_alloc1 X o]
  exact own_nilS _ B (by rw [size_alloc1]; omega)
theorem RcsAt.one2 (W : World) (o : Obj) (x : Rc) (t : TypeId) : RcsAt ((W.alloc o).alloc (.cells #[x.1.v, .int .i64 x.2.1, .float .f64 x.2.2] t)) (some ⟨W.heap.size + 1, 0, none⟩) [x] := by
  rw [← size_alloc1 W o]
  exact RcsAt.one _ x t
/-- one append: the row, what stays, the block of one -/
def AppR (w0 W : World) (v : Value) (l m : List Rc) (v' : Value) (W' : World) : Prop :=
  OwnS W' w0.heap.size v' (l ++ m) ∧ Gr w0 W' ∧ ∀ N x, Keep1 W v N x → Keep1 W' v' N x
theorem app_next {w0 W : World} {v : Value} {l m : List Rc} {A : Option Addr} {c n : Nat} (g : Gr w0 W) (h : OwnS W w0.heap.size v l) (hA : A = none → m = [] ∧ c = 0) (hm : RcsAt W A m) (hl : m.length = n) (hn : l.length + m.length ≤ 1000) :
    ∃ v' W', (Builtin.append_ #[22, 22] 22 #[v, .slice A n c]).run Tryz.prog W = .ok v' W' ∧ AppR w0 W v l m v' W' := by
  subst hl
  obtain ⟨i0, hi, hz0, hz1, hz2⟩ := info_parts sraw_info
  cases A with
  | none =>
    obtain ⟨rfl, rfl⟩ := hA rfl
    refine ⟨v, W, run_append_owned_none W w0.heap.size 22 22 38 i0 3 Tryz.underlying22 hi v l.length _ h, ?_, g, fun N x hk => hk⟩
    rw [List.append_nil]; exact h
  | some a =>
    obtain ⟨v', w', hr, h3, h4, _, h5⟩ := run_append_own_at (P := Tryz.prog) W w0.heap.size 22 22 38 i0 (.agg #[.slice none 0 0, .int .i64 0, .float .f64 0]) 3 40 Tryz.underlying22 hi hz0 hz1 hz2 rfl (by omega) v l.length _ h a m.length c (m.flatMap encR) (rflat_len m) (fun j u hu => by
      obtain ⟨x, h1, h2⟩ := rflat_at m j u hu
      have hl := (List.getElem?_eq_some_iff.1 h1).1
      obtain ⟨b, o, e, hc⟩ := hm (by omega)
      cases e
      obtain ⟨d1, d2, d3⟩ := hc _ _ h1
      have hadd : (⟨b, o, none⟩ : Addr).add j = ⟨b, o + j, none⟩ := by unfold Addr.add; split <;> simp_all
      rw [hadd]
      rcases (by omega : j % 3 = 0 ∨ j % 3 = 1 ∨ j % 3 = 2) with e | e | e
      · rw [e] at h2
        obtain rfl : x.1.v = u := by simpa [encR] using h2
        rw [show j = j / 3 * 3 by omega]; exact d1
      · rw [e] at h2
        obtain rfl : Value.int .i64 x.2.1 = u := by simpa [encR] using h2
        rw [show o + j = o + j / 3 * 3 + 1 by omega]; exact d2
      · rw [e] at h2
        obtain rfl : Value.float .f64 x.2.2 = u := by simpa [encR] using h2
        rw [show o + j = o + j / 3 * 3 + 2 by omega]; exact d3) (fun u hu => by
      obtain ⟨x, -, hx⟩ := List.mem_flatMap.1 hu
      simp [encR, Sl.v] at hx; rcases hx with rfl | rfl | rfl <;> rfl) (by unfold maxLen; omega) (by omega) g.size
    refine ⟨v', w', hr, ?_, ⟨g.b.grown h4 g.size (fun q hq => (World.ownsRow.lt h q hq).1)⟩, fun N x hk => ?_⟩
    · unfold OwnS
      rw [List.flatMap_append, List.length_append]
      exact h3
    · obtain ⟨k1, k2⟩ := hk
      have hN : N < W.heap.size := by
        obtain ⟨b, o, e, hc⟩ := k1 (by simp)
        cases e
        exact World.block_lt_of_cell? W _ (hc 0 x rfl).1
      refine ⟨fun h0 => ?_, ?_⟩
      · obtain ⟨b, o, e, hc⟩ := k1 h0
        cases e
        have hb : w'.heap[N]? = W.heap[N]? := h4.block N hN (fun e => k2 e.symm)
        exact ⟨N, 0, rfl, fun i y hy => ⟨(World.cell?_of_block (a := ⟨N, _, none⟩) hb).trans (hc i y hy).1, (World.cell?_of_block (a := ⟨N, _, none⟩) hb).trans (hc i y hy).2.1, (World.cell?_of_block (a := ⟨N, _, none⟩) hb).trans (hc i y hy).2.2⟩⟩
      · rcases h5 with e | e
        · rw [e]; exact k2
        · rw [e]; intro e2; cases e2; omega
/-- lists of cells that read as lists of samples -/
def RelL (W : World) (cs : List Rc) (ms : List Rwm) : Prop := cs.length = ms.length ∧ ∀ (i : Nat) x r, cs[i]? = some x → ms[i]? = some r → R3 W x r
theorem RelL.gr {W W' : World} {cs : List Rc} {ms : List Rwm} (h : RelL W cs ms) (g : Gr W W') : RelL W' cs ms := ⟨h.1, fun i x r hx hr => by
  obtain ⟨a, b, c, d⟩ := h.2 i x r hx hr
  exact ⟨a, b.gr g, c, d⟩⟩
theorem RelL.take {W : World} {cs : List Rc} {ms : List Rwm} (h : RelL W cs ms) (k : Nat) : RelL W (cs.take k) (ms.take k) := ⟨by rw [List.length_take, List.length_take, h.1], fun i x r hx hr => by
  rw [List.getElem?_take] at hx hr
  split at hx
  · rename_i hi; rw [if_pos hi] at hr; exact h.2 i x r hx hr
  · cases hx⟩
theorem RelL.drop {W : World} {cs : List Rc} {ms : List Rwm} (h : RelL W cs ms) (k : Nat) : RelL W (cs.drop k) (ms.drop k) := ⟨by rw [List.length_drop, List.length_drop, h.1], fun i x r hx hr => by
  rw [List.getElem?_drop] at hx hr
  exact h.2 _ x r hx hr⟩
theorem RelL.app {W : World} {a c : List Rc} {b d : List Rwm} (h : RelL W a b) (g : RelL W c d) : RelL W (a ++ c) (b ++ d) := ⟨by rw [List.length_append, List.length_append, h.1, g.1], fun i x r hx hr => by
  by_cases hi : i < a.length
  · rw [List.getElem?_append_left hi] at hx
    rw [List.getElem?_append_left (by rw [← h.1]; exact hi)] at hr
    exact h.2 i x r hx hr
  · rw [List.getElem?_append_right (by omega)] at hx
    rw [List.getElem?_append_right (by rw [← h.1]; omega)] at hr
    rw [← h.1] at hr
    exact g.2 _ x r hx hr⟩
theorem RelL.one {W : World} {x : Rc} {r : Rwm} (h : R3 W x r) : RelL W [x] [r] := ⟨rfl, fun i y s hy hs => by
  cases i with
  | zero => simp at hy hs; subst hy; subst hs; exact h
  | succ i => simp at hy⟩
end Go.Proofs.YtoglkgagdilfjaaGreatDoor
