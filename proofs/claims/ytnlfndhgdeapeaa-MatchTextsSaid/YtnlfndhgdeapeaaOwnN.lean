/- Rows of patterns: over calls, and as a pattern's parts. -/
import Derived.Test.YtnlfndhgdeapeaaPLe
namespace Go.Proofs.Ytnlfndhgdeapeaa
open Go.RowKit
set_option maxRecDepth 100000
set_option maxHeartbeats 1000000

theorem OwnN.keep {W W' : World} {B : Nat} {v : Value} {l : List Nd} (h : OwnN W B v l) (hs : W.heap.size ≤ W'.heap.size) (g : ∀ c, B ≤ c → c < W.heap.size → W'.heap[c]? = W.heap[c]?) : OwnN W' B v l := by
  obtain ⟨X, vs, h1, h2, h3, h4⟩ := h
  refine ⟨X, vs, h1, ⟨h2.1, ?_⟩, fun i n x e1 e2 => NodeV.same (fun c hc hlt => g c (h4 c hc).1 hlt) _ _ (h3 i n x e1 e2), fun c hc => ⟨(h4 c hc).1, by have := (h4 c hc).2.1; omega, (h4 c hc).2.2⟩⟩
  rcases h2.2 with e | ⟨gg, cap, cur, e1, e2, e3, e4⟩
  · exact .inl e
  · refine .inr ⟨gg, cap, cur, e1, e2, ?_, e4⟩
    rw [g gg e2 (by
      rcases Nat.lt_or_ge gg W.heap.size with e | e
      · exact e
      · rw [Array.getElem?_eq_none e] at e3; cases e3)]
    exact e3
theorem OwnN.own_ge {W : World} {B : Nat} {v : Value} {l : List Nd} (h : OwnN W B v l) : ∀ k, v.ownBlock = some k → B ≤ k ∧ k < W.heap.size := by
  obtain ⟨X, vs, h1, h2, h3, h4⟩ := h
  exact h2.lt
theorem OwnN.mono {W : World} {B B' : Nat} {v : Value} {l : List Nd} (h : OwnN W B v l) (hB : B' ≤ B) : OwnN W B' v l := by
  obtain ⟨X, vs, h1, h2, h3, h4⟩ := h
  refine ⟨X, vs, h1, ⟨h2.1, ?_⟩, h3, fun b hb => ⟨by have := (h4 b hb).1; omega, (h4 b hb).2⟩⟩
  rcases h2.2 with e | ⟨g, cap, cur, e1, e2, e3⟩
  · exact .inl e
  · exact .inr ⟨g, cap, cur, e1, by omega, e3⟩
theorem OwnN.form {W : World} {B : Nat} {v : Value} {l : List Nd} (h : OwnN W B v l) : ∃ (A : Option Addr) (m c : Nat), v = .slice A m c := by
  obtain ⟨X, vs, h1, h2, h3, h4⟩ := h
  rcases h2.2 with ⟨e, -⟩ | ⟨g, cap, cur, e, -⟩
  · exact ⟨none, 0, 0, e⟩
  · exact ⟨_, _, _, e⟩
/-- the row as the parts of a pattern -/
theorem OwnN.node {W : World} {B : Nat} {v : Value} {l : List Nd} (h : OwnN W B v l) (k : Nat) : ∃ X : Nat → Prop, (∀ c, X c → B ≤ c ∧ c < W.heap.size) ∧ NodeV W X (.op k l) (.agg #[.int .i64 k, .int .u64 0, .int .u64 0, .int .u64 0, .int .u64 0, v]) := by
  have hge := h.own_ge
  obtain ⟨X, vs, h1, h2, h3, h4⟩ := h
  rcases h2.2 with ⟨e, el⟩ | ⟨g, cap, cur, e1, e2, e3, e4, e5, e6⟩
  · refine ⟨X, fun c hc => ⟨(h4 c hc).1, (h4 c hc).2.1⟩, ?_⟩
    unfold NodeV
    exact ⟨none, 0, by rw [e, el]; rfl, by omega, by unfold maxLen; omega, fun h => by omega⟩
  · subst e1
    have hg := hge g rfl
    refine ⟨fun c => X c ∨ c = g, fun c hc => hc.elim (fun hc => ⟨(h4 c hc).1, (h4 c hc).2.1⟩) (fun e => by subst e; exact hg), ?_⟩
    unfold NodeV
    refine ⟨some ⟨g, 0, none⟩, cap, rfl, e4, e5, fun _ => ⟨g, rfl, Or.inr rfl, ?_⟩⟩
    refine NodesFrom.of l 0 fun j n hj => ?_
    have hjl : j < vs.length := by rw [h1]; exact (List.getElem?_eq_some_iff.1 hj).1
    have hx : vs[j]? = some vs[j] := List.getElem?_eq_getElem hjl
    refine ⟨vs[j], fun i => ?_, NodeV.mono (fun c hc => Or.inl hc) _ _ (h3 j n _ hj hx)⟩
    have hadd : ∀ j, (⟨g, 0, none⟩ : Addr).add j = ⟨g, j, none⟩ := fun j => by unfold Addr.add; split <;> simp_all
    have := h2.cells (g := g) rfl (j * 6 + i.val) (vs[j] i) (cells6_get vs j _ i hx)
    rw [hadd] at this
    rw [Nat.zero_add]
    exact this
/-- an append to a row of blocks made since -/
theorem Only.grown {w W W' : World} {b : Nat} {row : Option Nat} (h : Only w W b) (g : W.grownBy W' row) (hr : ∀ k, row = some k → w.heap.size ≤ k) : Only w W' b :=
  ⟨g.os.trans h.os, g.tape.trans h.tape, g.output.trans h.output, Nat.le_trans h.size g.size, fun i hi hne => (g.block i (Nat.lt_of_lt_of_le hi h.size) (fun e => by have := hr i e.symm; omega)).trans (h.block i hi hne)⟩
theorem Only.setFar {w W : World} {b P : Nat} (h : Only w W b) (hP : w.heap.size ≤ P) {o : Nat} (v : Value) : Only w (W.setCell ⟨P, o, none⟩ v) b :=
  ⟨h.os, h.tape, h.output, by simpa [World.setCell] using h.size, fun i hi hne => (Below.heap_setCell W _ _ i (by show i ≠ P; omega)).trans (h.block i hi hne)⟩
theorem AtSt.grown {w W W' : World} {b k : Nat} {s : ByteArray} {row : Option Nat} (h : AtSt w W b s k) (hb : b < w.heap.size) (g : W.grownBy W' row) (hr : ∀ k, row = some k → w.heap.size < k) : AtSt w W' b s k :=
  ⟨(g.block b h.r.lt (fun e => by have := hr b e.symm; omega)).trans h.r, h.o.grown g (fun k e => by have := hr k e; omega), (g.block _ h.x.lt (fun e => by have := hr _ e.symm; omega)).trans h.x⟩
theorem Bx.grown {W W' : World} {N : Nat} {a0 a1 a2 a3 a4 a5 : Value} {row : Option Nat} (h : Bx W N a0 a1 a2 a3 a4 a5) (g : W.grownBy W' row) (hr : row ≠ some N) : Bx W' N a0 a1 a2 a3 a4 a5 := (g.block _ h.lt (fun e => hr e.symm)).trans h
end Go.Proofs.Ytnlfndhgdeapeaa
