/- A block of six cells that holds a pattern's value. -/
import Derived.Test.YtnlfndhgdeapeaaPSpec
namespace Go.Proofs.Ytnlfndhgdeapeaa
open Go.RowKit
set_option maxRecDepth 100000
set_option maxHeartbeats 1000000

def Bx (W : World) (N : Nat) (a0 a1 a2 a3 a4 a5 : Value) : Prop := W.heap[N]? = some (.cells #[a0, a1, a2, a3, a4, a5] 57 (0, 0))
theorem bx_new (w : World) (a0 a1 a2 a3 a4 a5 : Value) : Bx (w.alloc (.cells #[a0, a1, a2, a3, a4, a5] 57)) w.heap.size a0 a1 a2 a3 a4 a5 := by
  unfold Bx World.alloc
  simp
theorem Bx.lt {W : World} {N : Nat} {a0 a1 a2 a3 a4 a5 : Value} (h : Bx W N a0 a1 a2 a3 a4 a5) : N < W.heap.size := by
  rcases Nat.lt_or_ge N W.heap.size with e | e
  · exact e
  · unfold Bx at h; rw [Array.getElem?_eq_none e] at h; cases h
theorem Bx.facts {W : World} {N : Nat} {a0 a1 a2 a3 a4 a5 : Value} (h : Bx W N a0 a1 a2 a3 a4 a5) :
    W.cell? ⟨N, 0, none⟩ = some a0 ∧ W.cell? ⟨N, 1, none⟩ = some a1 ∧ W.cell? ⟨N, 2, none⟩ = some a2 ∧ W.cell? ⟨N, 3, none⟩ = some a3 ∧ W.cell? ⟨N, 4, none⟩ = some a4 ∧ W.cell? ⟨N, 5, none⟩ = some a5 ∧
    W.frozen? ⟨N, 0, none⟩ = false ∧ W.frozen? ⟨N, 1, none⟩ = false ∧ W.frozen? ⟨N, 2, none⟩ = false ∧ W.frozen? ⟨N, 3, none⟩ = false ∧ W.frozen? ⟨N, 4, none⟩ = false ∧ W.frozen? ⟨N, 5, none⟩ = false :=
  ⟨cell_of_row W N 0 _ _ (0, 0) h, cell_of_row W N 1 _ _ (0, 0) h, cell_of_row W N 2 _ _ (0, 0) h, cell_of_row W N 3 _ _ (0, 0) h, cell_of_row W N 4 _ _ (0, 0) h, cell_of_row W N 5 _ _ (0, 0) h,
   frozen_of_row W N 0 _ _ h, frozen_of_row W N 1 _ _ h, frozen_of_row W N 2 _ _ h, frozen_of_row W N 3 _ _ h, frozen_of_row W N 4 _ _ h, frozen_of_row W N 5 _ _ h⟩
theorem Bx.gr {W W' : World} {N : Nat} {a0 a1 a2 a3 a4 a5 : Value} (h : Bx W N a0 a1 a2 a3 a4 a5) (g : Gr W W') : Bx W' N a0 a1 a2 a3 a4 a5 := (g.b.block N h.lt).trans h
theorem Bx.only {W W' : World} {b N : Nat} {a0 a1 a2 a3 a4 a5 : Value} (h : Bx W N a0 a1 a2 a3 a4 a5) (g : Only W W' b) (hne : N ≠ b) : Bx W' N a0 a1 a2 a3 a4 a5 := (g.blk h.lt hne).trans h
theorem Bx.set_other {W : World} {N M o : Nat} {a0 a1 a2 a3 a4 a5 v : Value} (h : Bx W N a0 a1 a2 a3 a4 a5) (hne : N ≠ M) : Bx (W.setCell ⟨M, o, none⟩ v) N a0 a1 a2 a3 a4 a5 :=
  (Below.heap_setCell W _ _ N (by show N ≠ M; exact hne)).trans h
theorem Bx.six_other {W : World} {N M : Nat} {a0 a1 a2 a3 a4 a5 : Value} (h : Bx W N a0 a1 a2 a3 a4 a5) (hne : N ≠ M) (v0 v1 v2 v3 v4 v5 : Value) : Bx ((((((W.setCell ⟨M, 0, none⟩ v0).setCell ⟨M, 1, none⟩ v1).setCell ⟨M, 2, none⟩ v2).setCell ⟨M, 3, none⟩ v3).setCell ⟨M, 4, none⟩ v4).setCell ⟨M, 5, none⟩ v5) N a0 a1 a2 a3 a4 a5 :=
  (((((h.set_other hne).set_other hne).set_other hne).set_other hne).set_other hne).set_other hne
theorem Bx.last {W : World} {N : Nat} {a0 a1 a2 a3 a4 a5 : Value} (h : Bx W N a0 a1 a2 a3 a4 a5) (v : Value) : Bx (W.setCell ⟨N, 5, none⟩ v) N a0 a1 a2 a3 a4 v := by
  have := heap_setCell_same W N 5 _ _ v h
  unfold Bx
  simpa using this
theorem six_blk (W : World) (N : Nat) (v0 v1 v2 v3 v4 v5 : Value) : ((((((W.setCell ⟨N, 0, none⟩ v0).setCell ⟨N, 1, none⟩ v1).setCell ⟨N, 2, none⟩ v2).setCell ⟨N, 3, none⟩ v3).setCell ⟨N, 4, none⟩ v4).setCell ⟨N, 5, none⟩ v5).heap.size = W.heap.size ∧ ∀ c, c ≠ N → ((((((W.setCell ⟨N, 0, none⟩ v0).setCell ⟨N, 1, none⟩ v1).setCell ⟨N, 2, none⟩ v2).setCell ⟨N, 3, none⟩ v3).setCell ⟨N, 4, none⟩ v4).setCell ⟨N, 5, none⟩ v5).heap[c]? = W.heap[c]? := by
  refine ⟨by simp [World.setCell], fun c hc => ?_⟩
  have key : ∀ (W : World) (o : Nat) (v : Value), (W.setCell ⟨N, o, none⟩ v).heap[c]? = W.heap[c]? := fun W o v => Below.heap_setCell W _ _ c (by show c ≠ N; exact hc)
  rw [key, key, key, key, key, key]
theorem read_no {b k : Nat} {s : ByteArray} {w W : World} {n : Nd} {R : Bool × Nd × Nat} (v0 v1 v2 v3 v4 v5 : Value) (hb : b < w.heap.size) (H : R = (false, n, k)) (hr : Rd W b s k) (ho : Only w W b) :
    ReadPost b s R w (.returned (.tuple #[zeroN, .bool false])) ((((((W.setCell ⟨w.heap.size, 0, none⟩ v0).setCell ⟨w.heap.size, 1, none⟩ v1).setCell ⟨w.heap.size, 2, none⟩ v2).setCell ⟨w.heap.size, 3, none⟩ v3).setCell ⟨w.heap.size, 4, none⟩ v4).setCell ⟨w.heap.size, 5, none⟩ v5) := by
  subst H
  exact ⟨hr.six hb _ _ _ _ _ _, ho.six _ _ _ _ _ _, zeroN, rfl, fun e => absurd e (by simp), fun _ => rfl⟩
/-- what was made lies behind the result's block -/
theorem read_yes {b k : Nat} {s : ByteArray} {w W : World} {n : Nd} {v : Value} {R : Bool × Nd × Nat} (v0 v1 v2 v3 v4 v5 : Value) (hb : b < w.heap.size) (H : R = (true, n, k)) (hr : Rd W b s k) (ho : Only w W b) (hv : ∃ X : Nat → Prop, (∀ c, X c → w.heap.size < c ∧ c < W.heap.size) ∧ NodeV W X n v) :
    ReadPost b s R w (.returned (.tuple #[v, .bool true])) ((((((W.setCell ⟨w.heap.size, 0, none⟩ v0).setCell ⟨w.heap.size, 1, none⟩ v1).setCell ⟨w.heap.size, 2, none⟩ v2).setCell ⟨w.heap.size, 3, none⟩ v3).setCell ⟨w.heap.size, 4, none⟩ v4).setCell ⟨w.heap.size, 5, none⟩ v5) := by
  subst H
  obtain ⟨X, hX, hn⟩ := hv
  obtain ⟨hsz, hbl⟩ := six_blk W w.heap.size v0 v1 v2 v3 v4 v5
  exact ⟨hr.six hb _ _ _ _ _ _, ho.six _ _ _ _ _ _, v, rfl, fun _ => ⟨X, fun c hc => ⟨by have := (hX c hc).1; omega, by rw [hsz]; exact (hX c hc).2⟩, NodeV.same (fun c hc _ => hbl c (by have := (hX c hc).1; omega)) n v hn⟩, fun e => absurd e (by simp)⟩
/-- a stop on the walk's way -/
def Bar (p : Prop) : Prop := p
theorem Bar.mk {p : Prop} (h : Bar p) : p := h
theorem bar_at (n : Nat) {P : Program} {ops : Array Oper} {Q : Exit → Act → World → Prop} {x : Oper} {rest : List Oper} {a : Act} {w : World} {o : Obj} (_hx : x.dst = some n) (h : ∀ W, w.alloc o = W → Bar (wpList P ops Q (x :: rest) a W)) : wpList P ops Q (x :: rest) a (w.alloc o) := h _ rfl
/-- a tree made since W1, told of a later world -/
theorem NewN.late {w W1 W2 W3 : World} {n : Nd} {v : Value} (h : NewN W1 W2 n v) (h1 : w.heap.size < W1.heap.size) (h2 : W2.heap.size ≤ W3.heap.size) (g : ∀ c, W1.heap.size ≤ c → c < W2.heap.size → W3.heap[c]? = W2.heap[c]?) : ∃ X : Nat → Prop, (∀ c, X c → w.heap.size < c ∧ c < W3.heap.size) ∧ NodeV W3 X n v := by
  obtain ⟨X, hX, hn⟩ := h
  exact ⟨X, fun c hc => ⟨by have := (hX c hc).1; omega, by have := (hX c hc).2; omega⟩, NodeV.same (fun c hc _ => g c (hX c hc).1 (hX c hc).2) n v hn⟩
end Go.Proofs.Ytnlfndhgdeapeaa
