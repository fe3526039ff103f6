/- Patterns as trees: in memory, in blocks that a predicate allows. -/
import Derived.Test.YtnlfndhgdeapeaaSetP
namespace Go.Proofs.Ytnlfndhgdeapeaa
open Go.RowKit
set_option maxRecDepth 100000
set_option maxHeartbeats 1000000

/-- a pattern: one byte of a set; or parts, by kind: 1 in turn, 2 either, 3 any number, 4 one or more, 5 one or none -/
inductive Nd where
  | one (p : Nat → Bool)
  | op (k : Nat) (l : List Nd)
def kindV (k : Nat) (A : Option Addr) (n c : Nat) : Value := .agg #[.int .i64 k, .int .u64 0, .int .u64 0, .int .u64 0, .int .u64 0, .slice A n c]
def sixAt (W : World) (b i : Nat) (v : Fin 6 → Value) : Prop := ∀ j : Fin 6, W.cell? ⟨b, i * 6 + j.val, none⟩ = some (v j)
def aggOf (v : Fin 6 → Value) : Value := .agg #[v 0, v 1, v 2, v 3, v 4, v 5]
mutual
/-- a value that reads as a pattern; the rows of its parts lie in blocks that X allows -/
def NodeV (W : World) (X : Nat → Prop) : Nd → Value → Prop
  | .one p, v => LeafV v p
  | .op k l, v => ∃ A c, v = kindV k A l.length c ∧ l.length ≤ c ∧ c ≤ maxLen ∧ (0 < l.length → ∃ b, A = some ⟨b, 0, none⟩ ∧ X b ∧ NodesFrom W X b l 0)
def NodesFrom (W : World) (X : Nat → Prop) (b : Nat) : List Nd → Nat → Prop
  | [], _ => True
  | n :: r, i => (∃ v, sixAt W b i v ∧ NodeV W X n (aggOf v)) ∧ NodesFrom W X b r (i + 1)
end
/-- the allowed blocks are as they were -/
def SameOn (W W' : World) (X : Nat → Prop) : Prop := ∀ b, X b → b < W.heap.size → W'.heap[b]? = W.heap[b]?
theorem sixAt.same {W W' : World} {X : Nat → Prop} {b i : Nat} {v : Fin 6 → Value} (h : sixAt W b i v) (g : SameOn W W' X) (hX : X b) : sixAt W' b i v := fun j =>
  (World.cell?_of_block (a := ⟨b, _, none⟩) (g b hX (World.block_lt_of_cell? W _ (h j)))).trans (h j)
mutual
theorem NodeV.same {W W' : World} {X : Nat → Prop} (g : SameOn W W' X) : ∀ (n : Nd) (v : Value), NodeV W X n v → NodeV W' X n v
  | .one p, v, h => by unfold NodeV at h ⊢; exact h
  | .op k l, v, h => by
    unfold NodeV at h ⊢
    obtain ⟨A, c, e, h1, h2, h3⟩ := h
    exact ⟨A, c, e, h1, h2, fun h0 => by
      obtain ⟨b, eb, hX, hn⟩ := h3 h0
      exact ⟨b, eb, hX, NodesFrom.same g b hX l 0 hn⟩⟩
theorem NodesFrom.same {W W' : World} {X : Nat → Prop} (g : SameOn W W' X) (b : Nat) (hX : X b) : ∀ (l : List Nd) (i : Nat), NodesFrom W X b l i → NodesFrom W' X b l i
  | [], i, h => by unfold NodesFrom; trivial
  | n :: r, i, h => by
    unfold NodesFrom at h ⊢
    obtain ⟨⟨v, h1, h2⟩, h3⟩ := h
    exact ⟨⟨v, h1.same g hX, NodeV.same g n _ h2⟩, NodesFrom.same g b hX r (i + 1) h3⟩
end
mutual
theorem NodeV.mono {W : World} {X Y : Nat → Prop} (g : ∀ b, X b → Y b) : ∀ (n : Nd) (v : Value), NodeV W X n v → NodeV W Y n v
  | .one p, v, h => by unfold NodeV at h ⊢; exact h
  | .op k l, v, h => by
    unfold NodeV at h ⊢
    obtain ⟨A, c, e, h1, h2, h3⟩ := h
    exact ⟨A, c, e, h1, h2, fun h0 => by
      obtain ⟨b, eb, hX, hn⟩ := h3 h0
      exact ⟨b, eb, g b hX, NodesFrom.mono g b l 0 hn⟩⟩
theorem NodesFrom.mono {W : World} {X Y : Nat → Prop} (g : ∀ b, X b → Y b) (b : Nat) : ∀ (l : List Nd) (i : Nat), NodesFrom W X b l i → NodesFrom W Y b l i
  | [], i, h => by unfold NodesFrom; trivial
  | n :: r, i, h => by
    unfold NodesFrom at h ⊢
    obtain ⟨⟨v, h1, h2⟩, h3⟩ := h
    exact ⟨⟨v, h1, NodeV.mono g n _ h2⟩, NodesFrom.mono g b r (i + 1) h3⟩
end
theorem NodesFrom.get {W : World} {X : Nat → Prop} {b : Nat} : ∀ (l : List Nd) (i j : Nat) (n : Nd), NodesFrom W X b l i → l[j]? = some n → ∃ v, sixAt W b (i + j) v ∧ NodeV W X n (aggOf v)
  | [], i, j, n, h, e => by simp at e
  | m :: r, i, 0, n, h, e => by
    unfold NodesFrom at h
    obtain rfl : m = n := by simpa using e
    exact h.1
  | m :: r, i, j + 1, n, h, e => by
    unfold NodesFrom at h
    have := NodesFrom.get r (i + 1) j n h.2 (by simpa using e)
    rwa [show i + 1 + j = i + (j + 1) by omega] at this
theorem NodesFrom.of {W : World} {X : Nat → Prop} {b : Nat} : ∀ (l : List Nd) (i : Nat), (∀ j n, l[j]? = some n → ∃ v, sixAt W b (i + j) v ∧ NodeV W X n (aggOf v)) → NodesFrom W X b l i
  | [], i, h => by unfold NodesFrom; trivial
  | m :: r, i, h => by
    unfold NodesFrom
    refine ⟨h 0 m rfl, NodesFrom.of r (i + 1) fun j n e => ?_⟩
    have := h (j + 1) n (by simpa using e)
    rwa [show i + (j + 1) = i + 1 + j by omega] at this
end Go.Proofs.Ytnlfndhgdeapeaa
