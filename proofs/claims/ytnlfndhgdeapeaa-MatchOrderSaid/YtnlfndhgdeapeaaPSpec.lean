/- Patterns as they are read: a mirror of the program's own text. -/
import Derived.Test.YtnlfndhgdeapeaaNodeApp
namespace Go.Proofs.Ytnlfndhgdeapeaa
open Go.RowKit
set_option maxRecDepth 100000

def noN : Nd := .op 0 []
/-- 'br': what a pattern behind an opening bracket reads -/
def atomS (s : List UInt8) (br : Nat → Bool × Nd × Nat) (k : Nat) : Bool × Nd × Nat :=
  if isAt s k 46 then (true, .one (fun x => !(fun _ => false : Nat → Bool) x), k + 1)
  else if isAt s k 40 then
    (if (br (k + 1)).1 then (if isAt s (br (k + 1)).2.2 41 then (true, (br (k + 1)).2.1, (br (k + 1)).2.2 + 1) else (false, noN, (br (k + 1)).2.2)) else (false, noN, (br (k + 1)).2.2))
  else if isAt s k 91 then ((setS s (k + 1)).1, .one (setS s (k + 1)).2.1, (setS s (k + 1)).2.2)
  else if (letterS s spL bsL k).1 then (true, .one (fun x => false || inR (letterS s spL bsL k).2.1.toNat (letterS s spL bsL k).2.1.toNat x), (letterS s spL bsL k).2.2)
  else (false, noN, (letterS s spL bsL k).2.2)
def pieceS (s : List UInt8) (br : Nat → Bool × Nd × Nat) (k : Nat) : Bool × Nd × Nat :=
  let r := atomS s br k
  if r.1 then
    if isAt s r.2.2 42 then (true, .op 3 [r.2.1], r.2.2 + 1)
    else if isAt s r.2.2 43 then (true, .op 4 [r.2.1], r.2.2 + 1)
    else if isAt s r.2.2 63 then (true, .op 5 [r.2.1], r.2.2 + 1)
    else r
  else (false, noN, r.2.2)
def goesOn (s : List UInt8) (k : Nat) : Bool := decide (k < s.length) && !isAt s k 124 && !isAt s k 41
def piecesF (s : List UInt8) (br : Nat → Bool × Nd × Nat) : Nat → Nat → List Nd → Bool × List Nd × Nat
  | 0, k, _ => (false, [], k)
  | f + 1, k, acc =>
    if goesOn s k then (if (pieceS s br k).1 then piecesF s br f (pieceS s br k).2.2 (acc ++ [(pieceS s br k).2.1]) else (false, [], (pieceS s br k).2.2))
    else (true, acc, k)
def altF (s : List UInt8) (br : Nat → Bool × Nd × Nat) : Nat → Nat → List Nd → Bool × List Nd × Nat
  | 0, k, _ => (false, [], k)
  | f + 1, k, acc =>
    let r := piecesF s br (s.length + 1) k []
    if r.1 then (if isAt s r.2.2 124 then altF s br f (r.2.2 + 1) (acc ++ [.op 1 r.2.1]) else (true, acc ++ [.op 1 r.2.1], r.2.2))
    else (false, [], r.2.2)
/-- d: more than bytes are left -/
def patS (s : List UInt8) : Nat → Nat → Bool × Nd × Nat
  | 0, k => (false, noN, k)
  | d + 1, k => ((altF s (patS s d) (s.length + 1) k []).1, .op 2 (altF s (patS s d) (s.length + 1) k []).2.1, (altF s (patS s d) (s.length + 1) k []).2.2)

/-- a tree that was made since w -/
def NewN (w w' : World) (n : Nd) (v : Value) : Prop := ∃ X : Nat → Prop, (∀ c, X c → w.heap.size ≤ c ∧ c < w'.heap.size) ∧ NodeV w' X n v
def ReadPost (b : Nat) (s : ByteArray) (r : Bool × Nd × Nat) (w : World) (e : Ending) (w' : World) : Prop :=
  Rd w' b s r.2.2 ∧ Only w w' b ∧ ∃ v, e = .returned (.tuple #[v, .bool r.1]) ∧ (r.1 = true → NewN w w' r.2.1 v) ∧ (r.1 = false → v = zeroN)
theorem NewN.leaf {w w' : World} {p : Nat → Bool} {v : Value} (h : LeafV v p) : NewN w w' (.one p) v := ⟨fun _ => False, fun _ h => h.elim, by unfold NodeV; exact h⟩
theorem node_form {W : World} {X : Nat → Prop} {n : Nd} {v : Value} (h : NodeV W X n v) : ∃ (k u0 u1 u2 u3 m c : Nat) (A : Option Addr), v = .agg #[.int .i64 k, .int .u64 u0, .int .u64 u1, .int .u64 u2, .int .u64 u3, .slice A m c] := by
  cases n with
  | one p =>
    unfold NodeV at h
    obtain ⟨u0, u1, u2, u3, e, -⟩ := h
    exact ⟨0, u0, u1, u2, u3, 0, 0, none, e⟩
  | op k l =>
    unfold NodeV at h
    obtain ⟨A, c, e, -⟩ := h
    exact ⟨k, 0, 0, 0, 0, l.length, c, A, e⟩
theorem NewN.form {w w' : World} {n : Nd} {v : Value} (h : NewN w w' n v) : ∃ (k u0 u1 u2 u3 m c : Nat) (A : Option Addr), v = .agg #[.int .i64 k, .int .u64 u0, .int .u64 u1, .int .u64 u2, .int .u64 u3, .slice A m c] := by
  obtain ⟨X, -, h⟩ := h
  exact node_form h
/-- of w1's making; nothing of that has changed since -/
theorem NewN.keep {w W1 W2 W3 : World} {n : Nd} {v : Value} (h : NewN W1 W2 n v) (h1 : w.heap.size ≤ W1.heap.size) (h2 : W2.heap.size ≤ W3.heap.size) (g : ∀ c, W1.heap.size ≤ c → c < W2.heap.size → W3.heap[c]? = W2.heap[c]?) : NewN w W3 n v := by
  obtain ⟨X, hX, hn⟩ := h
  exact ⟨X, fun c hc => ⟨by have := (hX c hc).1; omega, by have := (hX c hc).2; omega⟩, NodeV.same (fun c hc _ => g c (hX c hc).1 (hX c hc).2) n v hn⟩
/-- the six cells of a tree's value -/
theorem node_six {W : World} {X : Nat → Prop} {n : Nd} {v : Value} (h : NodeV W X n v) : ∃ x : Fin 6 → Value, v = aggOf x := by
  cases n with
  | one p =>
    unfold NodeV at h
    obtain ⟨u0, u1, u2, u3, e, -⟩ := h
    exact ⟨fun j => match j with | 0 => .int .i64 0 | 1 => .int .u64 u0 | 2 => .int .u64 u1 | 3 => .int .u64 u2 | 4 => .int .u64 u3 | 5 => .slice none 0 0, e⟩
  | op k l =>
    unfold NodeV at h
    obtain ⟨A, c, e, -⟩ := h
    exact ⟨fun j => match j with | 0 => .int .i64 k | 1 => .int .u64 0 | 2 => .int .u64 0 | 3 => .int .u64 0 | 4 => .int .u64 0 | 5 => .slice A l.length c, e⟩
end Go.Proofs.Ytnlfndhgdeapeaa
