/- A text that is a pattern is one within a greater text, where that text ends or a closing bracket stands behind it. No program in it. -/
import Derived.Test.YtnlfndhgdeapeaaPLe
import Derived.Test.YtnlfndhgdeapeaaCompile
import Derived.Test.YtnlfndhgdeapeaaKnown
namespace Go.Proofs.Ytnlfndhgdeapeaa
open Go.RowKit
set_option maxRecDepth 100000
set_option maxHeartbeats 1000000

structure Emb (s t : List UInt8) (o : Nat) : Prop where
  i : ∀ k, k < s.length → t[o + k]? = s[k]?
  e : t[o + s.length]? = none ∨ t[o + s.length]? = some 41
  l : s.length ≤ t.length
theorem Emb.get {s t : List UInt8} {o : Nat} (h : Emb s t o) {k : Nat} {c : UInt8} (e : s[k]? = some c) : t[o + k]? = some c := (h.i k (List.getElem?_eq_some_iff.1 e).1).trans e
theorem Emb.at {s t : List UInt8} {o : Nat} (h : Emb s t o) {k : Nat} (hk : k ≤ s.length) (c : UInt8) (hc : c ≠ 41) : isAt t (o + k) c = isAt s k c := by
  unfold isAt
  by_cases e : k < s.length
  · rw [h.i k e]
  · obtain rfl : k = s.length := by omega
    rw [List.getElem?_eq_none (Nat.le_refl _)]
    rcases h.e with e | e
    · rw [e]
    · rw [e]; simp; exact fun h => hc h.symm
theorem Emb.shut {s t : List UInt8} {o : Nat} (h : Emb s t o) {k : Nat} (e : isAt s k 41 = true) : isAt t (o + k) 41 = true := by
  unfold isAt at e ⊢
  exact decide_eq_true (h.get (of_decide_eq_true e))
theorem Emb.goes {s t : List UInt8} {o : Nat} (h : Emb s t o) {k : Nat} (hk : k ≤ s.length) : goesOn t (o + k) = goesOn s k := by
  unfold goesOn
  by_cases e : k < s.length
  · have h1 := h.i k e
    have h2 : o + k < t.length := by
      rw [List.getElem?_eq_getElem e] at h1
      exact (List.getElem?_eq_some_iff.1 h1).1
    rw [decide_eq_true e, decide_eq_true h2]
    unfold isAt
    rw [h1]
  · obtain rfl : k = s.length := by omega
    rw [decide_eq_false (Nat.lt_irrefl _)]
    rcases h.e with e | e
    · rw [decide_eq_false (by have := List.getElem?_eq_none_iff.1 e; omega)]
      rfl
    · unfold isAt
      rw [e]
      simp
theorem letter_emb {s t : List UInt8} {o : Nat} (h : Emb s t o) {a b : List UInt8} {k k' : Nat} {c : UInt8} (hk : k ≤ s.length) (e : letterS s a b k = (true, c, k')) : letterS t a b (o + k) = (true, c, o + k') := by
  unfold letterS at e ⊢
  simp only [h.at hk 92 (by decide)]
  cases hs : isAt s k 92
  · rw [hs] at e
    simp only [Bool.false_eq_true, if_false] at e ⊢
    cases g : s[k]? with
    | none => rw [g] at e; cases e
    | some x =>
      rw [g] at e
      rw [h.get g]
      simp only at e ⊢
      split at e
      · rename_i hx
        rw [if_pos hx]
        simp only [Prod.mk.injEq, true_and] at e ⊢
        exact ⟨e.1, by omega⟩
      · cases e
  · rw [hs] at e
    simp only [if_true] at e ⊢
    rw [Nat.add_assoc]
    cases g : s[k + 1]? with
    | none => rw [g] at e; cases e
    | some x =>
      rw [g] at e
      rw [h.get g]
      simp only at e ⊢
      split at e
      · rename_i hx
        rw [if_pos hx]
        simp only [Prod.mk.injEq, true_and] at e ⊢
        exact ⟨e.1, by omega⟩
      · cases e
theorem letter_to {s a b : List UInt8} {k k' : Nat} {c : UInt8} (hk : k ≤ s.length) (e : letterS s a b k = (true, c, k')) : k' ≤ s.length := by
  have := (letterS_le s a b k hk).1
  rwa [e] at this
theorem item_emb {s t : List UInt8} {o : Nat} (h : Emb s t o) {k k' : Nat} {c d : UInt8} (hk : k ≤ s.length) (e : itemS s k = (true, c, d, k')) : itemS t (o + k) = (true, c, d, o + k') := by
  unfold itemS at e ⊢
  obtain ⟨r, hr⟩ : ∃ r, letterS s sbL sqL k = r := ⟨_, rfl⟩
  obtain ⟨ok, c1, k1⟩ := r
  rw [hr] at e
  cases ok
  · simp at e
  have h1 := letter_to hk hr
  rw [letter_emb h hk hr]
  simp only [if_true] at e ⊢
  rw [h.at h1 45 (by decide)]
  cases ht : isAt s k1 45
  · rw [ht] at e
    simp only [Bool.false_eq_true, if_false, Prod.mk.injEq, true_and] at e ⊢
    exact ⟨e.1, e.2.1, by omega⟩
  · rw [ht] at e
    have hk1 := isAt_len ht
    simp only [if_true] at e ⊢
    obtain ⟨q, hq⟩ : ∃ q, letterS s sbL sqL (k1 + 1) = q := ⟨_, rfl⟩
    obtain ⟨ok2, c2, k2⟩ := q
    rw [hq] at e
    cases ok2
    · simp at e
    rw [Nat.add_assoc, letter_emb h (by omega) hq]
    simp only [if_true] at e ⊢
    split at e
    · cases e
    · rename_i hx
      rw [if_neg hx]
      simp only [Prod.mk.injEq, true_and] at e ⊢
      exact ⟨e.1, e.2.1, by omega⟩
theorem item_to {s : List UInt8} {k k' : Nat} {c d : UInt8} (hk : k ≤ s.length) (e : itemS s k = (true, c, d, k')) : k' ≤ s.length := by
  have := (itemS_le hk).1
  rwa [e] at this
theorem setF_emb {s t : List UInt8} {o : Nat} (h : Emb s t o) : ∀ (f f' k k' : Nat) (p q : Nat → Bool), f ≤ f' → k ≤ s.length → setF s f k p = (true, q, k') → setF t f' (o + k) p = (true, q, o + k')
  | 0, f', k, k', p, q, hf, hk, e => by simp [setF] at e
  | f + 1, 0, k, k', p, q, hf, hk, e => by omega
  | f + 1, f' + 1, k, k', p, q, hf, hk, e => by
    rw [setF_s] at e ⊢
    rw [h.at hk 93 (by decide)]
    cases h1 : isAt s k 93
    · rw [h1] at e
      simp only [Bool.false_eq_true, if_false] at e ⊢
      obtain ⟨r, hr⟩ : ∃ r, itemS s k = r := ⟨_, rfl⟩
      obtain ⟨ok, c, d, k1⟩ := r
      rw [hr] at e
      cases ok
      · simp at e
      have h2 := item_to hk hr
      rw [item_emb h hk hr]
      simp only [if_true] at e ⊢
      exact setF_emb h f f' k1 k' _ q (by omega) h2 e
    · rw [h1] at e
      simp only [if_true, Prod.mk.injEq, true_and] at e ⊢
      exact ⟨e.1, by omega⟩
theorem set_emb {s t : List UInt8} {o : Nat} (h : Emb s t o) {k k' : Nat} {q : Nat → Bool} (hk : k ≤ s.length) (e : setS s k = (true, q, k')) : setS t (o + k) = (true, q, o + k') := by
  unfold setS at e ⊢
  simp only at e ⊢
  rw [h.at hk 94 (by decide)]
  obtain ⟨k1, hk1, h1, h2⟩ : ∃ k1, (if isAt s k 94 = true then k + 1 else k) = k1 ∧ k1 ≤ s.length ∧ (if isAt s k 94 = true then o + k + 1 else o + k) = o + k1 := by
    cases e : isAt s k 94
    · exact ⟨k, rfl, hk, rfl⟩
    · exact ⟨k + 1, rfl, isAt_len e, rfl⟩
  rw [hk1] at e
  rw [h2]
  obtain ⟨r, hr⟩ : ∃ r, itemS s k1 = r := ⟨_, rfl⟩
  obtain ⟨ok, c, d, k2⟩ := r
  rw [hr] at e
  cases ok
  · simp at e
  have h3 := item_to h1 hr
  rw [item_emb h h1 hr]
  simp only [if_true] at e ⊢
  obtain ⟨q2, hq⟩ : ∃ q2, setF s (s.length + 1) k2 (fun x => false || inR c.toNat d.toNat x) = q2 := ⟨_, rfl⟩
  obtain ⟨ok2, p2, k3⟩ := q2
  rw [hq] at e
  simp only [Prod.mk.injEq] at e
  obtain ⟨rfl, e2, rfl⟩ := e
  rw [setF_emb h _ (t.length + 1) _ _ _ _ (by have := h.l; omega) h3 hq]
  simp only [Prod.mk.injEq, true_and, and_true]
  exact e2
/-- what stands in brackets is read alike -/
def BrEmb (s : List UInt8) (o : Nat) (br br' : Nat → Bool × Nd × Nat) : Prop := ∀ k n k', k ≤ s.length → br k = (true, n, k') → br' (o + k) = (true, n, o + k')
theorem atom_emb {s t : List UInt8} {o : Nat} (h : Emb s t o) {br br' : Nat → Bool × Nd × Nat} (hb : BrEmb s o br br') (_hl : BrLe s br) {k k' : Nat} {n : Nd} (hk : k ≤ s.length) (e : atomS s br k = (true, n, k')) : atomS t br' (o + k) = (true, n, o + k') := by
  unfold atomS at e ⊢
  rw [h.at hk 46 (by decide), h.at hk 40 (by decide), h.at hk 91 (by decide)]
  cases h1 : isAt s k 46
  · cases h2 : isAt s k 40
    · cases h3 : isAt s k 91
      · simp only [h1, h2, h3, Bool.false_eq_true, if_false] at e ⊢
        obtain ⟨r, hr⟩ : ∃ r, letterS s spL bsL k = r := ⟨_, rfl⟩
        obtain ⟨ok, c, k1⟩ := r
        rw [hr] at e
        cases ok
        · simp at e
        rw [letter_emb h hk hr]
        simp only [if_true, Prod.mk.injEq, true_and] at e ⊢
        exact ⟨e.1, by omega⟩
      · have hk1 := isAt_len h3
        simp only [h1, h2, h3, Bool.false_eq_true, if_false, if_true] at e ⊢
        obtain ⟨r, hr⟩ : ∃ r, setS s (k + 1) = r := ⟨_, rfl⟩
        obtain ⟨ok, c, k1⟩ := r
        rw [hr] at e
        simp only [Prod.mk.injEq] at e
        obtain ⟨rfl, rfl, rfl⟩ := e
        rw [Nat.add_assoc, set_emb h (by omega) hr]
    · have hk1 := isAt_len h2
      simp only [h1, h2, Bool.false_eq_true, if_false, if_true] at e ⊢
      obtain ⟨r, hr⟩ : ∃ r, br (k + 1) = r := ⟨_, rfl⟩
      obtain ⟨ok, n1, k1⟩ := r
      rw [hr] at e
      cases ok
      · simp at e
      rw [Nat.add_assoc, hb (k + 1) n1 k1 (by omega) hr]
      simp only [if_true] at e ⊢
      cases e2 : isAt s k1 41
      · rw [e2] at e; simp at e
      · rw [e2] at e
        rw [h.shut e2]
        simp only [if_true, Prod.mk.injEq, true_and] at e ⊢
        exact ⟨e.1, by omega⟩
  · simp only [h1, if_true, Prod.mk.injEq, true_and] at e ⊢
    exact ⟨e.1, by omega⟩
theorem piece_emb {s t : List UInt8} {o : Nat} (h : Emb s t o) {br br' : Nat → Bool × Nd × Nat} (hb : BrEmb s o br br') (hl : BrLe s br) {k k' : Nat} {n : Nd} (hk : k ≤ s.length) (e : pieceS s br k = (true, n, k')) : pieceS t br' (o + k) = (true, n, o + k') := by
  have hle := (atomS_le hl hk).1
  unfold pieceS at e ⊢
  simp only at e ⊢
  obtain ⟨r, hr⟩ : ∃ r, atomS s br k = r := ⟨_, rfl⟩
  obtain ⟨ok, n1, k1⟩ := r
  rw [hr] at e hle
  simp only at hle
  cases ok
  · simp at e
  rw [atom_emb h hb hl hk hr]
  simp only [if_true] at e ⊢
  rw [h.at hle 42 (by decide), h.at hle 43 (by decide), h.at hle 63 (by decide)]
  cases h1 : isAt s k1 42
  · cases h2 : isAt s k1 43
    · cases h3 : isAt s k1 63
      · simp only [h1, h2, h3, Bool.false_eq_true, if_false, Prod.mk.injEq, true_and] at e ⊢
        exact ⟨e.1, by omega⟩
      · simp only [h1, h2, h3, Bool.false_eq_true, if_false, if_true, Prod.mk.injEq, true_and] at e ⊢
        exact ⟨e.1, by omega⟩
    · simp only [h1, h2, Bool.false_eq_true, if_false, if_true, Prod.mk.injEq, true_and] at e ⊢
      exact ⟨e.1, by omega⟩
  · simp only [h1, if_true, Prod.mk.injEq, true_and] at e ⊢
    exact ⟨e.1, by omega⟩
theorem pieces_emb {s t : List UInt8} {o : Nat} (h : Emb s t o) {br br' : Nat → Bool × Nd × Nat} (hb : BrEmb s o br br') (hl : BrLe s br) : ∀ (f f' k k' : Nat) (acc l : List Nd), f ≤ f' → k ≤ s.length → piecesF s br f k acc = (true, l, k') → piecesF t br' f' (o + k) acc = (true, l, o + k')
  | 0, f', k, k', acc, l, hf, hk, e => by simp [piecesF] at e
  | f + 1, 0, k, k', acc, l, hf, hk, e => by omega
  | f + 1, f' + 1, k, k', acc, l, hf, hk, e => by
    have hle := (pieceS_le hl hk).1
    unfold piecesF at e ⊢
    rw [h.goes hk]
    cases h1 : goesOn s k
    · rw [h1] at e
      simp only [Bool.false_eq_true, if_false, Prod.mk.injEq, true_and] at e ⊢
      exact ⟨e.1, by omega⟩
    · rw [h1] at e
      simp only [if_true] at e ⊢
      obtain ⟨r, hr⟩ : ∃ r, pieceS s br k = r := ⟨_, rfl⟩
      obtain ⟨ok, n1, k1⟩ := r
      rw [hr] at e hle
      cases ok
      · simp at e
      rw [piece_emb h hb hl hk hr]
      simp only [if_true] at e ⊢
      exact pieces_emb h hb hl f f' k1 k' _ l (by omega) hle e
theorem alt_emb {s t : List UInt8} {o : Nat} (h : Emb s t o) {br br' : Nat → Bool × Nd × Nat} (hb : BrEmb s o br br') (hl : BrLe s br) : ∀ (f f' k k' : Nat) (acc l : List Nd), f ≤ f' → k ≤ s.length → altF s br f k acc = (true, l, k') → altF t br' f' (o + k) acc = (true, l, o + k')
  | 0, f', k, k', acc, l, hf, hk, e => by simp [altF] at e
  | f + 1, 0, k, k', acc, l, hf, hk, e => by omega
  | f + 1, f' + 1, k, k', acc, l, hf, hk, e => by
    have hle := (piecesF_le hl (s.length + 1) k [] hk).1
    unfold altF at e ⊢
    simp only at e ⊢
    obtain ⟨r, hr⟩ : ∃ r, piecesF s br (s.length + 1) k [] = r := ⟨_, rfl⟩
    obtain ⟨ok, l1, k1⟩ := r
    rw [hr] at e hle
    cases ok
    · simp at e
    rw [pieces_emb h hb hl _ (t.length + 1) _ _ _ _ (by have := h.l; omega) hk hr]
    simp only [if_true] at e hle ⊢
    rw [h.at hle 124 (by decide)]
    cases h1 : isAt s k1 124
    · rw [h1] at e
      simp only [Bool.false_eq_true, if_false, Prod.mk.injEq, true_and] at e ⊢
      exact ⟨e.1, by omega⟩
    · rw [h1] at e
      have := isAt_len h1
      simp only [if_true] at e ⊢
      rw [Nat.add_assoc]
      exact alt_emb h hb hl f f' (k1 + 1) k' _ l (by omega) (by omega) e
theorem pat_emb {s t : List UInt8} {o : Nat} (h : Emb s t o) : ∀ (d d' : Nat), d ≤ d' → BrEmb s o (patS s d) (patS t d')
  | 0, d', hd => fun k n k' hk e => by simp [patS] at e
  | d + 1, 0, hd => by omega
  | d + 1, d' + 1, hd => fun k n k' hk e => by
    unfold patS at e ⊢
    obtain ⟨r, hr⟩ : ∃ r, altF s (patS s d) (s.length + 1) k [] = r := ⟨_, rfl⟩
    obtain ⟨ok, l1, k1⟩ := r
    rw [hr] at e
    simp only [Prod.mk.injEq] at e
    obtain ⟨rfl, rfl, rfl⟩ := e
    rw [alt_emb h (pat_emb h d d' (by omega)) (patS_le s d) _ (t.length + 1) _ _ _ _ (by have := h.l; omega) hk hr]
/-- a pattern in brackets -/
theorem bracket_atom {a t : List UInt8} {n : Nd} (hr : readS a = (true, n, a.length)) {o d : Nat} (h0 : t[o]? = some 40) (hi : ∀ k, k < a.length → t[o + 1 + k]? = a[k]?) (h1 : t[o + 1 + a.length]? = some 41) (hl : a.length ≤ t.length) (hd : a.length + 1 ≤ d) :
    atomS t (patS t d) o = (true, n, o + a.length + 2) := by
  have hE : Emb a t (o + 1) := ⟨hi, .inr h1, hl⟩
  have hb := pat_emb hE _ d hd 0 n a.length (Nat.zero_le _) hr
  unfold atomS
  have e1 : isAt t o 46 = false := by unfold isAt; rw [h0]; decide
  have e2 : isAt t o 40 = true := by unfold isAt; rw [h0]; decide
  rw [e1, e2]
  simp only [Bool.false_eq_true, if_false, if_true]
  rw [Nat.add_zero] at hb
  rw [hb]
  have e3 : isAt t (o + 1 + a.length) 41 = true := by unfold isAt; rw [h1]; simp
  simp only [if_true, e3, Prod.mk.injEq, true_and]
  omega
end Go.Proofs.Ytnlfndhgdeapeaa
/- Texts that are put together of patterns: what they read, and what they match. No program in it. -/
namespace Go.Proofs.Ytnlfndhgdeapeaa
open Go.RowKit
set_option maxRecDepth 100000
set_option maxHeartbeats 1000000

theorem at_of {t : List UInt8} {k : Nat} {c : UInt8} (h : t[k]? = some c) (d : UInt8) : isAt t k d = decide (c = d) := by
  unfold isAt
  rw [h]
  simp
theorem at_none {t : List UInt8} {k : Nat} (h : t[k]? = none) (d : UInt8) : isAt t k d = false := by
  unfold isAt
  rw [h]
  simp
theorem goes_end {t : List UInt8} : goesOn t t.length = false := by unfold goesOn; simp
theorem goes_of {t : List UInt8} {k : Nat} {c : UInt8} (h : t[k]? = some c) : goesOn t k = (!decide (c = 124) && !decide (c = 41)) := by
  have := (List.getElem?_eq_some_iff.1 h).1
  unfold goesOn
  rw [at_of h, at_of h, decide_eq_true this]
  simp
theorem read_of {t : List UInt8} {l : List Nd} (h : altF t (patS t t.length) (t.length + 1) 0 [] = (true, l, t.length)) : readS t = (true, .op 2 l, t.length) := by
  unfold readS patS
  rw [h]
theorem alt_last {t : List UInt8} {br : Nat → Bool × Nd × Nat} {f k k' : Nat} {acc ps : List Nd} (h : piecesF t br (t.length + 1) k [] = (true, ps, k')) (e : isAt t k' 124 = false) : altF t br (f + 1) k acc = (true, acc ++ [.op 1 ps], k') := by
  unfold altF
  simp only [h, e]
  rfl
theorem alt_bar {t : List UInt8} {br : Nat → Bool × Nd × Nat} {f k k' : Nat} {acc ps : List Nd} (h : piecesF t br (t.length + 1) k [] = (true, ps, k')) (e : isAt t k' 124 = true) : altF t br (f + 1) k acc = altF t br f (k' + 1) (acc ++ [.op 1 ps]) := by
  conv => lhs; unfold altF
  simp only [h, e]
  rfl
theorem pieces_end {t : List UInt8} {br : Nat → Bool × Nd × Nat} {f k : Nat} {acc : List Nd} (h : goesOn t k = false) : piecesF t br (f + 1) k acc = (true, acc, k) := by
  unfold piecesF
  rw [h]
  rfl
theorem pieces_one {t : List UInt8} {br : Nat → Bool × Nd × Nat} {f k k' : Nat} {acc : List Nd} {n : Nd} (h : goesOn t k = true) (e : pieceS t br k = (true, n, k')) : piecesF t br (f + 1) k acc = piecesF t br f k' (acc ++ [n]) := by
  conv => lhs; unfold piecesF
  rw [h, e]
  rfl
/-- nothing behind it that repeats it -/
def plain (t : List UInt8) (k : Nat) : Prop := isAt t k 42 = false ∧ isAt t k 43 = false ∧ isAt t k 63 = false
theorem plain_end (t : List UInt8) : plain t t.length := by
  have : t[t.length]? = none := List.getElem?_eq_none (Nat.le_refl _)
  exact ⟨at_none this _, at_none this _, at_none this _⟩
theorem plain_of {t : List UInt8} {k : Nat} {c : UInt8} (h : t[k]? = some c) (h1 : c ≠ 42) (h2 : c ≠ 43) (h3 : c ≠ 63) : plain t k := by
  unfold plain
  rw [at_of h, at_of h, at_of h]
  simp [h1, h2, h3]
theorem piece_plain {t : List UInt8} {br : Nat → Bool × Nd × Nat} {k k' : Nat} {n : Nd} (h : atomS t br k = (true, n, k')) (e : plain t k') : pieceS t br k = (true, n, k') := by
  unfold pieceS
  simp only [h, e.1, e.2.1, e.2.2]
  rfl
theorem piece_rep {t : List UInt8} {br : Nat → Bool × Nd × Nat} {k k' : Nat} {n : Nd} {c : UInt8} {j : Nat} (h : atomS t br k = (true, n, k')) (e : t[k']? = some c) (hj : (c = 42 ∧ j = 3) ∨ (c = 43 ∧ j = 4) ∨ (c = 63 ∧ j = 5)) : pieceS t br k = (true, .op j [n], k' + 1) := by
  unfold pieceS
  simp only [h, at_of e]
  rcases hj with ⟨rfl, rfl⟩ | ⟨rfl, rfl⟩ | ⟨rfl, rfl⟩ <;> rfl
/-- a stands in brackets at o -/
structure Brk (t : List UInt8) (o : Nat) (a : List UInt8) : Prop where
  h : t[o]? = some 40
  i : ∀ k, k < a.length → t[o + 1 + k]? = a[k]?
  e : t[o + 1 + a.length]? = some 41
theorem Brk.mk' (pre a post : List UInt8) : Brk (pre ++ (40 :: (a ++ (41 :: post)))) pre.length a := by
  refine ⟨by simp, fun k hk => ?_, ?_⟩
  · rw [List.getElem?_append_right (by omega), show pre.length + 1 + k - pre.length = k + 1 by omega, List.getElem?_cons_succ, List.getElem?_append_left hk]
  · rw [List.getElem?_append_right (by omega), show pre.length + 1 + a.length - pre.length = a.length + 1 by omega, List.getElem?_cons_succ, List.getElem?_append_right (Nat.le_refl _)]
    simp
theorem Brk.len {t : List UInt8} {o : Nat} {a : List UInt8} (h : Brk t o a) : o + a.length + 2 ≤ t.length := by
  have := (List.getElem?_eq_some_iff.1 h.e).1
  omega
theorem Brk.atom {t : List UInt8} {o : Nat} {a : List UInt8} (h : Brk t o a) {n : Nd} (hr : readS a = (true, n, a.length)) : atomS t (patS t t.length) o = (true, n, o + a.length + 2) :=
  bracket_atom hr h.h h.i h.e (by have := h.len; omega) (by have := h.len; omega)
theorem Brk.goes {t : List UInt8} {o : Nat} {a : List UInt8} (h : Brk t o a) : goesOn t o = true := by rw [goes_of h.h]; decide
/-- one piece is all -/
theorem read_piece {t : List UInt8} {n : Nd} (h0 : goesOn t 0 = true) (h : pieceS t (patS t t.length) 0 = (true, n, t.length)) : readS t = (true, .op 2 [.op 1 [n]], t.length) := by
  refine read_of ?_
  have hp : piecesF t (patS t t.length) (t.length + 1) 0 [] = (true, [n], t.length) := by
    have hl : 0 < t.length := by
      unfold goesOn at h0
      simp only [Bool.and_eq_true, decide_eq_true_eq] at h0
      exact h0.1.1
    rw [pieces_one h0 h]
    obtain ⟨f, hf⟩ : ∃ f, t.length = f + 1 := ⟨t.length - 1, by omega⟩
    conv => lhs; arg 3; rw [hf]
    rw [pieces_end goes_end]
    rfl
  rw [alt_last hp (at_none (List.getElem?_eq_none (Nat.le_refl _)) _)]
  rfl
theorem read_rep {a : List UInt8} {n : Nd} (hr : readS a = (true, n, a.length)) (c : UInt8) (j : Nat) (hj : (c = 42 ∧ j = 3) ∨ (c = 43 ∧ j = 4) ∨ (c = 63 ∧ j = 5)) :
    readS (40 :: (a ++ [41, c])) = (true, .op 2 [.op 1 [.op j [n]]], (40 :: (a ++ [41, c])).length) := by
  have hB : Brk (40 :: (a ++ [41, c])) 0 a := Brk.mk' [] a [c]
  refine read_piece hB.goes ?_
  have hc : (40 :: (a ++ [41, c]))[0 + a.length + 2]? = some c := by
    rw [show 0 + a.length + 2 = (a.length + 1) + 1 by omega, List.getElem?_cons_succ, List.getElem?_append_right (by omega)]
    simp
  rw [piece_rep (hB.atom hr) hc hj]
  simp
theorem read_two {a b : List UInt8} {n m : Nd} (ha : readS a = (true, n, a.length)) (hb : readS b = (true, m, b.length)) :
    readS (40 :: (a ++ (41 :: 40 :: (b ++ [41])))) = (true, .op 2 [.op 1 [n, m]], (40 :: (a ++ (41 :: 40 :: (b ++ [41])))).length) := by
  obtain ⟨t, ht⟩ : ∃ t, 40 :: (a ++ (41 :: 40 :: (b ++ [41]))) = t := ⟨_, rfl⟩
  have hA : Brk t 0 a := by rw [← ht]; exact Brk.mk' [] a _
  have hB : Brk t (a.length + 2) b := by
    have := Brk.mk' (40 :: (a ++ [41])) b []
    rw [← ht]
    simpa using this
  have hl : t.length = a.length + 2 + b.length + 2 := by rw [← ht]; simp; omega
  rw [ht]
  refine read_of ?_
  have p1 : pieceS t (patS t t.length) 0 = (true, n, a.length + 2) := by
    have := piece_plain (hA.atom ha) (plain_of (c := 40) (by rw [show 0 + a.length + 2 = a.length + 2 by omega]; exact hB.h) (by decide) (by decide) (by decide))
    rwa [show 0 + a.length + 2 = a.length + 2 by omega] at this
  have p2 : pieceS t (patS t t.length) (a.length + 2) = (true, m, t.length) := by
    have h2 := hB.atom hb
    rw [← hl] at h2
    exact piece_plain h2 (plain_end t)
  have hp : piecesF t (patS t t.length) (t.length + 1) 0 [] = (true, [n, m], t.length) := by
    rw [pieces_one hA.goes p1]
    obtain ⟨f, hf⟩ : ∃ f, t.length = f + 1 + 1 := ⟨t.length - 2, by omega⟩
    conv => lhs; arg 3; rw [hf]
    rw [pieces_one hB.goes p2, pieces_end goes_end]
    rfl
  rw [alt_last hp (at_none (List.getElem?_eq_none (Nat.le_refl _)) _)]
  rfl
theorem read_or {a b : List UInt8} {n m : Nd} (ha : readS a = (true, n, a.length)) (hb : readS b = (true, m, b.length)) :
    readS (40 :: (a ++ (41 :: 124 :: 40 :: (b ++ [41])))) = (true, .op 2 [.op 1 [n], .op 1 [m]], (40 :: (a ++ (41 :: 124 :: 40 :: (b ++ [41])))).length) := by
  obtain ⟨t, ht⟩ : ∃ t, 40 :: (a ++ (41 :: 124 :: 40 :: (b ++ [41]))) = t := ⟨_, rfl⟩
  have hA : Brk t 0 a := by rw [← ht]; exact Brk.mk' [] a _
  have hB : Brk t (a.length + 3) b := by
    have := Brk.mk' (40 :: (a ++ [41, 124])) b []
    rw [← ht]
    simpa using this
  have hl : t.length = a.length + 3 + b.length + 2 := by rw [← ht]; simp; omega
  have hbar : t[a.length + 2]? = some 124 := by
    rw [← ht, List.getElem?_cons_succ, List.getElem?_append_right (by omega)]
    simp
  rw [ht]
  refine read_of ?_
  have p1 : pieceS t (patS t t.length) 0 = (true, n, a.length + 2) := by
    have := piece_plain (hA.atom ha) (plain_of (c := 124) (by rw [show 0 + a.length + 2 = a.length + 2 by omega]; exact hbar) (by decide) (by decide) (by decide))
    rwa [show 0 + a.length + 2 = a.length + 2 by omega] at this
  have p2 : pieceS t (patS t t.length) (a.length + 3) = (true, m, t.length) := by
    have h2 := hB.atom hb
    rw [← hl] at h2
    exact piece_plain h2 (plain_end t)
  obtain ⟨f, hf⟩ : ∃ f, t.length = f + 1 := ⟨t.length - 1, by omega⟩
  have q1 : piecesF t (patS t t.length) (t.length + 1) 0 [] = (true, [n], a.length + 2) := by
    rw [pieces_one hA.goes p1]
    conv => lhs; arg 3; rw [hf]
    rw [pieces_end (by rw [goes_of hbar]; decide)]
    rfl
  have q2 : piecesF t (patS t t.length) (t.length + 1) (a.length + 3) [] = (true, [m], t.length) := by
    rw [pieces_one hB.goes p2]
    conv => lhs; arg 3; rw [hf]
    rw [pieces_end goes_end]
    rfl
  rw [alt_bar q1 (by rw [at_of hbar]; decide)]
  conv => lhs; arg 3; rw [hf]
  rw [alt_last q2 (at_none (List.getElem?_eq_none (Nat.le_refl _)) _)]
  rfl
/- what they match -/
theorem lgTurn_one (n : Nd) : LgTurn [n] = Lg n := by
  funext b
  unfold LgTurn LgTurn
  refine propext ⟨?_, fun h => ⟨b, [], by simp, h, rfl⟩⟩
  rintro ⟨x, y, rfl, h, rfl⟩
  rwa [List.append_nil]
theorem lg_top (l : List Nd) : Lg (.op 2 l) = LgAlt l := by
  funext b
  unfold Lg
  simp
theorem lg_turn (l : List Nd) : Lg (.op 1 l) = LgTurn l := by
  funext b
  unfold Lg
  simp
theorem lg_piece (n : Nd) : Lg (.op 2 [.op 1 [n]]) = Lg n := by rw [lg_top, lgAlt_one, lg_turn, lgTurn_one]
theorem lg_star (n : Nd) : Lg (.op 3 [n]) = Star (Lg n) := by
  funext b
  unfold Lg
  simp [lgAlt_one]
theorem lg_op (k : Nat) (l : List Nd) (b : List UInt8) : Lg (.op k l) b = (if k = 1 then LgTurn l b else if k = 2 then LgAlt l b else if k = 5 then b = [] ∨ LgAlt l b else if k = 4 then (∃ x y, b = x ++ y ∧ LgAlt l x ∧ Star (LgAlt l) y) else Star (LgAlt l) b) := by
  conv => lhs; unfold Lg
theorem lg_plus (n : Nd) : Lg (.op 4 [n]) = fun b => ∃ x y, b = x ++ y ∧ Lg n x ∧ Star (Lg n) y := by
  funext b
  rw [lg_op]
  simp [lgAlt_one]
theorem lg_opt (n : Nd) : Lg (.op 5 [n]) = fun b => b = [] ∨ Lg n b := by
  funext b
  rw [lg_op]
  simp [lgAlt_one]
theorem lg_or (n m : Nd) (b : List UInt8) : Lg (.op 2 [.op 1 [n], .op 1 [m]]) b ↔ Lg n b ∨ Lg m b := by
  rw [lg_top]
  unfold LgAlt
  rw [lgAlt_one, lg_turn, lg_turn, lgTurn_one, lgTurn_one]
theorem lg_two (n m : Nd) (b : List UInt8) : Lg (.op 2 [.op 1 [n, m]]) b ↔ ∃ x y, b = x ++ y ∧ Lg n x ∧ Lg m y := by
  rw [lg_top, lgAlt_one, lg_turn]
  unfold LgTurn
  rw [lgTurn_one]
theorem star_one {P : List UInt8 → Prop} {x : List UInt8} (h : P x) : Star P x := by
  have := Star.cons h .nil
  rwa [List.append_nil] at this
theorem tree_of_read {t : List UInt8} {n : Nd} (h : readS t = (true, n, t.length)) : treeS t = .inl n ∨ ∃ k, treeS t = .inr (k, 6) := by
  unfold treeS
  split
  · exact .inr ⟨_, rfl⟩
  · cases tdS t 0 0 false with
    | some k => exact .inr ⟨_, rfl⟩
    | none =>
      rw [h]
      simp
theorem treeS_err {s : List UInt8} {k c : Nat} (h : treeS s = .inr (k, c)) : c = 2 ∨ c = 6 := by
  unfold treeS at h
  split at h
  · cases h; exact .inr rfl
  · cases htd : tdS s 0 0 false with
    | some k => rw [htd] at h; cases h; exact .inr rfl
    | none =>
      rw [htd] at h
      simp only at h
      split at h
      · cases h
      · cases h; exact .inl rfl
/-- Compile, whatever the text -/
theorem tree_some (s : ByteArray) (hs : s.size ≤ 1000000) (w : World) :
    Calls Try.prog 8 #[.string s] w fun e w' => Gr w w' ∧ ∃ (A : Option Addr) (k c : Nat), e = .returned (.tuple #[.pointer A, .int .i64 k, .int .i64 c]) := by
  refine (tree_any s hs w).mono ?_
  rintro e w' ⟨hg, h⟩
  refine ⟨hg, ?_⟩
  cases hr : treeS s.data.toList with
  | inl n =>
    rw [hr] at h
    obtain ⟨P, he, -⟩ := h
    exact ⟨_, 0, 0, he⟩
  | inr x =>
    rw [hr] at h
    exact ⟨_, _, _, h⟩
/-- Compile of a text that is a pattern, but for its depth -/
theorem tree_deep {s : ByteArray} {n : Nd} (hr : readS s.data.toList = (true, n, s.data.toList.length)) (hs : s.size ≤ 1000000) (w : World) :
    Calls Try.prog 8 #[.string s] w fun e w' => Gr w w' ∧ ∃ (A : Option Addr) (k c : Nat), e = .returned (.tuple #[.pointer A, .int .i64 k, .int .i64 c]) ∧ (c = 6 ∨ (c = 0 ∧ ∃ P, A = some ⟨P, 0, none⟩ ∧ Pat w' P n)) := by
  refine (tree_any s hs w).mono ?_
  rintro e w' ⟨hg, h⟩
  refine ⟨hg, ?_⟩
  rcases tree_of_read hr with h1 | ⟨k, h1⟩
  · rw [h1] at h
    obtain ⟨P, he, hp⟩ := h
    exact ⟨_, 0, 0, he, .inr ⟨rfl, P, rfl, hp⟩⟩
  · rw [h1] at h
    exact ⟨_, _, _, h, .inl rfl⟩
theorem pm {P : Nat} {n : Nd} {w W : World} (h : Pat w P n) (g : Gr w W) (b : ByteArray) (hb : b.size ≤ 1000000000000) {x : Bool} (hx : hits n b.data.toList = x) :
    Calls Try.prog 12 #[.pointer (some ⟨P, 0, none⟩), .string b] W fun e w' => e = .returned (.bool x) ∧ Gr W w' := by
  have := pat_match (h.gr g) b hb
  rwa [hx] at this
theorem hits_eq {n : Nd} (hn : Wf n) {b : List UInt8} {x : Bool} (h : Lg n b ↔ x = true) : hits n b = x := by
  have := hits_iff hn b
  cases x
  · exact Bool.eq_false_iff.2 fun e => by simpa using h.1 (this.1 e)
  · exact this.2 (h.2 rfl)
end Go.Proofs.Ytnlfndhgdeapeaa
