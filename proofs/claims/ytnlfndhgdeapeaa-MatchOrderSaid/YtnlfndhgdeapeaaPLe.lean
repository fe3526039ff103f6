/- Places that patterns are read to. -/
import Derived.Test.YtnlfndhgdeapeaaPieceR
namespace Go.Proofs.Ytnlfndhgdeapeaa
open Go.RowKit
set_option maxRecDepth 100000
set_option maxHeartbeats 1000000

def BrLe (s : List UInt8) (br : Nat → Bool × Nd × Nat) : Prop := ∀ k, k ≤ s.length → (br k).2.2 ≤ s.length ∧ k ≤ (br k).2.2
theorem isAt_len {s : List UInt8} {k : Nat} {c : UInt8} (h : isAt s k c = true) : k < s.length := (List.getElem?_eq_some_iff.1 (of_decide_eq_true h)).1
theorem setF_le {s : List UInt8} : ∀ (f k : Nat) (p : Nat → Bool), k ≤ s.length → (setF s f k p).2.2 ≤ s.length ∧ k ≤ (setF s f k p).2.2
  | 0, k, p, h => ⟨h, Nat.le_refl _⟩
  | f + 1, k, p, h => by
    rw [setF_s]
    cases h1 : isAt s k 93
    · have hi := itemS_le h
      have hlow : k ≤ (itemS s k).2.2.2 := by
        have h3 := letterS_le s sbL sqL k h
        unfold itemS
        obtain ⟨r, hr⟩ : ∃ r, letterS s sbL sqL k = r := ⟨_, rfl⟩
        rw [hr] at h3 ⊢
        obtain ⟨ok, c, k1⟩ := r
        simp only at h3 ⊢
        cases ok
        · exact h3.2
        simp only [if_true]
        cases ht : isAt s k1 45
        · exact h3.2
        have hk1 := isAt_len ht
        have h4 := letterS_le s sbL sqL (k1 + 1) (by omega)
        simp only [if_true]
        obtain ⟨q, hq⟩ : ∃ q, letterS s sbL sqL (k1 + 1) = q := ⟨_, rfl⟩
        rw [hq] at h4 ⊢
        obtain ⟨ok2, c2, k2⟩ := q
        simp only at h4 ⊢
        cases ok2
        · show k ≤ k2; omega
        simp only [if_true]
        split
        · show k ≤ k1 + 1; omega
        · show k ≤ k2; omega
      obtain ⟨r, hr⟩ : ∃ r, itemS s k = r := ⟨_, rfl⟩
      rw [hr] at hi hlow ⊢
      obtain ⟨ok, c, d, k1⟩ := r
      simp only at hi hlow ⊢
      cases ok
      · exact ⟨hi.1, hlow⟩
      · have := setF_le f k1 (fun x => p x || inR c.toNat d.toNat x) hi.1
        exact ⟨this.1, Nat.le_trans hlow this.2⟩
    · have := isAt_len h1
      exact ⟨by show k + 1 ≤ _; omega, by show k ≤ k + 1; omega⟩
theorem setS_le {s : List UInt8} {k : Nat} (h : k ≤ s.length) : (setS s k).2.2 ≤ s.length ∧ k ≤ (setS s k).2.2 := by
  unfold setS
  obtain ⟨k1, hk1, h1, h2⟩ : ∃ k1, (if isAt s k 94 then k + 1 else k) = k1 ∧ k1 ≤ s.length ∧ k ≤ k1 := by
    cases e : isAt s k 94
    · exact ⟨k, rfl, h, Nat.le_refl _⟩
    · exact ⟨k + 1, rfl, isAt_len e, by omega⟩
  simp only [hk1]
  have hi := setF_le 1 k1 (fun _ => false) h1
  rw [setF_s] at hi
  have h3 := itemS_le h1
  have hlow : k1 ≤ (itemS s k1).2.2.2 := by
    cases e : isAt s k1 93
    · rw [e] at hi
      cases e2 : (itemS s k1).1
      · rw [e2] at hi; exact hi.2
      · exact Nat.le_of_lt (h3.2 e2)
    · cases e2 : (itemS s k1).1
      · have h3' := letterS_le s sbL sqL k1 h1
        have : isAt s k1 92 = false := by
          unfold isAt at e ⊢
          have := of_decide_eq_true e
          rw [this]; rfl
        have hs : s[k1]? = some 93 := of_decide_eq_true e
        unfold itemS letterS
        simp [this, hs, amongB, sbL]
      · exact Nat.le_of_lt (h3.2 e2)
  cases e : (itemS s k1).1
  · simp only [Bool.false_eq_true, if_false]
    exact ⟨h3.1, by omega⟩
  · simp only [if_true]
    have := setF_le (s.length + 1) (itemS s k1).2.2.2 (fun x => false || inR (itemS s k1).2.1.toNat (itemS s k1).2.2.1.toNat x) h3.1
    exact ⟨this.1, by omega⟩
theorem atomS_le {s : List UInt8} {br : Nat → Bool × Nd × Nat} {k : Nat} (hb : BrLe s br) (h : k ≤ s.length) : (atomS s br k).2.2 ≤ s.length ∧ k ≤ (atomS s br k).2.2 ∧ ((atomS s br k).1 = true → k < (atomS s br k).2.2) := by
  unfold atomS
  cases h1 : isAt s k 46
  · cases h2 : isAt s k 40
    · cases h3 : isAt s k 91
      · have hl := letterS_le s spL bsL k h
        have ho := letter_on (s := s) (a := spL) (b := bsL) (k := k)
        simp only [Bool.false_eq_true, if_false]
        cases e : (letterS s spL bsL k).1
        · exact ⟨hl.1, hl.2, fun e => by cases e⟩
        · exact ⟨hl.1, hl.2, fun _ => ho e⟩
      · have hk := isAt_len h3
        have := setS_le (s := s) (k := k + 1) (by omega)
        simp only [Bool.false_eq_true, if_false, if_true]
        exact ⟨this.1, by omega, fun _ => by omega⟩
    · have hk := isAt_len h2
      have hb1 := hb (k + 1) (by omega)
      simp only [Bool.false_eq_true, if_false, if_true]
      cases e : (br (k + 1)).1
      · simp only [Bool.false_eq_true, if_false]
        exact ⟨hb1.1, by omega, fun e => by cases e⟩
      · simp only [if_true]
        cases e2 : isAt s (br (k + 1)).2.2 41
        · simp only [Bool.false_eq_true, if_false]
          exact ⟨hb1.1, by omega, fun e => by cases e⟩
        · have := isAt_len e2
          simp only [if_true]
          exact ⟨by omega, by omega, fun _ => by omega⟩
  · have := isAt_len h1
    simp only [if_true]
    exact ⟨by omega, by omega, fun _ => by omega⟩
theorem pieceS_le {s : List UInt8} {br : Nat → Bool × Nd × Nat} {k : Nat} (hb : BrLe s br) (h : k ≤ s.length) : (pieceS s br k).2.2 ≤ s.length ∧ k ≤ (pieceS s br k).2.2 ∧ ((pieceS s br k).1 = true → k < (pieceS s br k).2.2) := by
  have ha := atomS_le hb h
  unfold pieceS
  obtain ⟨r, hr⟩ : ∃ r, atomS s br k = r := ⟨_, rfl⟩
  rw [hr] at ha ⊢
  obtain ⟨ok, n, k1⟩ := r
  simp only at ha ⊢
  cases ok
  · exact ⟨ha.1, ha.2.1, fun e => by cases e⟩
  have h2 := ha.2.2 rfl
  simp only [if_true]
  cases e1 : isAt s k1 42
  · cases e2 : isAt s k1 43
    · cases e3 : isAt s k1 63
      · exact ⟨ha.1, ha.2.1, fun _ => h2⟩
      · have := isAt_len e3
        exact ⟨by show k1 + 1 ≤ _; omega, by show k ≤ k1 + 1; omega, fun _ => by show k < k1 + 1; omega⟩
    · have := isAt_len e2
      exact ⟨by show k1 + 1 ≤ _; omega, by show k ≤ k1 + 1; omega, fun _ => by show k < k1 + 1; omega⟩
  · have := isAt_len e1
    exact ⟨by show k1 + 1 ≤ _; omega, by show k ≤ k1 + 1; omega, fun _ => by show k < k1 + 1; omega⟩
theorem piecesF_le {s : List UInt8} {br : Nat → Bool × Nd × Nat} (hb : BrLe s br) : ∀ (f k : Nat) (acc : List Nd), k ≤ s.length → (piecesF s br f k acc).2.2 ≤ s.length ∧ k ≤ (piecesF s br f k acc).2.2
  | 0, k, acc, h => ⟨h, Nat.le_refl _⟩
  | f + 1, k, acc, h => by
    have hp := pieceS_le hb h
    unfold piecesF
    cases e : goesOn s k
    · exact ⟨h, Nat.le_refl _⟩
    · simp only [if_true]
      cases e2 : (pieceS s br k).1
      · exact ⟨hp.1, hp.2.1⟩
      · simp only [if_true]
        have := piecesF_le hb f (pieceS s br k).2.2 (acc ++ [(pieceS s br k).2.1]) hp.1
        exact ⟨this.1, by omega⟩
theorem altF_le {s : List UInt8} {br : Nat → Bool × Nd × Nat} (hb : BrLe s br) : ∀ (f k : Nat) (acc : List Nd), k ≤ s.length → (altF s br f k acc).2.2 ≤ s.length ∧ k ≤ (altF s br f k acc).2.2
  | 0, k, acc, h => ⟨h, Nat.le_refl _⟩
  | f + 1, k, acc, h => by
    have hp := piecesF_le hb (s.length + 1) k [] h
    unfold altF
    simp only
    cases e : (piecesF s br (s.length + 1) k []).1
    · exact hp
    · simp only [if_true]
      cases e2 : isAt s (piecesF s br (s.length + 1) k []).2.2 124
      · exact hp
      · have := isAt_len e2
        simp only [if_true]
        have := altF_le hb f ((piecesF s br (s.length + 1) k []).2.2 + 1) (acc ++ [.op 1 (piecesF s br (s.length + 1) k []).2.1]) (by omega)
        exact ⟨this.1, by omega⟩
theorem patS_le (s : List UInt8) : ∀ d, BrLe s (patS s d)
  | 0 => fun _ h => ⟨h, Nat.le_refl _⟩
  | d + 1 => fun k h => altF_le (patS_le s d) (s.length + 1) k [] h
end Go.Proofs.Ytnlfndhgdeapeaa
