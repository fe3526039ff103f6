/- Right, the reference's; Few, names. -/
import Derived.Test.YtnlfndhgdeapeaaRcomp
import Derived.Test.YtnlfndhgdeapeaaLLabMath
import Derived.Test.YtnlfndhgdeapeaaLLabs
namespace Go.Proofs.Ytnlfndhgdeapeaa
open Go.RowKit
set_option maxRecDepth 100000
set_option maxHeartbeats 1000000

section
variable {s : List UInt8} {br br' : Nat → Bool × Nd × Nat}
/-! more fuel, the same answer -/
def LeB (br br' : Nat → Bool × Nd × Nat) : Prop := ∀ k, (br k).1 = true → br' k = br k
theorem atomS_mono (h : LeB br br') {k : Nat} (e : (atomS s br k).1 = true) : atomS s br' k = atomS s br k := by
  unfold atomS at e ⊢
  by_cases h1 : isAt s k 46 = true
  · rw [if_pos h1, if_pos h1]
  rw [if_neg h1] at e
  rw [if_neg h1, if_neg h1]
  by_cases h2 : isAt s k 40 = true
  · rw [if_pos h2] at e
    rw [if_pos h2, if_pos h2]
    by_cases h3 : (br (k + 1)).1 = true
    · rw [h _ h3]
    · rw [if_neg h3] at e
      cases e
  · rw [if_neg h2, if_neg h2]
theorem pieceS_mono (h : LeB br br') {k : Nat} (e : (pieceS s br k).1 = true) : pieceS s br' k = pieceS s br k := by
  rw [(pieceS_at s br k).1] at e
  unfold pieceS
  rw [atomS_mono h e]
theorem piecesF_mono (h : LeB br br') : ∀ (f k : Nat) (acc : List Nd), (piecesF s br f k acc).1 = true → piecesF s br' f k acc = piecesF s br f k acc
  | 0, _, _, e => rfl
  | f + 1, k, acc, e => by
    rw [piecesF_s] at e
    rw [piecesF_s, piecesF_s]
    by_cases h1 : goesOn s k = true
    · rw [if_pos h1] at e
      rw [if_pos h1, if_pos h1]
      by_cases h2 : (pieceS s br k).1 = true
      · rw [if_pos h2] at e
        rw [pieceS_mono h h2, if_pos h2, if_pos h2]
        exact piecesF_mono h f _ _ e
      · rw [if_neg h2] at e
        cases e
    · rw [if_neg h1, if_neg h1]
theorem altF_mono (h : LeB br br') : ∀ (f k : Nat) (acc : List Nd), (altF s br f k acc).1 = true → altF s br' f k acc = altF s br f k acc
  | 0, _, _, e => rfl
  | f + 1, k, acc, e => by
    rw [altF_s] at e
    rw [altF_s, altF_s]
    by_cases h1 : (piecesF s br (s.length + 1) k []).1 = true
    · rw [if_pos h1] at e
      rw [piecesF_mono h _ _ _ h1, if_pos h1, if_pos h1]
      by_cases h2 : isAt s (piecesF s br (s.length + 1) k []).2.2 124 = true
      · rw [if_pos h2] at e
        rw [if_pos h2, if_pos h2]
        exact altF_mono h f _ _ e
      · rw [if_neg h2, if_neg h2]
    · rw [if_neg h1] at e
      cases e
theorem patS_s (s : List UInt8) (n k : Nat) : patS s (n + 1) k = ((altF s (patS s n) (s.length + 1) k []).1, .op 2 (altF s (patS s n) (s.length + 1) k []).2.1, (altF s (patS s n) (s.length + 1) k []).2.2) := rfl
theorem patS_mono (s : List UInt8) : ∀ n, LeB (patS s n) (patS s (n + 1))
  | 0, k, e => by cases e
  | n + 1, k, e => by
    rw [patS_s s (n + 1), patS_s s n]
    rw [patS_s s n] at e
    rw [altF_mono (patS_mono s n) _ _ _ e]
theorem patS_more (s : List UInt8) (n k : Nat) (e : (patS s n k).1 = true) : ∀ m, patS s (n + m) k = patS s n k
  | 0 => rfl
  | m + 1 => by
    have ih := patS_more s n k e m
    rw [show n + (m + 1) = (n + m) + 1 by omega, patS_mono s (n + m) k (by rw [ih]; exact e), ih]

/-! fuel beyond what is left of the text does nothing -/
def AgB (s : List UInt8) (br br' : Nat → Bool × Nd × Nat) (k : Nat) : Prop := ∀ j, k < j → j ≤ s.length → br j = br' j
theorem at_lt {k : Nat} {c : UInt8} (h : isAt s k c = true) : k < s.length := (List.getElem?_eq_some_iff.1 (of_decide_eq_true h)).1
theorem atomS_cong {k : Nat} (h : AgB s br br' k) : atomS s br k = atomS s br' k := by
  unfold atomS
  by_cases h2 : isAt s k 40 = true
  · have := at_lt h2
    rw [h (k + 1) (by omega) (by omega)]
  · rw [if_neg h2, if_neg h2]
theorem pieceS_cong {k : Nat} (h : AgB s br br' k) : pieceS s br k = pieceS s br' k := by
  unfold pieceS
  rw [atomS_cong h]
theorem AgB.on {k j : Nat} (h : AgB s br br' k) (hj : k ≤ j) : AgB s br br' j := fun i h1 h2 => h i (by omega) h2
theorem piecesF_cong (hb : BrLe s br) : ∀ (f k : Nat) (acc : List Nd), k ≤ s.length → AgB s br br' k → piecesF s br f k acc = piecesF s br' f k acc
  | 0, _, _, _, _ => rfl
  | f + 1, k, acc, hk, h => by
    rw [piecesF_s, piecesF_s, ← pieceS_cong h]
    have hl := pieceS_le hb hk
    by_cases h1 : goesOn s k = true
    · rw [if_pos h1, if_pos h1]
      by_cases h2 : (pieceS s br k).1 = true
      · rw [if_pos h2, if_pos h2]
        exact piecesF_cong hb f _ _ hl.1 (h.on hl.2.1)
      · rw [if_neg h2, if_neg h2]
    · rw [if_neg h1, if_neg h1]
theorem altF_cong (hb : BrLe s br) : ∀ (f k : Nat) (acc : List Nd), k ≤ s.length → AgB s br br' k → altF s br f k acc = altF s br' f k acc
  | 0, _, _, _, _ => rfl
  | f + 1, k, acc, hk, h => by
    rw [altF_s, altF_s, ← piecesF_cong hb _ _ _ hk h]
    have hl := piecesF_le hb (s.length + 1) k [] hk
    by_cases h1 : (piecesF s br (s.length + 1) k []).1 = true
    · rw [if_pos h1, if_pos h1]
      by_cases h2 : isAt s (piecesF s br (s.length + 1) k []).2.2 124 = true
      · rw [if_pos h2, if_pos h2]
        have := at_lt h2
        exact altF_cong hb f _ _ (by omega) (h.on (by omega))
      · rw [if_neg h2, if_neg h2]
    · rw [if_neg h1, if_neg h1]
theorem patS_enough (s : List UInt8) : ∀ (n k : Nat), k ≤ s.length → s.length - k < n → patS s n k = patS s (n + 1) k
  | 0, k, _, h => by omega
  | n + 1, k, hk, h => by
    rw [patS_s s n, patS_s s (n + 1), altF_cong (patS_le s n) _ _ _ hk (fun j h1 h2 => patS_enough s n j h2 (by omega))]
theorem patS_full (s : List UInt8) (n : Nat) (h : s.length < n) : ∀ m, patS s (n + m) 0 = patS s n 0
  | 0 => rfl
  | m + 1 => by
    rw [show n + (m + 1) = (n + m) + 1 by omega, ← patS_enough s (n + m) 0 (Nat.zero_le _) (by omega), patS_full s n h m]
theorem rOK_read {s : List UInt8} (h : rOK s = true) : (readS s).1 = true ∧ (readS s).2.2 = s.length := by
  unfold rOK at h
  simp only [Bool.and_eq_true, decide_eq_true_eq] at h
  unfold readS
  rcases Nat.lt_or_ge s.length 41 with hl | hl
  · have := patS_full s (s.length + 1) (by omega) (40 - s.length)
    rw [show s.length + 1 + (40 - s.length) = 41 by omega] at this
    rw [← this]
    exact h
  · have := patS_more s 41 0 h.1 (s.length + 1 - 41)
    rw [show 41 + (s.length + 1 - 41) = s.length + 1 by omega] at this
    rw [this]
    exact h

/-! the scan for brackets that stand too deep -/
theorem td_at {k : Nat} {c : UInt8} (h : s[k]? = some c) (d : Nat) (i : Bool) : tdS (s.drop k) k d i =
    (if c = 92 then tdS (s.drop (k + 2)) (k + 2) d i
    else if i then tdS (s.drop (k + 1)) (k + 1) d (decide (c ≠ 93))
    else if c = 91 then tdS (s.drop (k + 1)) (k + 1) d true
    else if c = 40 then (if d = 40 then some k else tdS (s.drop (k + 1)) (k + 1) (d + 1) i)
    else if c = 41 then tdS (s.drop (k + 1)) (k + 1) (d - 1) i
    else tdS (s.drop (k + 1)) (k + 1) d i) := by
  obtain ⟨hk, rfl⟩ := List.getElem?_eq_some_iff.1 h
  exact tdS_step hk d i
/-- in the text from k to e nothing stands too deep, out of sets; within one -/
def Sc (s : List UInt8) (d k e : Nat) : Prop := tdS (s.drop k) k d false = tdS (s.drop e) e d false
def Si (s : List UInt8) (d k e : Nat) : Prop := tdS (s.drop k) k d true = tdS (s.drop e) e d true
theorem sc_plain {k d : Nat} {c : UInt8} (h : isAt s k c = true) (h1 : c ≠ 92) (h2 : c ≠ 91) (h3 : c ≠ 40) (h4 : c ≠ 41) : Sc s d k (k + 1) := by
  unfold Sc
  rw [td_at (of_decide_eq_true h), if_neg h1, if_neg (by simp), if_neg h2, if_neg h3, if_neg h4]
theorem si_plain {k d : Nat} {c : UInt8} (h : isAt s k c = true) (h1 : c ≠ 92) (h2 : c ≠ 93) : Si s d k (k + 1) := by
  unfold Si
  rw [td_at (of_decide_eq_true h), if_neg h1, if_pos rfl, decide_eq_true h2]
theorem letter_form {a b : List UInt8} {k : Nat} (h : (letterS s a b k).1 = true) : (s[k]? = some 92 ∧ (letterS s a b k).2.2 = k + 2) ∨ (∃ c, s[k]? = some c ∧ c ≠ 92 ∧ amongB a c = false ∧ (letterS s a b k).2.2 = k + 1) := by
  unfold letterS at h ⊢
  cases hst : isAt s k 92
  · rw [hst] at h
    simp only [Bool.false_eq_true, if_false] at h ⊢
    cases e : s[k]? with
    | none => rw [e] at h; cases h
    | some c =>
      rw [e] at h
      simp only at h ⊢
      right
      refine ⟨c, rfl, fun h9 => ?_, ?_, ?_⟩
      · subst h9
        have := of_decide_eq_false hst
        exact this e
      · cases e2 : amongB a c
        · rfl
        · rw [e2] at h; simp at h
      · cases e2 : amongB a c
        · rfl
        · rw [e2] at h; simp at h
  · rw [hst] at h
    simp only [if_true] at h ⊢
    left
    refine ⟨of_decide_eq_true hst, ?_⟩
    cases e : s[k + 1]? with
    | none => rw [e] at h; cases h
    | some c =>
      rw [e] at h
      simp only at h ⊢
      cases e2 : amongB b c
      · rw [e2] at h; simp at h
      · rfl
theorem sc_letter {k d : Nat} (h : (letterS s spL bsL k).1 = true) : Sc s d k (letterS s spL bsL k).2.2 := by
  unfold Sc
  rcases letter_form h with ⟨h1, h2⟩ | ⟨c, h1, h2, h3, h4⟩
  · rw [h2, td_at h1, if_pos rfl]
  · rw [h4, td_at h1, if_neg h2, if_neg (by simp), if_neg (by rintro rfl; exact absurd h3 (by decide)), if_neg (by rintro rfl; exact absurd h3 (by decide)), if_neg (by rintro rfl; exact absurd h3 (by decide))]
theorem si_letter {k d : Nat} (h : (letterS s sbL sqL k).1 = true) : Si s d k (letterS s sbL sqL k).2.2 := by
  unfold Si
  rcases letter_form h with ⟨h1, h2⟩ | ⟨c, h1, h2, h3, h4⟩
  · rw [h2, td_at h1, if_pos rfl]
  · rw [h4, td_at h1, if_neg h2, if_pos rfl, decide_eq_true (by rintro rfl; exact absurd h3 (by decide))]
theorem si_item {k d : Nat} (h : (itemS s k).1 = true) : Si s d k (itemS s k).2.2.2 := by
  have hi := itemE_eq s k
  unfold itemE at hi
  rw [if_pos h] at hi
  by_cases h1 : (letterS s sbL sqL k).1 = true
  · rw [if_pos h1] at hi
    have s1 := si_letter (d := d) h1
    by_cases h2 : isAt s (letterS s sbL sqL k).2.2 45 = true
    · rw [if_pos h2] at hi
      have s2 := si_plain (d := d) h2 (by decide) (by decide)
      by_cases h3 : (letterS s sbL sqL ((letterS s sbL sqL k).2.2 + 1)).1 = true
      · rw [if_pos h3] at hi
        split at hi
        · cases hi
        · rw [Option.some.inj hi]
          exact s1.trans (s2.trans (si_letter h3))
      · rw [if_neg h3] at hi; cases hi
    · rw [if_neg h2] at hi
      rw [Option.some.inj hi]
      exact s1
  · rw [if_neg h1] at hi; cases hi
theorem si_set : ∀ (f k d : Nat) (p : Nat → Bool), (setF s f k p).1 = true → tdS (s.drop k) k d true = tdS (s.drop (setF s f k p).2.2) (setF s f k p).2.2 d false
  | 0, k, d, p, h => by cases h
  | f + 1, k, d, p, h => by
    rw [setF_s] at h ⊢
    by_cases h1 : isAt s k 93 = true
    · rw [if_pos h1]
      simp only
      rw [td_at (of_decide_eq_true h1), if_neg (by decide), if_pos rfl, decide_eq_false (by simp)]
    · rw [if_neg h1] at h ⊢
      by_cases h2 : (itemS s k).1 = true
      · rw [if_pos h2] at h ⊢
        exact (si_item h2).trans (si_set f _ d _ h)
      · rw [if_neg h2] at h; cases h
theorem sc_set {k d : Nat} (h0 : isAt s k 91 = true) (h : (setS s (k + 1)).1 = true) : Sc s d k (setS s (k + 1)).2.2 := by
  unfold Sc
  rw [td_at (of_decide_eq_true h0), if_neg (by decide), if_neg (by simp), if_pos rfl]
  have key : tdS (s.drop (k + 1)) (k + 1) d true = tdS (s.drop (if isAt s (k + 1) 94 then k + 1 + 1 else k + 1)) (if isAt s (k + 1) 94 then k + 1 + 1 else k + 1) d true := by
    by_cases h1 : isAt s (k + 1) 94 = true
    · rw [if_pos h1]
      exact si_plain h1 (by decide) (by decide)
    · rw [if_neg h1]
  rw [key]
  unfold setS at h ⊢
  simp only at h ⊢
  by_cases h2 : (itemS s (if isAt s (k + 1) 94 then k + 1 + 1 else k + 1)).1 = true
  · rw [if_pos h2] at h ⊢
    exact (si_item h2).trans (si_set _ _ d _ h)
  · rw [if_neg h2] at h; cases h
def DpB (s : List UInt8) (br : Nat → Bool × Nd × Nat) (d : Nat) : Prop := ∀ j, (br j).1 = true → d < 40 ∧ Sc s (d + 1) j (br j).2.2
theorem sc_atom {k d : Nat} (hD : DpB s br d) (h : (atomS s br k).1 = true) : Sc s d k (atomS s br k).2.2 := by
  unfold atomS at h ⊢
  by_cases h1 : isAt s k 46 = true
  · rw [if_pos h1]
    exact sc_plain h1 (by decide) (by decide) (by decide) (by decide)
  rw [if_neg h1] at h ⊢
  by_cases h2 : isAt s k 40 = true
  · rw [if_pos h2] at h ⊢
    by_cases h3 : (br (k + 1)).1 = true
    · rw [if_pos h3] at h ⊢
      by_cases h4 : isAt s (br (k + 1)).2.2 41 = true
      · rw [if_pos h4]
        obtain ⟨hd, hs⟩ := hD _ h3
        unfold Sc at hs ⊢
        rw [td_at (of_decide_eq_true h2), if_neg (by decide), if_neg (by simp), if_neg (by decide), if_pos rfl, if_neg (by omega), hs]
        rw [td_at (of_decide_eq_true h4), if_neg (by decide), if_neg (by simp), if_neg (by decide), if_neg (by decide), if_pos rfl]
        rfl
      · rw [if_neg h4] at h; cases h
    · rw [if_neg h3] at h; cases h
  · rw [if_neg h2] at h ⊢
    by_cases h3 : isAt s k 91 = true
    · rw [if_pos h3] at h ⊢
      exact sc_set h3 h
    · rw [if_neg h3] at h ⊢
      by_cases h4 : (letterS s spL bsL k).1 = true
      · rw [if_pos h4]
        exact sc_letter h4
      · rw [if_neg h4] at h; cases h
theorem sc_piece {k d : Nat} (hD : DpB s br d) (h : (pieceS s br k).1 = true) : Sc s d k (pieceS s br k).2.2 := by
  have hp := pieceS_at s br k
  rw [hp.1] at h
  have ha := sc_atom hD h
  rw [hp.2 h]
  by_cases hs : (isAt s (atomS s br k).2.2 42 || isAt s (atomS s br k).2.2 43 || isAt s (atomS s br k).2.2 63) = true
  · rw [if_pos hs]
    simp only [Bool.or_eq_true] at hs
    rcases hs with (hs | hs) | hs
    · exact ha.trans (sc_plain hs (by decide) (by decide) (by decide) (by decide))
    · exact ha.trans (sc_plain hs (by decide) (by decide) (by decide) (by decide))
    · exact ha.trans (sc_plain hs (by decide) (by decide) (by decide) (by decide))
  · rw [if_neg hs]
    exact ha
theorem sc_pieces {d : Nat} (hD : DpB s br d) : ∀ (f k : Nat) (acc : List Nd), (piecesF s br f k acc).1 = true → Sc s d k (piecesF s br f k acc).2.2
  | 0, k, acc, h => by cases h
  | f + 1, k, acc, h => by
    rw [piecesF_s] at h ⊢
    by_cases h1 : goesOn s k = true
    · rw [if_pos h1] at h ⊢
      by_cases h2 : (pieceS s br k).1 = true
      · rw [if_pos h2] at h ⊢
        exact (sc_piece hD h2).trans (sc_pieces hD f _ _ h)
      · rw [if_neg h2] at h; cases h
    · rw [if_neg h1]
      rfl
theorem sc_alt {d : Nat} (hD : DpB s br d) : ∀ (f k : Nat) (acc : List Nd), (altF s br f k acc).1 = true → Sc s d k (altF s br f k acc).2.2
  | 0, k, acc, h => by cases h
  | f + 1, k, acc, h => by
    rw [altF_s] at h ⊢
    by_cases h1 : (piecesF s br (s.length + 1) k []).1 = true
    · rw [if_pos h1] at h ⊢
      have hp := sc_pieces hD _ _ _ h1
      by_cases h2 : isAt s (piecesF s br (s.length + 1) k []).2.2 124 = true
      · rw [if_pos h2] at h ⊢
        exact hp.trans ((sc_plain h2 (by decide) (by decide) (by decide) (by decide)).trans (sc_alt hD f _ _ h))
      · rw [if_neg h2]
        exact hp
    · rw [if_neg h1] at h; cases h
theorem sc_pat (s : List UInt8) : ∀ (n d k : Nat), d + n = 40 → (patS s (n + 1) k).1 = true → Sc s d k (patS s (n + 1) k).2.2
  | 0, d, k, _, h => by
    rw [patS_s] at h ⊢
    exact sc_alt (br := patS s 0) (fun j hj => by cases hj) _ _ _ h
  | n + 1, d, k, hd, h => by
    rw [patS_s] at h ⊢
    exact sc_alt (br := patS s (n + 1)) (fun j hj => ⟨by omega, sc_pat s n (d + 1) j (by omega) hj⟩) _ _ _ h
theorem rOK_calm {s : List UInt8} (h : rOK s = true) : tdS s 0 0 false = none := by
  unfold rOK at h
  simp only [Bool.and_eq_true, decide_eq_true_eq] at h
  have := sc_pat s 40 0 0 rfl h.1
  unfold Sc at this
  rw [h.2, List.drop_length] at this
  exact this
/-- what the reference reads is a pattern of the program's -/
theorem rOK_tree {s : List UInt8} (h : rOK s = true) (hl : s.length ≤ 4096) : ∃ t, treeS s = .inl t := by
  obtain ⟨h1, h2⟩ := rOK_read h
  refine ⟨(readS s).2.1, treeS_inl hl (rOK_calm h) ?_⟩
  obtain ⟨r, hr⟩ : ∃ r, readS s = r := ⟨_, rfl⟩
  rw [hr] at h1 h2 ⊢
  obtain ⟨a, b, c⟩ := r
  simp only at h1 h2
  rw [h1, h2]
end
end Go.Proofs.Ytnlfndhgdeapeaa
namespace Go.Proofs.Ytnlfndhgdeapeaa
open Go.RowKit
set_option maxRecDepth 100000
set_option maxHeartbeats 1000000

/-! Few -/
def fewP (l : List Lb) : Prop := l.length ≤ 80 ∧ ∀ x ∈ l, x.1.size ≤ 400 ∧ x.2.size ≤ 2000
instance (l : List Lb) : Decidable (fewP l) := by unfold fewP; infer_instance
def fewTo (l : List Lb) (k : Nat) : Prop := ∀ i x, i < k → l[i]? = some x → x.1.size ≤ 400 ∧ x.2.size ≤ 2000
theorem fewTo_end {l : List Lb} (h : fewTo l l.length) (hl : l.length ≤ 80) : decide (fewP l) = true := by
  rw [decide_eq_true_eq]
  refine ⟨hl, fun x hx => ?_⟩
  obtain ⟨i, hi, rfl⟩ := List.getElem_of_mem hx
  exact h i _ hi (List.getElem?_eq_getElem hi)
theorem fewTo_not {l : List Lb} {k : Nat} (hk : k < l.length) (h : 400 < (l[k]).1.size ∨ 2000 < (l[k]).2.size) : decide (fewP l) = false := by
  rw [decide_eq_false_iff_not]
  intro hf
  have := hf.2 _ (List.getElem_mem hk)
  omega
theorem fewTo_s {l : List Lb} {k : Nat} (hk : k < l.length) (h : fewTo l k) (h1 : (l[k]).1.size ≤ 400) (h2 : (l[k]).2.size ≤ 2000) : fewTo l (k + 1) := by
  intro i x hi hx
  by_cases e : i = k
  · subst e; rw [List.getElem?_eq_getElem hk] at hx; cases hx; exact ⟨h1, h2⟩
  · exact h i x (by omega) hx
theorem few_any (A : Option Addr) (l : List Lb) (c : Nat) (w : World) (h : LabsAt w A l) (hw : Wd l) (hl : l.length ≤ 1099511627776) :
    Calls Try.prog 18 #[.slice A l.length c] w fun e w' => e = .returned (.bool (decide (fewP l))) ∧ w = w' := by
  have HL := Lib.hid h; have HW := Lib.hid hw
  clear h hw
  by_cases h80 : 80 < l.length
  · have H : Hid (decide (fewP l) = false) := Lib.hid (by rw [decide_eq_false_iff_not]; intro hf; have := hf.1; omega)
    go_enter Try.func18, Try.ntmps18
    go_wp2
    go_ret
    exact ⟨by rw [H.out]; rfl, rfl⟩
  have h80 : l.length ≤ 80 := by omega
  go_enter Try.func18, Try.ntmps18
  go_wp2
  go_loop [3] (fun i => ∃ k : Nat, k ≤ l.length ∧ i = .int .i64 k ∧ Hid (fewTo l k)) (fun i => l.length - (intOf i).toNat)
  case atStart => exact ⟨0, Nat.zero_le _, rfl, fun i x hi => absurd hi (by omega)⟩
  case round =>
    obtain ⟨k, hk, rfl, HU⟩ := hrel
    by_cases hlt : k < l.length
    · obtain ⟨b, o, rfl, c1, c2, -⟩ := HL.out.at_ hlt
      have hn := HW.out _ (List.getElem_mem hlt)
      obtain ⟨x, hx⟩ : ∃ x, l[k] = x := ⟨_, rfl⟩
      have out : (400 < x.1.size ∨ 2000 < x.2.size) → Hid (decide (fewP l) = false) := fun h => fewTo_not hlt (by rw [hx]; exact h)
      have outy : x.1.size ≤ 400 → x.2.size ≤ 2000 → Hid (fewTo l (k + 1)) := fun h1 h2 => fewTo_s hlt HU.out (by rw [hx]; exact h1) (by rw [hx]; exact h2)
      have OUT := Lib.hid out; have OUTY := Lib.hid outy
      rw [hx] at c1 c2 hn
      clear hx out outy
      obtain ⟨nm, vl⟩ := x
      obtain ⟨hn1, hn2⟩ := hn
      simp only at hn1 hn2 c1 c2
      unfold maxLen at hn1 hn2
      by_cases g1 : nm.size ≤ 400
      · by_cases g2 : vl.size ≤ 2000
        · have HN := OUTY.out g1 g2
          go_wp2
          go_round
          case rel => exact ⟨k + 1, by omega, by go_num, HN⟩
          case measure => simp [intOf]; omega
        · have HN := OUT.out (.inr (by show 2000 < vl.size; omega))
          go_wp2
          go_ret
          exact ⟨by rw [HN.out]; rfl, rfl⟩
      · have HN := OUT.out (.inl (by show 400 < nm.size; omega))
        go_wp2
        go_ret
        exact ⟨by rw [HN.out]; rfl, rfl⟩
    · obtain rfl : k = l.length := by omega
      have H := Lib.hid (fewTo_end HU.out h80)
      go_wp2
      go_ret
      exact ⟨by rw [H.out]; rfl, rfl⟩
theorem few_big (A : Option Addr) (n c : Nat) (w : World) (h : 80 < n) (hn : n ≤ maxLen) :
    Calls Try.prog 18 #[.slice A n c] w fun e w' => e = .returned (.bool false) ∧ w = w' := by
  unfold maxLen at hn
  go_enter Try.func18, Try.ntmps18
  go_wp2
  go_ret
  exact ⟨rfl, rfl⟩
end Go.Proofs.Ytnlfndhgdeapeaa
