/- What Unquote reads: step by step. -/
import Derived.Test.YtegbenbhiadnbaaDoorQuote
import Derived.Lib.IndexEntry
namespace Go.Proofs.YtegbenbhiadnbaaDoor
open Go.RowKit Go.Sort
set_option maxRecDepth 100000
set_option maxHeartbeats 2000000

def hexV (c : Nat) : Int := if 48 ≤ c ∧ c ≤ 57 then (c : Int) - 48 else if 97 ≤ c ∧ c ≤ 102 then (c : Int) - 87 else -1
def hexB (a b : UInt8) : Option UInt8 :=
  if hexV a.toNat < 0 ∨ hexV b.toNat < 0 then none else if prnI (16 * hexV a.toNat + hexV b.toNat) then none else some (UInt8.ofNat (16 * hexV a.toNat + hexV b.toNat).toNat)
def spellL : List UInt8 → Option (UInt8 × Nat)
  | [] => none
  | c :: r =>
    if c.toNat = 34 ∨ prnI c.toNat = false then none
    else if c.toNat ≠ 92 then some (c, 1)
    else match r with
      | [] => none
      | d :: r' => if d.toNat = 92 ∨ d.toNat = 34 then some (d, 2) else if d.toNat = 120 then (match r' with | a :: b :: _ => (hexB a b).map fun x => (x, 4) | _ => none) else none
def unqL : Nat → List UInt8 → List UInt8 → Nat → Option (List UInt8 × Nat)
  | 0, _, _, _ => none
  | f + 1, l, acc, k => match spellL l with
    | some (c, n) => unqL f (l.drop n) (acc ++ [c]) (k + n)
    | none => if l.head?.map (·.toNat) = some 34 then some (acc, k + 1) else none
def unquoteL (l : List UInt8) : Option (List UInt8 × Nat) := if l.head?.map (·.toNat) = some 34 then unqL (l.length + 1) (l.drop 1) [] 1 else none

theorem hexV_hexD : ∀ q : Fin 16, hexV (hexD q.val).toNat = (q.val : Int) := by decide +kernel
theorem toNat_eq {c : UInt8} {n : Nat} (h : c.toNat = n) : c = UInt8.ofNat n := by rw [← h]; simp
theorem spell_q (c : UInt8) (r : List UInt8) : spellL (qB c ++ r) = some (c, (qB c).length) := by
  unfold qB
  by_cases h1 : c.toNat = 92 ∨ c.toNat = 34
  · rw [if_pos h1]
    have e : prnI 92 = true := by decide
    simp only [List.cons_append, List.nil_append, spellL]
    rw [if_neg (by simp [e]), if_neg (by simp), if_pos h1]; rfl
  · rw [if_neg h1]
    cases h2 : prnI (c.toNat : Int)
    · have hc := c.toNat_lt
      have e : prnI 92 = true := by decide
      have g1 := hexV_hexD ⟨c.toNat / 16, by omega⟩
      have g2 := hexV_hexD ⟨c.toNat % 16, by omega⟩
      simp only at g1 g2
      have hs : 16 * ((c.toNat / 16 : Nat) : Int) + ((c.toNat % 16 : Nat) : Int) = (c.toNat : Int) := by omega
      have hx : hexB (hexD (c.toNat / 16)) (hexD (c.toNat % 16)) = some c := by
        unfold hexB
        rw [g1, g2, if_neg (by omega), hs, h2]
        simp
      simp only [Bool.false_eq_true, if_false, List.cons_append, List.nil_append, spellL]
      rw [if_neg (by simp [e]), if_neg (by simp), if_neg (by simp), if_pos (by simp), hx]; rfl
    · simp only [if_true, List.cons_append, List.nil_append, spellL]
      rw [if_neg (by simp [h2]; omega), if_pos (by omega)]; rfl
theorem unq_q : ∀ (s more acc : List UInt8) (f k : Nat), (s.flatMap qB ++ 34 :: more).length < f → unqL f (s.flatMap qB ++ 34 :: more) acc k = some (acc ++ s, k + (s.flatMap qB).length + 1)
  | [], more, acc, 0, k, h => absurd h (by omega)
  | [], more, acc, f + 1, k, h => by
    have : spellL (34 :: more) = none := by simp [spellL]
    simp [unqL, this]
  | c :: s, more, acc, 0, k, h => absurd h (by omega)
  | c :: s, more, acc, f + 1, k, h => by
    have e : (c :: s).flatMap qB ++ 34 :: more = qB c ++ (s.flatMap qB ++ 34 :: more) := by simp
    rw [e] at h ⊢
    have h1 := spell_q c (s.flatMap qB ++ 34 :: more)
    have h2 := qB_len c
    rw [List.length_append] at h
    simp only [unqL, h1]
    rw [List.drop_left, unq_q s more (acc ++ [c]) f (k + (qB c).length) (by omega)]
    simp [List.flatMap_cons]; omega
theorem unquote_quote (s more : List UInt8) : unquoteL (quoteL s ++ more) = some (s, (quoteL s).length) := by
  have e : quoteL s ++ more = 34 :: (s.flatMap qB ++ 34 :: more) := by simp [quoteL]
  unfold unquoteL
  rw [e, if_pos (by simp)]
  rw [show (34 :: (s.flatMap qB ++ 34 :: more)).drop 1 = s.flatMap qB ++ 34 :: more from rfl, unq_q s more [] _ 1 (by simp; omega)]
  simp [quoteL]; omega

/-! by places -/
section
variable (s : ByteArray) (k : Nat)
theorem dk (h : k < s.size) : s.data.toList.drop k = s[k] :: s.data.toList.drop (k + 1) := drop_byte s k h
theorem sp_end (h : s.size ≤ k) : spellL (s.data.toList.drop k) = none := by rw [List.drop_of_length_le (by simpa using h)]; rfl
theorem sp_no (h : k < s.size) (h1 : s[k].toNat = 34 ∨ prnI s[k].toNat = false) : spellL (s.data.toList.drop k) = none := by
  rw [dk s k h]; simp only [spellL]; rw [if_pos h1]
theorem sp_1 (h : k < s.size) (h1 : ¬ (s[k].toNat = 34 ∨ prnI s[k].toNat = false)) (h2 : s[k].toNat ≠ 92) : spellL (s.data.toList.drop k) = some (s[k], 1) := by
  rw [dk s k h]; simp only [spellL]; rw [if_neg h1, if_pos h2]
theorem bs_ok : ¬ ((92 : Nat) = 34 ∨ prnI ((92 : Nat) : Int) = false) := by decide
theorem sp_e1 (h : k < s.size) (h1 : s[k].toNat = 92) (h2 : s.size ≤ k + 1) : spellL (s.data.toList.drop k) = none := by
  rw [dk s k h, List.drop_of_length_le (by simpa using h2)]
  simp only [spellL, h1]; rw [if_neg bs_ok, if_neg (by simp)]
theorem sp_2 (h : k + 1 < s.size) (h1 : s[k].toNat = 92) (h2 : s[k + 1].toNat = 92 ∨ s[k + 1].toNat = 34) : spellL (s.data.toList.drop k) = some (s[k + 1], 2) := by
  rw [dk s k (by omega), dk s (k + 1) h]
  simp only [spellL, h1]; rw [if_neg bs_ok, if_neg (by simp), if_pos h2]
theorem sp_ex (h : k + 1 < s.size) (h1 : s[k].toNat = 92) (h2 : ¬ (s[k + 1].toNat = 92 ∨ s[k + 1].toNat = 34)) (h3 : s.size ≤ k + 3 ∨ s[k + 1].toNat ≠ 120) : spellL (s.data.toList.drop k) = none := by
  rw [dk s k (by omega), dk s (k + 1) h]
  simp only [spellL, h1]; rw [if_neg bs_ok, if_neg (by simp), if_neg h2]
  by_cases hx : s[k + 1].toNat = 120
  · rw [if_pos hx]
    have hs : s.size ≤ k + 3 := by rcases h3 with h3 | h3; exact h3; exact absurd hx h3
    by_cases h4 : k + 2 < s.size
    · rw [dk s (k + 1 + 1) (by omega), List.drop_of_length_le (by simp; omega)]
    · rw [List.drop_of_length_le (by simp; omega)]
  · rw [if_neg hx]
theorem sp_h (h : k + 3 < s.size) (h1 : s[k].toNat = 92) (h2 : s[k + 1].toNat = 120) : spellL (s.data.toList.drop k) = (hexB s[k + 2] s[k + 3]).map fun x => (x, 4) := by
  rw [dk s k (by omega), dk s (k + 1) (by omega), dk s (k + 1 + 1) (by omega), dk s (k + 1 + 1 + 1) (by omega)]
  simp only [spellL, h1, h2]; rw [if_neg bs_ok, if_neg (by simp), if_neg (by simp), if_pos (by simp)]
theorem unq_some {f : Nat} {acc : List UInt8} {c : UInt8} {n : Nat} (h : spellL (s.data.toList.drop k) = some (c, n)) : unqL (f + 1) (s.data.toList.drop k) acc k = unqL f (s.data.toList.drop (k + n)) (acc ++ [c]) (k + n) := by
  simp only [unqL, h, List.drop_drop]
theorem unq_none {f : Nat} {acc : List UInt8} (h : k < s.size) (h1 : spellL (s.data.toList.drop k) = none) : unqL (f + 1) (s.data.toList.drop k) acc k = if s[k].toNat = 34 then some (acc, k + 1) else none := by
  simp only [unqL, h1]
  rw [dk s k h]; simp
theorem unq_end {f : Nat} {acc : List UInt8} (h : s.size ≤ k) : unqL (f + 1) (s.data.toList.drop k) acc k = none := by
  simp only [unqL, sp_end s k h]
  rw [List.drop_of_length_le (by simpa using h)]; simp
end
end Go.Proofs.YtegbenbhiadnbaaDoor
