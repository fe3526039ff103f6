/- A duration's text is read as the duration. No program. -/
import Derived.Test.YthjfmfacnknpfaaDoorTextW
namespace Go.Proofs.YthjfmfacnknpfaaDoor
open Go.RowKit

theorem ch_nat (k : Nat) (h : k < 10) : (UInt8.ofNat (48 + k)).toNat = 48 + k := by
  simp; omega
theorem dec_num (n : Nat) : numD 0 (Lib.decDigits n) = n ∧ ∀ x ∈ Lib.decDigits n, dgt x = true := by
  induction n using Nat.strongRecOn with
  | _ n ih =>
    rw [Lib.decDigits]
    by_cases h : n < 10
    · rw [dif_pos h]
      have e := ch_nat n h
      refine ⟨?_, ?_⟩
      · show 10 * 0 + ((UInt8.ofNat (48 + n)).toNat - 48) = n
        rw [e]; omega
      · intro x hx
        simp only [List.mem_singleton] at hx
        subst hx
        unfold dgt; rw [e]; simp; omega
    · rw [dif_neg h]
      obtain ⟨i1, i2⟩ := ih (n / 10) (by omega)
      have e := ch_nat (n % 10) (Nat.mod_lt _ (by omega))
      refine ⟨?_, ?_⟩
      · unfold numD at *
        rw [List.foldl_append, i1]
        show 10 * (n / 10) + ((UInt8.ofNat (48 + n % 10)).toNat - 48) = n
        rw [e]; omega
      · intro x hx
        rcases List.mem_append.1 hx with h1 | h1
        · exact i2 x h1
        · simp only [List.mem_singleton] at h1
          subst h1
          unfold dgt; rw [e]; simp; omega
theorem dec_ne (n : Nat) : Lib.decDigits n ≠ [] := by
  rw [Lib.decDigits]
  by_cases h : n < 10
  · rw [dif_pos h]; simp
  · rw [dif_neg h]; simp
theorem take_all {p : UInt8 → Bool} {a b : List UInt8} (h : ∀ x ∈ a, p x = true) (hb : ∀ x t, b = x :: t → p x = false) : (a ++ b).takeWhile p = a ∧ (a ++ b).dropWhile p = b := by
  induction a with
  | nil =>
    cases b with
    | nil => exact ⟨rfl, rfl⟩
    | cons x t =>
      have := hb x t rfl
      simp [this]
  | cons x a ih =>
    have hx := h x (by simp)
    obtain ⟨i1, i2⟩ := ih fun y hy => h y (by simp [hy])
    refine ⟨?_, ?_⟩
    · rw [List.cons_append, List.takeWhile_cons, hx]; simp [i1]
    · rw [List.cons_append, List.dropWhile_cons, hx]; simp [i2]
/-- a list that is empty or begins with a digit -/
def Beg (l : List UInt8) : Prop := ∀ x t, l = x :: t → dgt x = true
theorem unit_nd (j : Nat) (hj : j < 5) : unitName j ≠ [] ∧ ∀ x ∈ unitName j, ndg x = true := by
  rcases (by omega : j = 0 ∨ j = 1 ∨ j = 2 ∨ j = 3 ∨ j = 4) with rfl | rfl | rfl | rfl | rfl <;> exact ⟨by decide, by decide⟩
theorem parts_piece (n j next : Nat) (hj : j < 5) (hn : next ≤ j) (rest : List UInt8) (hr : Beg rest) :
    parts (Lib.decDigits n ++ unitName j ++ rest) next = (partsE rest (j + 1)).map (n * unitSize j + ·) := by
  obtain ⟨d1, d2⟩ := dec_num n
  obtain ⟨u1, u2⟩ := unit_nd j hj
  have hb : ∀ x t, unitName j ++ rest = x :: t → dgt x = false := by
    intro x t e
    have hx : x ∈ unitName j := by
      cases hu : unitName j with
      | nil => exact absurd hu u1
      | cons y ys =>
        rw [hu] at e
        have : y = x := by injection e
        rw [this]; simp
    have := u2 x hx
    simpa [ndg] using this
  obtain ⟨e1, e2⟩ := take_all (a := Lib.decDigits n) (b := unitName j ++ rest) d2 hb
  obtain ⟨e3, e4⟩ := take_all (p := ndg) (a := unitName j) (b := rest) u2 (fun x t e => by simp [ndg, hr x t e])
  rw [List.append_assoc]
  cases hl : Lib.decDigits n with
  | nil => exact absurd hl (dec_ne n)
  | cons c t =>
    have hc : dgt c = true := d2 c (by rw [hl]; simp)
    rw [List.cons_append, parts_dig hc, ← List.cons_append, ← hl]
    unfold partsD partsL
    rw [e1, e2, d1, List.nil_append, e3, e4]
    unfold partsS
    rw [findU_name j hj, if_pos hn]
    exact behind_E _ _ _
theorem beg_dec (n : Nat) (l : List UInt8) : Beg (Lib.decDigits n ++ l) := by
  intro x t e
  cases hl : Lib.decDigits n with
  | nil => exact absurd hl (dec_ne n)
  | cons c r =>
    rw [hl] at e
    have : c = x := by injection e
    rw [← this]
    exact (dec_num n).2 c (by rw [hl]; simp)
theorem beg_text : ∀ f d, Beg (textF f d)
  | 0, d => by intro x t e; cases e
  | f + 1, d => by
    show Beg (piece (4 - f) d ++ textF f (d % unitSize (4 - f)))
    unfold piece
    by_cases h : 0 < d / unitSize (4 - f)
    · rw [if_pos h, List.append_assoc]; exact beg_dec _ _
    · rw [if_neg h]; exact beg_text f _
theorem text_parts : ∀ f d next, f ≤ 5 → next ≤ 5 - f → partsE (textF f d) next = some (if f = 0 then 0 else d)
  | 0, d, next, _, _ => by simp [textF, partsE]
  | f + 1, d, next, hf, hn => by
    have hdm := Nat.div_add_mod d (unitSize (4 - f))
    have hrest : ∀ nx, nx ≤ 5 - f → partsE (textF f (d % unitSize (4 - f))) nx = some (d % unitSize (4 - f)) := by
      intro nx hnx
      rw [text_parts f _ nx (by omega) hnx]
      by_cases h0 : f = 0
      · subst h0
        have : unitSize (4 - 0) = 1 := rfl
        rw [if_pos rfl, this, Nat.mod_one]
      · rw [if_neg h0]
    show partsE (piece (4 - f) d ++ textF f (d % unitSize (4 - f))) next = some (if f + 1 = 0 then 0 else d)
    rw [if_neg (by omega)]
    unfold piece
    by_cases h : 0 < d / unitSize (4 - f)
    · rw [if_pos h]
      have hne : Lib.decDigits (d / unitSize (4 - f)) ++ unitName (4 - f) ++ textF f (d % unitSize (4 - f)) ≠ [] := by
        intro e
        simp at e
        exact dec_ne _ e.1
      unfold partsE
      rw [if_neg hne, parts_piece _ _ _ (by omega) (by omega) _ (beg_text f _)]
      have e5 : 4 - f + 1 = 5 - f := by omega
      rw [e5, hrest (5 - f) (Nat.le_refl _)]
      rw [Nat.mul_comm] at hdm
      simp only [Option.map_some, hdm]
    · rw [if_neg h, List.nil_append, hrest next (by omega)]
      have h0 : d / unitSize (4 - f) = 0 := Nat.eq_zero_of_not_pos h
      rw [h0] at hdm
      simp at hdm
      rw [hdm]
theorem len_le (n k : Nat) (h : n < 10 ^ (k + 1)) : (Lib.decDigits n).length ≤ k + 1 := by
  rw [Lib.decDigits_length]
  induction k generalizing n with
  | zero => rw [Lib.nDigits_small (by simpa using h)]; omega
  | succ f ih =>
    by_cases h1 : n < 10
    · rw [Lib.nDigits_small h1]; omega
    · rw [Lib.nDigits_big h1]
      have := ih (n / 10) (by rw [Nat.div_lt_iff_lt_mul (by omega)]; rw [Nat.pow_succ] at h; exact h)
      omega
theorem piece_len (j d k : Nat) (hj : j < 5) (h : d / unitSize j < 10 ^ (k + 1)) : (piece j d).length ≤ k + 3 := by
  unfold piece
  by_cases hc : 0 < d / unitSize j
  · rw [if_pos hc, List.length_append]
    have := len_le _ k h
    have : (unitName j).length ≤ 2 := by
      rcases (by omega : j = 0 ∨ j = 1 ∨ j = 2 ∨ j = 3 ∨ j = 4) with rfl | rfl | rfl | rfl | rfl <;> decide
    omega
  · rw [if_neg hc]; simp
theorem text_len (d : Nat) (h : d ≤ 1125899906842624) : (textD d).length ≤ 64 := by
  have e : textD d = piece 0 d ++ (piece 1 (d % 86400000) ++ (piece 2 (d % 86400000 % 3600000) ++ (piece 3 (d % 86400000 % 3600000 % 60000) ++ (piece 4 (d % 86400000 % 3600000 % 60000 % 1000) ++ [])))) := rfl
  rw [e]
  have h0 := piece_len 0 d 7 (by decide) (by show d / 86400000 < 100000000; omega)
  have h1 := piece_len 1 (d % 86400000) 7 (by decide) (by show d % 86400000 / 3600000 < 100000000; omega)
  have h2 := piece_len 2 (d % 86400000 % 3600000) 7 (by decide) (by show d % 86400000 % 3600000 / 60000 < 100000000; omega)
  have h3 := piece_len 3 (d % 86400000 % 3600000 % 60000) 7 (by decide) (by show d % 86400000 % 3600000 % 60000 / 1000 < 100000000; omega)
  have h4 := piece_len 4 (d % 86400000 % 3600000 % 60000 % 1000) 7 (by decide) (by show d % 86400000 % 3600000 % 60000 % 1000 / 1 < 100000000; omega)
  simp only [List.length_append, List.length_nil]
  omega
theorem back (d : Nat) (h1 : 1 ≤ d) (h2 : d ≤ 1125899906842624) : durO (textD d) = some d := by
  have ht := text_parts 5 d 0 (by omega) (by omega)
  rw [if_neg (by omega)] at ht
  unfold durO
  rw [if_neg (by have := text_len d h2; omega)]
  unfold partsE at ht
  by_cases hn : textF 5 d = []
  · rw [if_pos hn] at ht
    injection ht with ht
    omega
  · rw [if_neg hn] at ht; exact ht
theorem back_res (d : Nat) (h1 : 1 ≤ d) (h2 : d ≤ 1125899906842624) : resV (durO (textD d)) = d ∧ resE (durO (textD d)) = 0 := by
  rw [back d h1 h2]
  simp only [resV, resE]
  rw [if_pos ⟨h1, h2⟩, if_pos ⟨h1, h2⟩]
  exact ⟨rfl, rfl⟩
end Go.Proofs.YthjfmfacnknpfaaDoor
