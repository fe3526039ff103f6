/- A key's piece: what the digits ahead tell. -/
import Derived.Test.YtegbenbhiadnbaaDoorKeyMath
namespace Go.Proofs.YtegbenbhiadnbaaDoor
open Go.RowKit Go.Sort
set_option maxRecDepth 100000
set_option maxHeartbeats 1000000

def isDg (c : UInt8) : Prop := 48 ≤ c.toNat ∧ c.toNat ≤ 57
/-- s begins with k digits -/
def DgTo (s : List UInt8) (k : Nat) : Prop := ∀ c ∈ s.take k, isDg c
theorem DgTo.zero (s : List UInt8) : DgTo s 0 := fun c h => by simp at h
theorem DgTo.step {s : List UInt8} {k : Nat} (h : DgTo s k) (hk : k < s.length) (g : isDg s[k]) : DgTo s (k + 1) := fun c hc => by
  rw [List.take_succ_eq_append_getElem hk] at hc
  rcases List.mem_append.1 hc with hc | hc
  · exact h c hc
  · simp at hc; subst hc; exact g
theorem valD_step {s : List UInt8} {k : Nat} (hk : k < s.length) : valD (s.take (k + 1)) = 10 * valD (s.take k) + (s[k].toNat - 48) := by
  rw [List.take_succ_eq_append_getElem hk]
  unfold valD
  rw [List.foldl_append]; rfl
theorem dec_long {m : Nat} (h : 4 < (Lib.decDigits m).length) : 9999 < m := by
  refine Nat.lt_of_not_le fun hm => ?_
  have key : ∀ k n, n < 10 ^ k → 0 < k → (Lib.decDigits n).length ≤ k := by
    intro k
    induction k with
    | zero => intro n _ h; omega
    | succ k ih =>
      intro n hn _
      rw [Lib.decDigits]
      by_cases h10 : n < 10
      · rw [dif_pos h10]; simp
      · rw [dif_neg h10, List.length_append, List.length_cons, List.length_nil]
        have hk : 0 < k := by
          rcases Nat.eq_zero_or_pos k with e | e
          · subst e; simp at hn; omega
          · exact e
        have := ih (n / 10) (by rw [Nat.pow_succ] at hn; omega) hk
        omega
  have := key 4 m (by omega) (by omega)
  omega
/-- where the digits of a piece end -/
theorem form_at {s : List UInt8} {k m : Nat} {x : List UInt8} (hf : s = Lib.decDigits m ++ 58 :: x) (hd : DgTo s k) : k ≤ (Lib.decDigits m).length := by
  refine Nat.le_of_not_lt fun hlt => ?_
  have hm : (58 : UInt8) ∈ s.take k := by
    rw [hf, List.take_append]
    refine List.mem_append.2 (.inr ?_)
    obtain ⟨j, hj⟩ : ∃ j, k - (Lib.decDigits m).length = j + 1 := ⟨k - (Lib.decDigits m).length - 1, by omega⟩
    rw [hj]; simp
  have := (hd _ hm).2
  simp at this
theorem form_dig {s : List UInt8} {k m : Nat} {x : List UInt8} (hf : s = Lib.decDigits m ++ 58 :: x) (h : k < (Lib.decDigits m).length) : ∃ hk : k < s.length, isDg s[k] := by
  subst hf
  refine ⟨by simp; omega, ?_⟩
  rw [List.getElem_append_left h]
  exact dec_digit _ _ (List.getElem_mem h)
theorem form_end {s : List UInt8} {k m : Nat} {x : List UInt8} (hf : s = Lib.decDigits m ++ 58 :: x) (h : k = (Lib.decDigits m).length) : (∃ hk : k < s.length, s[k] = 58) ∧ s.take k = Lib.decDigits m ∧ x.length + k + 1 = s.length := by
  subst hf h
  refine ⟨⟨by simp, ?_⟩, by simp, by simp; omega⟩
  rw [List.getElem_append_right (Nat.le_refl _)]; simp
theorem piece_form {s t r : List UInt8} (h : s = pieceK t ++ r) : s = Lib.decDigits t.length ++ 58 :: (t ++ r) := by rw [h]; simp [pieceK]
/-- no piece: the text is at its end -/
theorem no_1 {s : List UInt8} {k : Nat} (hd : DgTo s k) (hk : s.length ≤ k) : ∀ t r, s ≠ pieceK t ++ r := fun t r h => by
  have hf := piece_form h
  have h1 := form_at hf hd
  have h2 : s.length = (Lib.decDigits t.length).length + (t.length + r.length + 1) := by rw [hf]; simp
  omega
/-- no short piece: another byte stands where the colon should -/
theorem no_2 {s : List UInt8} {k : Nat} (hd : DgTo s k) (hk : k < s.length) (hc : s[k] ≠ 58) (h4 : k < 4 → ¬ isDg s[k]) (hk4 : k ≤ 4) : ∀ t r, s = pieceK t ++ r → 9999 < t.length := fun t r h => by
  have hf := piece_form h
  have h1 := form_at hf hd
  rcases Nat.lt_or_eq_of_le h1 with h1 | h1
  · by_cases e : k < 4
    · obtain ⟨_, g⟩ := form_dig hf h1
      exact absurd g (h4 e)
    · exact dec_long (by omega)
  · obtain ⟨⟨_, g⟩, _⟩ := form_end hf h1
    exact absurd g hc
theorem is_3 {s t r : List UInt8} {k : Nat} (hd : DgTo s k) (hk : k < s.length) (hc : s[k] = 58) (h : s = pieceK t ++ r) : s.take k = Lib.decDigits t.length ∧ valD (s.take k) = t.length ∧ t.length + k + 1 ≤ s.length := by
  have hf := piece_form h
  have h1 := form_at hf hd
  rcases Nat.lt_or_eq_of_le h1 with h1 | h1
  · obtain ⟨_, g⟩ := form_dig hf h1
    rw [hc] at g
    exact absurd g.2 (by decide)
  · obtain ⟨_, g2, g3⟩ := form_end hf h1
    rw [List.length_append] at g3
    exact ⟨g2, by rw [g2, valD_dec], by omega⟩
/-- a piece -/
theorem is_piece {s : List UInt8} {k n : Nat} (hk : k < s.length) (hc : s[k] = 58) (hn : Lib.decDigits n = s.take k) (hl : n + k + 1 ≤ s.length) :
    s = pieceK ((s.drop (k + 1)).take n) ++ s.drop (k + 1 + n) ∧ ((s.drop (k + 1)).take n).length = n ∧ (pieceK ((s.drop (k + 1)).take n)).length = k + 1 + n := by
  have h1 : ((s.drop (k + 1)).take n).length = n := by simp; omega
  have h3 : (s.take k).length = k := by simp; omega
  refine ⟨?_, h1, by unfold pieceK; rw [h1, hn]; simp only [List.length_append, List.length_cons, List.length_nil, h1, h3]⟩
  unfold pieceK
  rw [h1, hn]
  have e1 : s = s.take k ++ s.drop k := (List.take_append_drop k s).symm
  have e2 : s.drop k = 58 :: s.drop (k + 1) := by rw [List.drop_eq_getElem_cons hk, hc]
  have e3 : s.drop (k + 1) = (s.drop (k + 1)).take n ++ s.drop (k + 1 + n) := by
    have := (List.take_append_drop n (s.drop (k + 1))).symm
    rwa [List.drop_drop] at this
  conv => lhs; rw [e1, e2, e3]
  simp
end Go.Proofs.YtegbenbhiadnbaaDoor
