/- Cut at a colon; Atoi of what Itoa tells. -/
import Derived.Test.YtegbenbhiadnbaaDoorBackMath
import Derived.Lib.AtoiAllCases
import Derived.Lib.IndexMore
namespace Go.Proofs.YtegbenbhiadnbaaDoor
open Go.RowKit Go.Sort
set_option maxRecDepth 100000
set_option maxHeartbeats 1000000

theorem idx_colon : ∀ s : List UInt8, (∃ D R, s = D ++ 58 :: R ∧ (∀ u ∈ D, u ≠ 58) ∧ Lib.index s [58] = (D.length : Int)) ∨ ((∀ u ∈ s, u ≠ 58) ∧ Lib.index s [58] = -1)
  | [] => .inr ⟨fun u hu => by simp at hu, rfl⟩
  | b :: l => by
    by_cases hb : b = 58
    · subst hb
      exact .inl ⟨[], l, rfl, fun u hu => by simp at hu, by simp [Lib.index]⟩
    · have hp : ([58] : List UInt8).isPrefixOf (b :: l) = false := by simp [List.isPrefixOf, Ne.symm hb]
      rcases idx_colon l with ⟨D, R, h1, h2, h3⟩ | ⟨h1, h2⟩
      · refine .inl ⟨b :: D, R, by rw [h1]; rfl, fun u hu => ?_, ?_⟩
        · rcases List.mem_cons.1 hu with rfl | hu
          · exact hb
          · exact h2 u hu
        · rw [Lib.index, hp, h3]
          have : ((D.length : Int) == -1) = false := by simp
          simp [this]
      · refine .inr ⟨fun u hu => ?_, ?_⟩
        · rcases List.mem_cons.1 hu with rfl | hu
          · exact hb
          · exact h1 u hu
        · rw [Lib.index, hp, h2]; rfl
theorem cut_colon (s : List UInt8) : (∃ D R, s = D ++ 58 :: R ∧ (∀ u ∈ D, u ≠ 58) ∧ Lib.cut s [58] = (D, R, true)) ∨ ((∀ u ∈ s, u ≠ 58) ∧ Lib.cut s [58] = (s, [], false)) := by
  rcases idx_colon s with ⟨D, R, h1, h2, h3⟩ | ⟨h1, h2⟩
  · refine .inl ⟨D, R, h1, h2, ?_⟩
    unfold Lib.cut
    rw [h3, if_pos (by omega)]
    subst h1
    simp
  · refine .inr ⟨h1, ?_⟩
    unfold Lib.cut
    rw [h2, if_neg (by omega)]
def fD (a : Nat) (c : UInt8) : Nat := 10 * a + (c.toNat - 48)
theorem fold_ge : ∀ (l : List UInt8) (a : Nat), a ≤ l.foldl fD a
  | [], _ => Nat.le_refl _
  | c :: l, a => Nat.le_trans (by unfold fD; omega) (fold_ge l (fD a c))
theorem pu_dig : ∀ (l : List UInt8) (a : Nat), (∀ c ∈ l, isDg c) → l.foldl fD a ≤ 1000000000000000000 → Lib.parseUint10 a l = .ok (l.foldl fD a)
  | [], _, _, _ => rfl
  | c :: l, a, h, hb => by
    have hc := h c List.mem_cons_self
    have hg := fold_ge l (fD a c)
    rw [List.foldl_cons] at hb
    have e : a * 10 + (c.toNat - 48) = fD a c := by unfold fD; omega
    have h1 : fD a c ≤ 1000000000000000000 := Nat.le_trans hg hb
    have h2 : 10 * a ≤ fD a c := by unfold fD; omega
    unfold Lib.parseUint10
    rw [if_pos (show 48 ≤ c.toNat ∧ c.toNat ≤ 57 from hc), e, if_neg (by omega), if_neg (by omega), List.foldl_cons]
    exact pu_dig l _ (fun d hd => h d (List.mem_cons_of_mem _ hd)) hb
theorem dec_ne (m : Nat) : Lib.decDigits m ≠ [] := by
  rw [Lib.decDigits]
  split <;> simp
theorem atoi_dec (m : Nat) (h : m ≤ 1000000000000000000) : Lib.atoiAll (Lib.decDigits m) = .ok (m : Int) := by
  have hv := valD_dec m
  have hd := dec_digit m
  have hne := dec_ne m
  obtain ⟨D, hD⟩ : ∃ D, Lib.decDigits m = D := ⟨_, rfl⟩
  rw [hD] at hv hd hne ⊢
  cases D with
  | nil => exact absurd rfl hne
  | cons c r =>
    have hc := hd c List.mem_cons_self
    have hp : Lib.parseMag (c :: r) = .ok m := by
      unfold Lib.parseMag
      rw [if_neg (by simp), pu_dig (c :: r) 0 hd (by show valD (c :: r) ≤ _; rw [hv]; exact h)]
      show Lib.NumEnd.ok (valD (c :: r)) = _
      rw [hv]
    rw [Lib.atoiAll_plain c r (by omega) (by omega), hp]
    unfold Lib.signless
    simp only
    rw [if_neg (by omega)]
/-- what stands ahead of the colon of a piece -/
theorem piece_cut {s D R : List UInt8} (hs : s = D ++ 58 :: R) (hD : ∀ u ∈ D, u ≠ 58) {t r : List UInt8} (h : s = pieceK t ++ r) : D = Lib.decDigits t.length ∧ R = t ++ r := by
  rw [hs] at h
  unfold pieceK at h
  simp only [List.append_assoc, List.cons_append, List.nil_append] at h
  exact split_at (p := fun u => u ≠ 58) (by simp) hD (fun u hu e => by have := dec_digit _ u hu; rw [e] at this; simp at this) h
theorem piece_colon {s : List UInt8} (h1 : ∀ u ∈ s, u ≠ 58) (t r : List UInt8) : s ≠ pieceK t ++ r := fun h => by
  refine h1 58 ?_ rfl
  rw [h]; simp [pieceK]
end Go.Proofs.YtegbenbhiadnbaaDoor
