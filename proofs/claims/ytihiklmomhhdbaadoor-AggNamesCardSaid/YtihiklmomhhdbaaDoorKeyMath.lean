/- Keys: one to one; the order's mirror. -/
import Derived.Test.YtihiklmomhhdbaaDoorKey
import Derived.Test.YtihiklmomhhdbaaDoorCmp
namespace Go.Proofs.YtihiklmomhhdbaaDoor
open Go.RowKit Go.Sort
set_option maxRecDepth 100000
set_option maxHeartbeats 1000000

/-! decimal numbers -/
theorem dec_digit : ∀ n, ∀ c ∈ Lib.decDigits n, 48 ≤ c.toNat ∧ c.toNat ≤ 57 := by
  intro n
  induction n using Nat.strongRecOn with
  | ind n ih =>
    intro c hc
    rw [Lib.decDigits] at hc
    split at hc
    · simp at hc; subst hc; simp; omega
    · rcases List.mem_append.1 hc with hc | hc
      · exact ih (n / 10) (by omega) c hc
      · simp at hc; subst hc; simp; omega
def valD (l : List UInt8) : Nat := l.foldl (fun a c => 10 * a + (c.toNat - 48)) 0
theorem valD_dec : ∀ n, valD (Lib.decDigits n) = n := by
  intro n
  induction n using Nat.strongRecOn with
  | ind n ih =>
    rw [Lib.decDigits]
    split
    · simp [valD]; omega
    · have := ih (n / 10) (by omega)
      unfold valD at this ⊢
      rw [List.foldl_append, this]
      simp
      omega
theorem dec_inj {a b : Nat} (h : Lib.decDigits a = Lib.decDigits b) : a = b := by rw [← valD_dec a, h, valD_dec]
/-- what stands ahead of a byte that is none of its own is told by the whole -/
theorem split_at {p : UInt8 → Prop} {a b x y : List UInt8} {c : UInt8} (hc : ¬ p c) (ha : ∀ u ∈ a, p u) (hb : ∀ u ∈ b, p u) (h : a ++ c :: x = b ++ c :: y) : a = b ∧ x = y := by
  induction a generalizing b with
  | nil =>
    cases b with
    | nil => simpa using h
    | cons u b => simp at h; exact absurd (h.1 ▸ hb u List.mem_cons_self) hc
  | cons v a ih =>
    cases b with
    | nil => simp at h; exact absurd (h.1 ▸ ha v List.mem_cons_self) hc
    | cons u b =>
      simp only [List.cons_append, List.cons.injEq] at h
      obtain ⟨e1, e2⟩ := ih (fun u hu => ha u (List.mem_cons_of_mem _ hu)) (fun u hu => hb u (List.mem_cons_of_mem _ hu)) h.2
      exact ⟨by rw [h.1, e1], e2⟩
theorem piece_inj {a b x y : List UInt8} (h : pieceK a ++ x = pieceK b ++ y) : a = b ∧ x = y := by
  unfold pieceK at h
  simp only [List.append_assoc, List.cons_append, List.nil_append] at h
  obtain ⟨e1, e2⟩ := split_at (p := fun c => 48 ≤ c.toNat ∧ c.toNat ≤ 57) (by decide) (dec_digit _) (dec_digit _) h
  have hl := dec_inj e1
  exact List.append_inj e2 hl
theorem piece_ne (a x : List UInt8) : pieceK a ++ x ≠ [] := by unfold pieceK; simp
theorem bytes_ext {a b : ByteArray} (h : a.data.toList = b.data.toList) : a = b := by
  cases a; cases b; simp only at h; congr 1; exact Array.toList_inj.1 h
theorem keyL_cons (x : Lb) (l : List Lb) : keyL (x :: l) = pieceK x.1.data.toList ++ (pieceK x.2.data.toList ++ keyL l) := by simp [keyL]
/-- a key that goes on from another's is of a list that goes on from the other's -/
theorem key_goes_on : ∀ (a l : List Lb) (r : List UInt8), keyL l = keyL a ++ r → ∃ b, l = a ++ b ∧ r = keyL b
  | [], l, r, h => ⟨l, rfl, by rw [h]; rfl⟩
  | x :: a, [], r, h => by
    rw [keyL_cons, List.append_assoc] at h
    exact absurd h.symm (piece_ne _ _)
  | x :: a, y :: l, r, h => by
    rw [keyL_cons, keyL_cons] at h
    simp only [List.append_assoc] at h
    obtain ⟨e1, h⟩ := piece_inj h
    obtain ⟨e2, h⟩ := piece_inj h
    obtain ⟨b, rfl, hb⟩ := key_goes_on a l r h
    refine ⟨b, ?_, hb⟩
    have : y = x := Prod.ext (bytes_ext e1) (bytes_ext e2)
    rw [this]; rfl
theorem keyL_inj {a b : List Lb} (h : keyL a = keyL b) : a = b := by
  obtain ⟨c, rfl, hc⟩ := key_goes_on b a [] (by rw [h, List.append_nil])
  cases c with
  | nil => simp
  | cons x c => rw [keyL_cons] at hc; exact absurd hc.symm (piece_ne _ _)

/-! the order's mirror -/
theorem cmpL_mirror (x y : Lb) : cmpL y x = - cmpL x y := by
  unfold cmpL
  by_cases e : x = y
  · rw [if_pos e, if_pos e.symm]; rfl
  · rw [if_neg e, if_neg (Ne.symm e)]
    have key : lbLt y x = !lbLt x y := by
      cases h1 : lbLt x y <;> cases h2 : lbLt y x
      · exact absurd (lbLt_tri h1 h2) e
      · rfl
      · rfl
      · have := lbLt_trans h1 h2; rw [lbLt_irrefl] at this; cases this
    rw [key]
    cases lbLt x y <;> rfl
theorem cmpLs_mirror : ∀ (a b : List Lb), cmpLs b a = - cmpLs a b
  | [], [] => rfl
  | [], _ :: _ => rfl
  | _ :: _, [] => rfl
  | x :: r, y :: s => by
    have ih := cmpLs_mirror r s
    have h := cmpL_mirror x y
    unfold cmpLs
    rw [h]
    by_cases e : cmpL x y = 0
    · rw [if_pos e, if_pos (by omega)]; exact ih
    · rw [if_neg e, if_neg (by omega)]
theorem key_cmp (a b : List Lb) : decide (keyL a = keyL b) = decide (cmpLs a b = 0) := by
  rw [decide_eq_decide, cmpLs_0_iff]
  exact ⟨keyL_inj, fun h => by rw [h]⟩
end Go.Proofs.YtihiklmomhhdbaaDoor
