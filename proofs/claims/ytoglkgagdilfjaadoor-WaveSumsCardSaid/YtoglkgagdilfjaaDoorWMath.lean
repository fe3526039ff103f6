/- Whole numbers: what their turning sum comes to; what a turn does to them. -/
import Derived.Test.YtoglkgagdilfjaaDoorWSums
namespace Go.Proofs.YtoglkgagdilfjaaDoor
open Go.RowKit Flo
set_option maxRecDepth 100000

theorem is_nan {x : Nat} {a : Int} (h : Is x a) : nanB x = false := by rw [nanB_key]; exact h.num
theorem is_canon {x : Nat} {a : Int} (h : Is x a) : canon x = x := canon_num (is_nan h)
theorem is_neg {x : Nat} {a : Int} (h : Is x a) : Is (neg x) (-a) := by
  refine ⟨neg_lt x h.lt, by rw [neg_rung x h.lt]; exact h.fin, ?_⟩
  unfold zv
  rw [neg_rung x h.lt, neg_sgn x h.lt, sv_not, Int.neg_mul, ← h.eq]; rfl
theorem is_cneg {x : Nat} {a : Int} (h : Is x a) : Is (cneg x) (-a) := by
  have := is_neg h
  unfold cneg; rw [is_canon this]; exact this
theorem is_addC {x y : Nat} {a b : Int} (hx : Is x a) (hy : Is y b) (hab : (a + b).natAbs < 2 ^ 53) : Is (addC x y) (a + b) := by
  obtain ⟨r, h1, h2⟩ := is_add hx hy hab
  unfold addC; rw [h1]; show Is (canon r) _; rw [is_canon h2]; exact h2
theorem is_subC {x y : Nat} {a b : Int} (hx : Is x a) (hy : Is y b) (hab : (a - b).natAbs < 2 ^ 53) : Is (subC x y) (a - b) := by
  obtain ⟨r, h1, h2⟩ := is_sub hx hy hab
  unfold subC; rw [h1]; show Is (canon r) _; rw [is_canon h2]; exact h2
theorem is_mulC {x y : Nat} {a b : Int} (hx : Is x a) (hy : Is y b) (hab : (a * b).natAbs < 2 ^ 53) : Is (mulC x y) (a * b) := by
  obtain ⟨r, h1, h2⟩ := is_mul hx hy hab
  unfold mulC; rw [h1]; show Is (canon r) _; rw [is_canon h2]; exact h2
theorem is_of (n : Int) (h : n.natAbs < 2 ^ 53) : Is (floatOfInt .f64 n) n := is_ofInt n h

/-- the turning sum of whole numbers -/
def sumI (x : Nat → Int) : Nat → Int × Int
  | 0 => (0, 0)
  | k + 1 => if k % 4 = 0 then ((sumI x k).1 + x k, (sumI x k).2) else if k % 4 = 1 then ((sumI x k).1, (sumI x k).2 + x k) else if k % 4 = 2 then ((sumI x k).1 - x k, (sumI x k).2) else ((sumI x k).1, (sumI x k).2 - x k)
theorem sumI_bd (x : Nat → Int) (hx : ∀ j, -32768 ≤ x j ∧ x j ≤ 32768) (k : Nat) : -(32768 * k : Int) ≤ (sumI x k).1 ∧ (sumI x k).1 ≤ 32768 * k ∧ -(32768 * k : Int) ≤ (sumI x k).2 ∧ (sumI x k).2 ≤ 32768 * k := by
  induction k with
  | zero => simp [sumI]
  | succ k ih =>
    have := hx k
    unfold sumI
    split
    · simp only; omega
    · split
      · simp only; omega
      · split <;> (simp only; omega)
theorem sum_is (x : Nat → Int) (hx : ∀ j, -32768 ≤ x j ∧ x j ≤ 32768) (k : Nat) (hk : k ≤ 1000) :
    Is (sumF (fun j => floatOfInt .f64 (x j)) k).1 (sumI x k).1 ∧ Is (sumF (fun j => floatOfInt .f64 (x j)) k).2 (sumI x k).2 := by
  induction k with
  | zero => rw [sumF_z]; exact ⟨is_zero, is_zero⟩
  | succ k ih =>
    obtain ⟨i1, i2⟩ := ih (by omega)
    have hb := sumI_bd x hx k
    have hxk := hx k
    have hf : Is (floatOfInt .f64 (x k)) (x k) := is_of _ (by omega)
    rcases (by omega : k % 4 = 0 ∨ k % 4 = 1 ∨ k % 4 = 2 ∨ k % 4 = 3) with h | h | h | h
    · rw [sumF_0 h, show sumI x (k + 1) = ((sumI x k).1 + x k, (sumI x k).2) by rw [sumI, if_pos h]]
      exact ⟨is_addC i1 hf (by omega), i2⟩
    · rw [sumF_1 h, show sumI x (k + 1) = ((sumI x k).1, (sumI x k).2 + x k) by rw [sumI, if_neg (by omega), if_pos h]]
      exact ⟨i1, is_addC i2 hf (by omega)⟩
    · rw [sumF_2 h, show sumI x (k + 1) = ((sumI x k).1 - x k, (sumI x k).2) by rw [sumI, if_neg (by omega), if_neg (by omega), if_pos h]]
      exact ⟨is_subC i1 hf (by omega), i2⟩
    · rw [sumF_3 h, show sumI x (k + 1) = ((sumI x k).1, (sumI x k).2 - x k) by rw [sumI, if_neg (by omega), if_neg (by omega), if_neg (by omega)]]
      exact ⟨i1, is_subC i2 hf (by omega)⟩
/-- one behind the other -/
def cat {α : Type} (n : Nat) (x y : Nat → α) (j : Nat) : α := if j < n then x j else y (j - n)
theorem sumI_ext (x y : Nat → Int) (k : Nat) (h : ∀ j, j < k → x j = y j) : sumI x k = sumI y k := by
  induction k with
  | zero => rfl
  | succ k ih => unfold sumI; rw [ih fun j hj => h j (by omega), h k (by omega)]
theorem sumI_cat (x y : Nat → Int) (n m : Nat) (h4 : n % 4 = 0) : sumI (cat n x y) (n + m) = ((sumI x n).1 + (sumI y m).1, (sumI x n).2 + (sumI y m).2) := by
  induction m with
  | zero =>
    rw [Nat.add_zero, sumI_ext (cat n x y) x n fun j hj => by unfold cat; rw [if_pos hj]]
    simp [sumI]
  | succ m ih =>
    have e1 : cat n x y (n + m) = y m := by unfold cat; rw [if_neg (by omega)]; congr 1; omega
    have e2 : (n + m) % 4 = m % 4 := by omega
    rw [show n + (m + 1) = (n + m) + 1 from rfl, sumI, ih, e1, e2, sumI]
    generalize (sumI x n).1 = A
    generalize (sumI x n).2 = B
    generalize (sumI y m).1 = C
    generalize (sumI y m).2 = D
    split
    · exact Prod.ext (by simp only; omega) rfl
    · split
      · exact Prod.ext rfl (by simp only; omega)
      · split
        · exact Prod.ext (by simp only; omega) rfl
        · exact Prod.ext rfl (by simp only; omega)
/-- whole numbers turned -/
def tRI (k : Nat) (a b : Int) : Int := match k with | 0 => a | 1 => -b | 2 => -a | _ => b
def tII (k : Nat) (a b : Int) : Int := match k with | 0 => b | 1 => a | 2 => -b | _ => -a
theorem turn_is {r i : Nat} {a b : Int} (hr : Is r a) (hi : Is i b) (k : Nat) : Is (tR k r i) (tRI k a b) ∧ Is (tI k r i) (tII k a b) := by
  have c1 := is_canon hr
  have c2 := is_canon hi
  unfold tR tI tRI tII
  rcases (by omega : k = 0 ∨ k = 1 ∨ k = 2 ∨ 3 ≤ k) with rfl | rfl | rfl | h
  · exact ⟨by simp only [c1]; exact hr, by simp only [c2]; exact hi⟩
  · exact ⟨is_cneg hi, by simp only [c1]; exact hr⟩
  · exact ⟨is_cneg hr, is_cneg hi⟩
  · obtain ⟨j, rfl⟩ : ∃ j, k = j + 3 := ⟨k - 3, by omega⟩
    exact ⟨by simp only [c2]; exact hi, is_cneg hr⟩
theorem mag_is {r i : Nat} {a b : Int} (hr : Is r a) (hi : Is i b) (ha : a.natAbs ≤ 20000000) (hb : b.natAbs ≤ 20000000) : Is (magV r i) (a * a + b * b) := by
  have e1 : (a * a).natAbs ≤ 20000000 * 20000000 := by rw [Int.natAbs_mul]; exact Nat.mul_le_mul ha ha
  have e2 : (b * b).natAbs ≤ 20000000 * 20000000 := by rw [Int.natAbs_mul]; exact Nat.mul_le_mul hb hb
  exact is_addC (is_mulC hr hr (by omega)) (is_mulC hi hi (by omega)) (by omega)
theorem turn_sq (k : Nat) (a b : Int) : tRI k a b * tRI k a b + tII k a b * tII k a b = a * a + b * b := by
  unfold tRI tII
  rcases (by omega : k = 0 ∨ k = 1 ∨ k = 2 ∨ 3 ≤ k) with rfl | rfl | rfl | h
  · rfl
  · simp only [Int.neg_mul, Int.mul_neg, Int.neg_neg]; omega
  · simp only [Int.neg_mul, Int.mul_neg, Int.neg_neg]
  · obtain ⟨j, rfl⟩ : ∃ j, k = j + 3 := ⟨k - 3, by omega⟩
    simp only [Int.neg_mul, Int.mul_neg, Int.neg_neg]; omega
theorem turn_bd (k : Nat) (a b : Int) (h : a.natAbs ≤ 20000000) (g : b.natAbs ≤ 20000000) : (tRI k a b).natAbs ≤ 20000000 ∧ (tII k a b).natAbs ≤ 20000000 := by
  unfold tRI tII
  rcases (by omega : k = 0 ∨ k = 1 ∨ k = 2 ∨ 3 ≤ k) with rfl | rfl | rfl | h
  · exact ⟨h, g⟩
  · exact ⟨by simp only; omega, h⟩
  · exact ⟨by simp only; omega, by simp only; omega⟩
  · obtain ⟨j, rfl⟩ : ∃ j, k = j + 3 := ⟨k - 3, by omega⟩
    exact ⟨g, by simp only; omega⟩
theorem is_ord {x y : Nat} {a b : Int} (hx : Is x a) (hy : Is y b) : eqB x y = decide (a = b) ∧ ltB x y = decide (a < b) ∧ gtB x y = decide (b < a) := by
  have h : FloatKind.f64.format.order x y = some (compare a b) := is_order hx hy
  unfold eqB ltB gtB
  rw [h]
  simp only [compare, compareOfLessAndEq]
  by_cases h1 : a < b
  · rw [if_pos h1, decide_eq_false (by omega : ¬ a = b), decide_eq_true h1, decide_eq_false (by omega : ¬ b < a)]; decide
  · rw [if_neg h1, decide_eq_false h1]
    by_cases h2 : a = b
    · rw [if_pos h2, decide_eq_true h2, decide_eq_false (by omega : ¬ b < a)]; decide
    · rw [if_neg h2, decide_eq_false h2, decide_eq_true (by omega : b < a)]; decide
/-- the quarter in which whole numbers stand -/
def quI (a b : Int) : Nat := if a = 0 ∧ b = 0 then 0 else if 0 < a ∧ 0 ≤ b then 0 else if 0 < b ∧ a ≤ 0 then 1 else if a < 0 ∧ b ≤ 0 then 2 else 3
theorem qu_is {r i : Nat} {a b : Int} (hr : Is r a) (hi : Is i b) : quV r i = quI a b := by
  obtain ⟨e1, l1, g1⟩ := is_ord hr is_zero
  obtain ⟨e2, l2, g2⟩ := is_ord hi is_zero
  unfold quV quI
  rw [is_nan hr, is_nan hi, e1, l1, g1, e2, l2, g2]
  simp only [Bool.false_or, Bool.and_eq_true, Bool.or_eq_true, decide_eq_true_eq]
  (repeat' split) <;> first | rfl | omega
theorem quI_turn (k : Nat) (a b : Int) (hk : k < 4) (h : ¬ (a = 0 ∧ b = 0)) : quI (tRI k a b) (tII k a b) = (quI a b + k) % 4 := by
  rcases (by omega : k = 0 ∨ k = 1 ∨ k = 2 ∨ k = 3) with rfl | rfl | rfl | rfl
  all_goals
    simp only [tRI, tII, quI]
    (repeat' split) <;> first | rfl | omega
end Go.Proofs.YtoglkgagdilfjaaDoor
