/- Whole numbers in parts of a row: counts, sums, the least and the greatest; samples that rise by gaps. -/
import Derived.Test.YtjjfkjpkbpefpaaDoorVMath
namespace Go.Proofs.YtjjfkjpkbpefpaaDoor.Vn
open Go.RowKit
set_option maxRecDepth 100000

theorem is_cn {x : Nat} {n : Int} (h : Flo.Is x n) : canon x = x := canon_num (by rw [nanB_key]; exact h.num)
theorem is_addC {x y : Nat} {a b : Int} (hx : Flo.Is x a) (hy : Flo.Is y b) (h : (a + b).natAbs < 2 ^ 53) : Flo.Is (addC x y) (a + b) := by
  obtain ⟨r, hr, hi⟩ := Flo.is_add hx hy h
  unfold addC
  rw [hr]
  show Flo.Is (canon r) _
  rw [is_cn hi]; exact hi
/-- small whole numbers -/
def Small (J : List Int) : Prop := J.length ≤ 60 ∧ ∀ j ∈ J, -128 ≤ j ∧ j ≤ 128
theorem Small.tail {j : Int} {J : List Int} (h : Small (j :: J)) : Small J := ⟨by have := h.1; simp at this; omega, fun i hi => h.2 i (List.mem_cons_of_mem _ hi)⟩
theorem sum_bd : ∀ {J : List Int}, (∀ j ∈ J, -128 ≤ j ∧ j ≤ 128) → -(128 * (J.length : Int)) ≤ J.sum ∧ J.sum ≤ 128 * (J.length : Int)
  | [], _ => by simp
  | j :: J, h => by
    have h1 := sum_bd fun i hi => h i (List.mem_cons_of_mem _ hi)
    have h2 := h j (List.mem_cons_self ..)
    simp only [List.sum_cons, List.length_cons]
    omega
theorem is_sum : ∀ (J : List Int) (x : Nat) (a : Int), Flo.Is x a → (∀ j ∈ J, -128 ≤ j ∧ j ≤ 128) → J.length ≤ 60 → -100000 ≤ a - 128 * (J.length : Int) → a + 128 * (J.length : Int) ≤ 100000 → Flo.Is ((J.map Flo.ofI).foldl addC x) (a + J.sum)
  | [], x, a, h, _, _, _, _ => by simpa using h
  | j :: J, x, a, h, hj, hl, b1, b2 => by
    have h2 := hj j (List.mem_cons_self ..)
    simp only [List.length_cons] at hl b1 b2
    have h3 := is_addC h (Flo.ofI_is j (by omega)) (by omega)
    have h4 := is_sum J _ _ h3 (fun i hi => hj i (List.mem_cons_of_mem _ hi)) (by omega) (by omega) (by omega)
    rw [List.map_cons, List.foldl_cons, List.sum_cons, ← Int.add_assoc]
    exact h4
theorem sumL_is {J : List Int} (h : Small J) : Flo.Is (sumL (J.map Flo.ofI)) J.sum := by
  cases J with
  | nil => exact Flo.is_zero
  | cons j J =>
    have h2 := h.2 j (List.mem_cons_self ..)
    have h1 := h.1
    simp only [List.length_cons] at h1
    have h0 := Flo.ofI_is j (by omega)
    rw [List.sum_cons]
    show Flo.Is ((J.map Flo.ofI).foldl addC (canon (Flo.ofI j))) _
    rw [is_cn h0]
    exact is_sum J _ _ h0 (fun i hi => h.2 i (List.mem_cons_of_mem _ hi)) (by omega) (by omega) (by omega)
/-- the less, or the greater -/
def pickI (m : Bool) (a b : Int) : Int := if (if m then decide (a < b) else decide (b < a)) then b else a
theorem pickI_or (m : Bool) (a b : Int) : pickI m a b = a ∨ pickI m a b = b := by
  unfold pickI
  generalize (if m = true then decide (a < b) else decide (b < a)) = c
  cases c <;> simp
theorem pickI_assoc (m : Bool) (a b c : Int) : pickI m (pickI m a b) c = pickI m a (pickI m b c) := by
  unfold pickI
  cases m <;> simp only [Bool.false_eq_true, if_false, if_true, decide_eq_true_eq] <;> (repeat' split) <;> omega
theorem fold_pick (m : Bool) : ∀ (J : List Int) (a b : Int), J.foldl (pickI m) (pickI m a b) = pickI m a (J.foldl (pickI m) b)
  | [], _, _ => rfl
  | j :: J, a, b => by rw [List.foldl_cons, List.foldl_cons, pickI_assoc, fold_pick m J]
theorem is_ext {m : Bool} {x y : Nat} {a b : Int} (hx : Flo.Is x a) (hy : Flo.Is y b) : Flo.Is (extS m x y) (pickI m a b) := by
  have h1 : nanB x = false := by rw [nanB_key]; exact hx.num
  have ho : FloatKind.f64.format.order y x = some (compare b a) := Flo.is_order hy hx
  have h2 : ltB y x = decide (b < a) := by
    unfold ltB; rw [ho]
    rcases Int.lt_trichotomy b a with h | h | h
    · rw [decide_eq_true h]; simp [compare, compareOfLessAndEq, h]
    · subst h; simp [compare, compareOfLessAndEq]
    · rw [decide_eq_false (by omega)]; simp [compare, compareOfLessAndEq, show ¬ b < a by omega, show ¬ b = a by omega]
  have h3 : gtB y x = decide (a < b) := by
    unfold gtB; rw [ho]
    rcases Int.lt_trichotomy b a with h | h | h
    · rw [decide_eq_false (by omega)]; simp [compare, compareOfLessAndEq, h]
    · subst h; simp [compare, compareOfLessAndEq]
    · rw [decide_eq_true h]; simp [compare, compareOfLessAndEq, show ¬ b < a by omega, show ¬ b = a by omega]
  unfold extS pickI
  rw [h1, h2, h3]
  cases m
  · simp only [Bool.false_or, Bool.false_eq_true, if_false]
    cases decide (b < a)
    · simpa using hx
    · simpa using hy
  · simp only [Bool.false_or, if_true]
    cases decide (a < b)
    · simpa using hx
    · simpa using hy
theorem is_exts (m : Bool) : ∀ (J : List Int) (x : Nat) (a : Int), Flo.Is x a → (∀ j ∈ J, -128 ≤ j ∧ j ≤ 128) → Flo.Is ((J.map Flo.ofI).foldl (extS m) x) (J.foldl (pickI m) a)
  | [], x, a, h, _ => h
  | j :: J, x, a, h, hj => by
    have h2 := hj j (List.mem_cons_self ..)
    exact is_exts m J _ _ (is_ext h (Flo.ofI_is j (by omega))) fun i hi => hj i (List.mem_cons_of_mem _ hi)
def bestI (m : Bool) : List Int → Int
  | [] => 0
  | j :: J => J.foldl (pickI m) j
theorem extL_is (m : Bool) {J : List Int} (h : Small J) (h0 : J ≠ []) : Flo.Is (extL m (J.map Flo.ofI)) (bestI m J) := by
  cases J with
  | nil => exact absurd rfl h0
  | cons j J =>
    have h2 := h.2 j (List.mem_cons_self ..)
    exact is_exts m J _ _ (Flo.ofI_is j (by omega)) fun i hi => h.2 i (List.mem_cons_of_mem _ hi)
theorem best_app (m : Bool) {J K : List Int} (hJ : J ≠ []) (hK : K ≠ []) : bestI m (J ++ K) = bestI m J ∨ bestI m (J ++ K) = bestI m K := by
  cases J with
  | nil => exact absurd rfl hJ
  | cons j J =>
    cases K with
    | nil => exact absurd rfl hK
    | cons k K =>
      show (J ++ k :: K).foldl (pickI m) j = J.foldl (pickI m) j ∨ (J ++ k :: K).foldl (pickI m) j = K.foldl (pickI m) k
      rw [List.foldl_append, List.foldl_cons, fold_pick]
      exact pickI_or ..
/-- what two of the functions say of whole numbers -/
def addF (fn : Nat) (J : List Int) : Int := if fn = 1 then J.length else J.sum
theorem addF_app (fn : Nat) (J K : List Int) : addF fn (J ++ K) = addF fn J + addF fn K := by
  unfold addF
  split
  · simp
  · rw [List.sum_append]
theorem addF_bd (fn : Nat) {J : List Int} (h : Small J) : -10000 ≤ addF fn J ∧ addF fn J ≤ 10000 := by
  have h1 := sum_bd h.2
  have h2 := h.1
  unfold addF
  split <;> omega
theorem val_add (fn : Nat) (hfn : fn = 1 ∨ fn = 2) {J : List Int} (h : Small J) (L : Nat) : Flo.Is ((outP fn (J.map Flo.ofI) L).getD 0) (addF fn J) := by
  unfold outP
  by_cases h0 : J = []
  · subst h0
    have : ([] : List Int).map Flo.ofI = [] := rfl
    rw [this, if_pos (by rcases hfn with rfl | rfl <;> decide)]
    have : addF fn [] = 0 := by unfold addF; split <;> rfl
    rw [this]
    exact Flo.is_zero
  · have hl : 0 < J.length := List.length_pos_iff.2 h0
    have hlt : ¬ (J.map Flo.ofI).length < leastN fn := by
      rw [List.length_map]
      rcases hfn with rfl | rfl
      · show ¬ J.length < 1; omega
      · show ¬ J.length < 1; omega
    rw [if_neg hlt]
    rcases hfn with rfl | rfl
    · have e : valF 1 (J.map Flo.ofI) L = Flo.ofI J.length := by unfold valF; simp
      have e2 : addF 1 J = J.length := by simp [addF]
      show Flo.Is (valF 1 (J.map Flo.ofI) L) _
      rw [e, e2]
      have := h.1
      exact Flo.ofI_is _ (by omega)
    · have e : valF 2 (J.map Flo.ofI) L = sumL (J.map Flo.ofI) := by unfold valF; simp only
      have e2 : addF 2 J = J.sum := by simp [addF]
      show Flo.Is (valF 2 (J.map Flo.ofI) L) _
      rw [e, e2]
      exact sumL_is h
theorem out_some (fn : Nat) (hfn : leastN fn = 1) (V : List Nat) (L : Nat) : (outP fn V L).isSome = !V.isEmpty := by
  unfold outP
  rw [hfn]
  cases V <;> simp
theorem val_best (m : Bool) {J : List Int} (h : Small J) (h0 : J ≠ []) (L : Nat) : Flo.Is ((outP (if m then 5 else 4) (J.map Flo.ofI) L).getD 0) (bestI m J) := by
  have hl : 0 < J.length := List.length_pos_iff.2 h0
  have hi := extL_is m h h0
  have e : outP (if m then 5 else 4) (J.map Flo.ofI) L = some (extL m (J.map Flo.ofI)) := by
    unfold outP
    have e1 : leastN (if m then 5 else 4) = 1 := by cases m <;> decide
    rw [e1, List.length_map, if_neg (by omega)]
    congr 1
    rw [← is_cn hi]
    cases m
    · show valF 4 _ _ = _; unfold valF; simp only
    · show valF 5 _ _ = _; unfold valF; simp only
  rw [e]
  exact hi
theorem ord_eq {x y : Nat} {a : Int} (hx : Flo.Is x a) (hy : Flo.Is y a) : FloatKind.f64.format.order x y = some .eq := by
  have : FloatKind.f64.format.order x y = some (compare a a) := Flo.is_order hx hy
  rw [this]; simp [compare, compareOfLessAndEq]

/-! ### samples by gaps -/
def tmG (g : Nat → Int) : Nat → Int
  | 0 => 0
  | k + 1 => tmG g k + 1 + g k
def smG (x g : Nat → Int) (k : Nat) : List Sm := (List.range k).map fun j => (tmG g (j + 1), Flo.ofI (x j))
theorem smG_s (x g : Nat → Int) (k : Nat) : smG x g (k + 1) = smG x g k ++ [(tmG g (k + 1), Flo.ofI (x k))] := by
  unfold smG; rw [List.range_succ, List.map_append]; rfl
theorem smG_len (x g : Nat → Int) (k : Nat) : (smG x g k).length = k := by unfold smG; simp
theorem tmG_mono {g : Nat → Int} (hg : ∀ j, 0 ≤ g j) : ∀ {a b : Nat}, a ≤ b → tmG g a ≤ tmG g b := by
  intro a b h
  induction b with
  | zero =>
    have h0 : a = 0 := by omega
    rw [h0]; exact Int.le_refl _
  | succ b ih =>
    rcases Nat.lt_or_ge a (b + 1) with h1 | h1
    · have := ih (by omega)
      have := hg b
      show tmG g a ≤ tmG g b + 1 + g b
      omega
    · have h0 : a = b + 1 := by omega
      rw [h0]; exact Int.le_refl _
theorem tmG_bd {g : Nat → Int} (hg : ∀ j, 0 ≤ g j ∧ g j ≤ 255) (k : Nat) : (k : Int) ≤ tmG g k ∧ tmG g k ≤ 256 * k := by
  induction k with
  | zero => simp [tmG]
  | succ k ih =>
    have := hg k
    show (((k + 1 : Nat) : Int)) ≤ tmG g k + 1 + g k ∧ tmG g k + 1 + g k ≤ 256 * ((k + 1 : Nat) : Int)
    omega
theorem smG_asc (x : Nat → Int) {g : Nat → Int} (hg : ∀ j, 0 ≤ g j) (k : Nat) : AscT (smG x g k) := by
  unfold AscT smG
  rw [List.pairwise_map, List.pairwise_iff_getElem]
  intro i j hi hj hij
  simp only [List.getElem_range]
  exact tmG_mono hg (by omega)
theorem smG_mem {x g : Nat → Int} (hg : ∀ j, 0 ≤ g j ∧ g j ≤ 255) {k : Nat} {q : Sm} (h : q ∈ smG x g k) : 0 < q.1 ∧ q.1 ≤ tmG g k := by
  unfold smG at h
  obtain ⟨j, hj, rfl⟩ := List.mem_map.1 h
  have hj := List.mem_range.1 hj
  have h1 := (tmG_bd hg (j + 1)).1
  have h2 := tmG_mono (fun j => (hg j).1) (show j + 1 ≤ k by omega)
  simp only
  omega
/-- the parts of a stretch -/
theorem smG_parts {x g : Nat → Int} (hg : ∀ j, 0 ≤ g j ∧ g j ≤ 255) (n : Nat) (a : Int) :
    ∃ J K : List Int, J ++ K = (List.range n).map x ∧ vals (strL (smG x g n) 0 a) = J.map Flo.ofI ∧ vals (strL (smG x g n) a (tmG g n + 1)) = K.map Flo.ofI ∧ vals (strL (smG x g n) 0 (tmG g n + 1)) = (J ++ K).map Flo.ofI := by
  have hasc := smG_asc x (fun j => (hg j).1) n
  have hm := fun q (h : q ∈ smG x g n) => smG_mem hg h
  obtain ⟨m, hmm⟩ : ∃ m, cntT (smG x g n) a = m := ⟨_, rfl⟩
  have hv : vals (smG x g n) = ((List.range n).map x).map Flo.ofI := by unfold vals smG; simp
  have e1 : strL (smG x g n) 0 a = (smG x g n).take m := by
    rw [← hmm, asc_take hasc]
    unfold strL
    refine List.filter_congr fun q hq => ?_
    have := hm q hq
    unfold strP
    rw [decide_eq_true this.1, Bool.true_and]
  have e2 : strL (smG x g n) a (tmG g n + 1) = (smG x g n).drop m := by
    rw [← hmm, asc_drop hasc]
    unfold strL
    refine List.filter_congr fun q hq => ?_
    have := hm q hq
    unfold strP
    rw [decide_eq_true (by omega : q.1 ≤ tmG g n + 1), Bool.and_true]
  have e3 : strL (smG x g n) 0 (tmG g n + 1) = smG x g n := by
    unfold strL
    rw [List.filter_eq_self]
    intro q hq
    have := hm q hq
    unfold strP
    rw [decide_eq_true this.1, decide_eq_true (by omega)]; rfl
  refine ⟨((List.range n).map x).take m, ((List.range n).map x).drop m, List.take_append_drop _ _, ?_, ?_, ?_⟩
  · rw [e1, List.map_take, ← hv]; unfold vals; rw [List.map_take]
  · rw [e2, List.map_drop, ← hv]; unfold vals; rw [List.map_drop]
  · rw [e3, List.take_append_drop, hv]
end Go.Proofs.YtjjfkjpkbpefpaaDoor.Vn
