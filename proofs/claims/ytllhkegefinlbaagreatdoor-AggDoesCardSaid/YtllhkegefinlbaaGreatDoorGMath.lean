/- Groups of points, and what an aggregation makes of them: pure functions. -/
import Derived.Test.YtllhkegefinlbaaGreatDoorPRef
import Derived.Test.YtllhkegefinlbaaGreatDoorRefWith
import Derived.Test.YtllhkegefinlbaaGreatDoorFSignMath
import Derived.Test.YtllhkegefinlbaaGreatDoorGStm
import Derived.Laws.FloatArith
namespace Go.Proofs.YtllhkegefinlbaaGreatDoor.Pt
open Go.RowKit
set_option maxRecDepth 100000

/-! ### groups -/
def memB (ks : List (List Lb)) (x : List Lb) : Bool := ks.any fun y => decide (y = x)
theorem memB_iff {ks : List (List Lb)} {x : List Lb} : memB ks x = true ↔ x ∈ ks := by
  unfold memB
  rw [List.any_eq_true]
  constructor
  · rintro ⟨y, hy, e⟩
    rw [decide_eq_true_eq] at e
    rwa [← e]
  · exact fun h => ⟨x, h, decide_eq_true rfl⟩
def keyStep (ks : List (List Lb)) (x : List Lb) : List (List Lb) := if memB ks x = true then ks else ks ++ [x]
theorem step_in {ks : List (List Lb)} {x : List Lb} (h : x ∈ ks) : keyStep ks x = ks := by unfold keyStep; rw [if_pos (memB_iff.2 h)]
theorem step_out {ks : List (List Lb)} {x : List Lb} (h : x ∉ ks) : keyStep ks x = ks ++ [x] := by unfold keyStep; rw [if_neg (fun g => h (memB_iff.1 g))]
/-- the groups' labels, in the order of their first points -/
def keysP (f : Pt → List Lb) (l : List Pt) : List (List Lb) := (l.map f).foldl keyStep []
theorem keysP_snoc (f : Pt → List Lb) (l : List Pt) (p : Pt) : keysP f (l ++ [p]) = keyStep (keysP f l) (f p) := by simp [keysP]
theorem mem_step {ks : List (List Lb)} {x y : List Lb} : y ∈ keyStep ks x ↔ y ∈ ks ∨ y = x := by
  by_cases h : x ∈ ks
  · rw [step_in h]
    constructor
    · exact .inl
    · rintro (h1 | rfl)
      · exact h1
      · exact h
  · rw [step_out h]; simp
theorem mem_folds : ∀ (r ks : List (List Lb)) (y : List Lb), y ∈ r.foldl keyStep ks ↔ y ∈ ks ∨ y ∈ r
  | [], _, y => by simp
  | x :: r, ks, y => by
    rw [List.foldl_cons, mem_folds r, mem_step, List.mem_cons, or_assoc]
theorem nodup_step {ks : List (List Lb)} (h : ks.Nodup) (x : List Lb) : (keyStep ks x).Nodup := by
  by_cases hn : x ∈ ks
  · rw [step_in hn]; exact h
  · rw [step_out hn, List.nodup_append]
    refine ⟨h, by simp, fun a ha b hb e => ?_⟩
    rw [List.mem_singleton] at hb
    subst hb; subst e
    exact hn ha
theorem nodup_folds : ∀ (r ks : List (List Lb)), ks.Nodup → (r.foldl keyStep ks).Nodup
  | [], _, h => h
  | x :: r, _, h => nodup_folds r _ (nodup_step h x)
theorem mem_keys {f : Pt → List Lb} {l : List Pt} {x : List Lb} : x ∈ keysP f l ↔ ∃ p ∈ l, f p = x := by
  unfold keysP
  rw [mem_folds]
  simp
theorem keys_nodup (f : Pt → List Lb) (l : List Pt) : (keysP f l).Nodup := nodup_folds _ _ List.nodup_nil
theorem keys_len (f : Pt → List Lb) (l : List Pt) : (keysP f l).length ≤ l.length := by
  have : ∀ (r ks : List (List Lb)), (r.foldl keyStep ks).length ≤ ks.length + r.length := by
    intro r
    induction r with
    | nil => intro ks; simp
    | cons x r ih =>
      intro ks
      rw [List.foldl_cons]
      refine Nat.le_trans (ih _) ?_
      by_cases hn : x ∈ ks
      · rw [step_in hn]; simp
      · rw [step_out hn]; simp; omega
  have h := this (l.map f) []
  simpa [keysP] using h
/-- the points of one group -/
def memG (f : Pt → List Lb) (x : List Lb) (l : List Pt) : List Pt := l.filter fun p => decide (f p = x)
def grpsP (f : Pt → List Lb) (l : List Pt) : List (List Lb × List Pt) := (keysP f l).map fun x => (x, memG f x l)
theorem grps_fst (f : Pt → List Lb) (l : List Pt) : (grpsP f l).map (·.1) = keysP f l := by
  unfold grpsP
  rw [List.map_map]
  exact List.map_id' _
theorem grps_len (f : Pt → List Lb) (l : List Pt) : (grpsP f l).length ≤ l.length := by
  unfold grpsP; rw [List.length_map]; exact keys_len f l
theorem memG_same {f : Pt → List Lb} {x : List Lb} {p : Pt} (h : f p = x) (l : List Pt) : memG f x (l ++ [p]) = memG f x l ++ [p] := by
  unfold memG; rw [List.filter_append]; simp [h]
theorem memG_other {f : Pt → List Lb} {x : List Lb} {p : Pt} (h : f p ≠ x) (l : List Pt) : memG f x (l ++ [p]) = memG f x l := by
  unfold memG; rw [List.filter_append]; simp [h]
theorem memG_len (f : Pt → List Lb) (x : List Lb) (l : List Pt) : (memG f x l).length ≤ l.length := List.length_filter_le _ _
theorem grps_get {f : Pt → List Lb} {l : List Pt} {i : Nat} {s : List Lb × List Pt} (h : (grpsP f l)[i]? = some s) : (keysP f l)[i]? = some s.1 ∧ s.2 = memG f s.1 l := by
  unfold grpsP at h
  rw [List.getElem?_map] at h
  cases e : (keysP f l)[i]? with
  | none => rw [e] at h; cases h
  | some x => rw [e] at h; cases h; exact ⟨rfl, rfl⟩
theorem grps_old {f : Pt → List Lb} {l : List Pt} {p : Pt} {i : Nat} {s : List Lb × List Pt} (h : (grpsP f l)[i]? = some s) (e : s.1 = f p) : grpsP f (l ++ [p]) = (grpsP f l).set i (s.1, s.2 ++ [p]) := by
  obtain ⟨h1, h2⟩ := grps_get h
  have hk : keysP f (l ++ [p]) = keysP f l := by
    rw [keysP_snoc, step_in (by rw [← e]; exact List.mem_of_getElem? h1)]
  apply List.ext_getElem?
  intro j
  unfold grpsP
  rw [hk, List.getElem?_map, List.getElem?_set, List.length_map, List.getElem?_map]
  have hi := (List.getElem?_eq_some_iff.1 h1).1
  by_cases ej : i = j
  · subst ej
    rw [if_pos rfl, if_pos hi, h1, h2]
    simp only [Option.map_some]
    rw [memG_same e.symm]
  · rw [if_neg ej]
    cases hj : (keysP f l)[j]? with
    | none => rfl
    | some x =>
      simp only [Option.map_some]
      rw [memG_other]
      intro e2
      have : (keysP f l)[i]? = (keysP f l)[j]? := by rw [h1, hj, e, e2]
      exact ej ((List.getElem?_inj hi (keys_nodup f l)).1 this)
theorem grps_new {f : Pt → List Lb} {l : List Pt} {p : Pt} (h : f p ∉ keysP f l) : grpsP f (l ++ [p]) = grpsP f l ++ [(f p, [p])] := by
  have hk : keysP f (l ++ [p]) = keysP f l ++ [f p] := by rw [keysP_snoc, step_out h]
  unfold grpsP
  rw [hk, List.map_append]
  congr 1
  · refine List.map_congr_left fun x hx => ?_
    rw [memG_other]
    intro e; exact h (by rw [e]; exact hx)
  · simp only [List.map_cons, List.map_nil]
    rw [memG_same rfl]
    have : memG f (f p) l = [] := List.filter_eq_nil_iff.2 fun y hy e => h (mem_keys.2 ⟨y, hy, by simpa using e⟩)
    rw [this]; rfl
theorem grps_nil (f : Pt → List Lb) : grpsP f [] = [] := rfl

/-! ### in the order of a number of each, those of the same number as they stand -/
section
variable {α β : Type} (k : α → Int)
def insK (l : List α) (x : α) : List α := l.takeWhile (fun q => decide (k q ≤ k x)) ++ x :: l.dropWhile (fun q => decide (k q ≤ k x))
def srtK (l : List α) : List α := l.foldl (insK k) []
theorem insK_perm (l : List α) (x : α) : (insK k l x).Perm (x :: l) := by
  unfold insK
  have h := List.takeWhile_append_dropWhile (p := fun q => decide (k q ≤ k x)) (l := l)
  conv => rhs; rw [← h]
  exact List.perm_middle
theorem foldl_insK_perm (r : List α) : ∀ l, (r.foldl (insK k) l).Perm (l ++ r) := by
  induction r with
  | nil => intro l; simp
  | cons a r ih =>
    intro l
    rw [List.foldl_cons]
    exact (ih _).trans (((insK_perm k l a).append_right r).trans List.perm_middle.symm)
theorem srtK_perm (l : List α) : (srtK k l).Perm l := by simpa [srtK] using foldl_insK_perm k l []
theorem srtK_len (l : List α) : (srtK k l).length = l.length := (srtK_perm k l).length_eq
def AscK (l : List α) : Prop := l.Pairwise fun x y => k x ≤ k y
theorem insK_asc {l : List α} (h : AscK k l) (x : α) : AscK k (insK k l x) := by
  induction l with
  | nil => simp [insK, AscK]
  | cons a r ih =>
    unfold AscK at h ih ⊢
    obtain ⟨ha, hr⟩ := List.pairwise_cons.1 h
    by_cases hl : k a ≤ k x
    · have e : insK k (a :: r) x = a :: insK k r x := by simp [insK, hl]
      rw [e, List.pairwise_cons]
      refine ⟨fun y hy => ?_, ih hr⟩
      rcases List.mem_cons.1 ((insK_perm k r x).mem_iff.1 hy) with rfl | hy
      · exact hl
      · exact ha _ hy
    · have e : insK k (a :: r) x = x :: a :: r := by simp [insK, hl]
      rw [e, List.pairwise_cons]
      refine ⟨fun y hy => ?_, h⟩
      rcases List.mem_cons.1 hy with rfl | hy
      · omega
      · have := ha _ hy; omega
theorem srtK_asc (l : List α) : AscK k (srtK k l) := by
  have : ∀ (r l : List α), AscK k l → AscK k (r.foldl (insK k) l) := by
    intro r
    induction r with
    | nil => intro l h; exact h
    | cons a r ih => intro l h; rw [List.foldl_cons]; exact ih _ (insK_asc k h a)
  exact this l [] List.Pairwise.nil
def atK (t : Int) (l : List α) : List α := l.filter fun x => k x == t
theorem insK_at {l : List α} (h : AscK k l) (x : α) (t : Int) : atK k t (insK k l x) = atK k t l ++ atK k t [x] := by
  induction l with
  | nil => simp [insK, atK]
  | cons a r ih =>
    unfold AscK at h
    obtain ⟨ha, hr⟩ := List.pairwise_cons.1 h
    by_cases hl : k a ≤ k x
    · have e : insK k (a :: r) x = a :: insK k r x := by simp [insK, hl]
      rw [e]
      have := ih hr
      unfold atK at this ⊢
      rw [List.filter_cons, List.filter_cons, this]
      split <;> rfl
    · have e : insK k (a :: r) x = x :: a :: r := by simp [insK, hl]
      rw [e]
      by_cases ht : k x = t
      · have hn : atK k t (a :: r) = [] := List.filter_eq_nil_iff.2 fun y hy => by
          have : k a ≤ k y := by
            rcases List.mem_cons.1 hy with rfl | hy
            · exact Int.le_refl _
            · exact ha _ hy
          simp; omega
        rw [hn]
        unfold atK at hn ⊢
        rw [List.filter_cons, hn]
        simp [ht]
      · unfold atK
        rw [List.filter_cons]
        simp [ht]
theorem srtK_at (l : List α) (t : Int) : atK k t (srtK k l) = atK k t l := by
  have : ∀ (r l : List α), AscK k l → atK k t (r.foldl (insK k) l) = atK k t l ++ atK k t r := by
    intro r
    induction r with
    | nil => intro l _; simp [atK]
    | cons a r ih =>
      intro l h
      rw [List.foldl_cons, ih _ (insK_asc k h a), insK_at k h, List.append_assoc]
      congr 1
      unfold atK
      rw [← List.filter_append]; rfl
  simpa [atK, srtK] using this l [] List.Pairwise.nil
theorem srtK_snoc (l : List α) (x : α) : srtK k (l ++ [x]) = insK k (srtK k l) x := by simp [srtK]
theorem insK_map (f : β → α) (l : List β) (x : β) : (insK (fun y => k (f y)) l x).map f = insK k (l.map f) (f x) := by
  unfold insK
  rw [List.map_append, List.map_cons, List.takeWhile_map, List.dropWhile_map]
  rfl
theorem srtK_map (f : β → α) (l : List β) : (srtK (fun y => k (f y)) l).map f = srtK k (l.map f) := by
  have : ∀ (r l : List β), (r.foldl (insK fun y => k (f y)) l).map f = (r.map f).foldl (insK k) (l.map f) := by
    intro r
    induction r with
    | nil => intro l; rfl
    | cons a r ih => intro l; rw [List.foldl_cons, ih, insK_map, List.map_cons, List.foldl_cons]
  simpa [srtK] using this l []
/-- the reference's place -/
theorem insK_place {l : List α} {x : α} {n : Nat} (h1 : ∀ i, i < n → ∀ q, l[i]? = some q → k q ≤ k x) (h2 : ∀ q, l[n]? = some q → k x < k q) (hn : n ≤ l.length) : insK k l x = l.take n ++ x :: l.drop n := by
  have : l.takeWhile (fun q => decide (k q ≤ k x)) = l.take n ∧ l.dropWhile (fun q => decide (k q ≤ k x)) = l.drop n := by
    induction l generalizing n with
    | nil => simp
    | cons a r ih =>
      cases n with
      | zero =>
        have := h2 a rfl
        have : ¬ k a ≤ k x := by omega
        simp [this]
      | succ n =>
        have ha := h1 0 (by omega) a rfl
        have := ih (n := n) (fun i hi q hq => h1 (i + 1) (by omega) q (by simpa using hq)) (fun q hq => h2 q (by simpa using hq)) (by simpa using hn)
        simp [ha] at this ⊢
        exact this
  unfold insK
  rw [this.1, this.2]
end
/-- sorted by the library: that row alone -/
theorem srt_unique {tp : Bool} {l r : List (Gs.Po tp)} (h : Gs.AscT r) (g : Gs.EqT l r) : r = srtK Gs.Po.k l :=
  Gs.asc_unique h (srtK_asc Gs.Po.k l) fun t => ((g t).trans (srtK_at Gs.Po.k l t).symm).symm

/-! ### k downwards -/
open Wv.Flo in
/-- float64(j) <= k -/
def leK (j k : Nat) : Bool := Fv.ltB (ofI j) k || Fv.eqB (ofI j) k
theorem key_zv (a b : Nat) : Wv.Flo.key a ≤ Wv.Flo.key b ↔ Wv.Flo.zv a ≤ Wv.Flo.zv b := by
  have h := Wv.Flo.compare_sv (Wv.Flo.sgn a) (Wv.Flo.sgn b) (Wv.Flo.rung a) (Wv.Flo.rung b)
  have e1 : Wv.Flo.key a = Wv.Flo.sv (Wv.Flo.sgn a) (Wv.Flo.rung a) := rfl
  have e2 : Wv.Flo.key b = Wv.Flo.sv (Wv.Flo.sgn b) (Wv.Flo.rung b) := rfl
  rw [e1, e2]
  unfold Wv.Flo.zv
  simp only [compare, compareOfLessAndEq] at h
  split at h <;> split at h <;> (try split at h) <;> (try split at h) <;> first | omega | (cases h)
theorem leK_key (j k : Nat) (hj : j < 2 ^ 53) : leK j k = (!Wv.Flo.isNan k && decide (Wv.Flo.key (Wv.Flo.ofI j) ≤ Wv.Flo.key k)) := by
  have hn := (Wv.Flo.ofI_is (j : Int) (by omega)).num
  unfold leK Fv.ltB Fv.eqB
  show (Ieee.double.order (Wv.Flo.ofI j) k == some .lt || Ieee.double.order (Wv.Flo.ofI j) k == some .eq) = _
  rw [Wv.Flo.order_key, hn]
  cases Wv.Flo.isNan k
  · simp only [Bool.or_self, Bool.false_eq_true, if_false, Bool.not_false, Bool.true_and, compare, compareOfLessAndEq]
    by_cases h1 : Wv.Flo.key (Wv.Flo.ofI j) < Wv.Flo.key k
    · rw [if_pos h1, decide_eq_true (Int.le_of_lt h1)]; rfl
    · rw [if_neg h1]
      by_cases h2 : Wv.Flo.key (Wv.Flo.ofI j) = Wv.Flo.key k
      · rw [if_pos h2, decide_eq_true (by omega)]; rfl
      · rw [if_neg h2, decide_eq_false (by omega)]; rfl
  · rfl
theorem geK (j k : Nat) (hj : j < 2 ^ 53) : (Fv.gtB k (Wv.Flo.ofI j) || Fv.eqB k (Wv.Flo.ofI j)) = leK j k := by
  have hn := (Wv.Flo.ofI_is (j : Int) (by omega)).num
  rw [leK_key j k hj]
  unfold Fv.gtB Fv.eqB
  show (Ieee.double.order k (Wv.Flo.ofI j) == some .gt || Ieee.double.order k (Wv.Flo.ofI j) == some .eq) = _
  rw [Wv.Flo.order_key, hn]
  cases Wv.Flo.isNan k
  · simp only [Bool.or_self, Bool.false_eq_true, if_false, Bool.not_false, Bool.true_and, compare, compareOfLessAndEq]
    by_cases h1 : Wv.Flo.key k < Wv.Flo.key (Wv.Flo.ofI j)
    · rw [if_pos h1, decide_eq_false (by omega)]; rfl
    · rw [if_neg h1]
      by_cases h2 : Wv.Flo.key k = Wv.Flo.key (Wv.Flo.ofI j)
      · rw [if_pos h2, decide_eq_true (by omega)]; rfl
      · rw [if_neg h2, decide_eq_true (by omega)]; rfl
  · rfl
theorem leK_zv (j k : Nat) (hj : j < 2 ^ 53) : leK j k = (!Wv.Flo.isNan k && decide ((j : Int) * (Wv.Flo.U : Int) ≤ Wv.Flo.zv k)) := by
  rw [leK_key j k hj]
  congr 1
  rw [decide_eq_decide, key_zv, (Wv.Flo.ofI_is (j : Int) (by omega)).eq]
/-- k downwards, but not above n -/
def cutN (k n : Nat) : Nat := ((List.range n).takeWhile fun j => leK (j + 1) k).length
theorem tw_range (p : Nat → Bool) (n m : Nat) (h : ∀ j, j < n → p j = decide (j < m)) : ((List.range n).takeWhile p).length = min n m := by
  induction n with
  | zero => simp
  | succ n ih =>
    rw [List.range_succ, List.takeWhile_append]
    have ih := ih fun j hj => h j (by omega)
    rw [ih, List.length_range]
    by_cases hm : n ≤ m
    · rw [if_pos (by omega)]
      have hn := h n (by omega)
      by_cases h2 : n < m
      · rw [decide_eq_true h2] at hn
        simp [hn]; omega
      · rw [decide_eq_false h2] at hn
        simp [hn]; omega
    · rw [if_neg (by omega), ih]; omega
theorem cutN_le (k n : Nat) : cutN k n ≤ n := by
  unfold cutN
  refine Nat.le_trans (List.takeWhile_sublist _).length_le ?_
  simp
/-- where the reference's count ends -/
theorem cutN_at {k n m : Nat} (hm : m ≤ n) (h1 : ∀ j, j < m → leK (j + 1) k = true) (h2 : m = n ∨ leK (m + 1) k = false) (hn : n < 2 ^ 53) : cutN k n = m := by
  unfold cutN
  have mono : ∀ j, m ≤ j → j < n → leK (j + 1) k = false := fun j hj hjn => by
    rcases h2 with rfl | h2
    · omega
    · rw [leK_zv _ _ (by omega)] at h2 ⊢
      cases hk : Wv.Flo.isNan k
      · rw [hk] at h2
        simp only [Bool.not_false, Bool.true_and, decide_eq_false_iff_not] at h2 ⊢
        intro h3
        refine h2 (Int.le_trans (Int.mul_le_mul_of_nonneg_right (by omega) (by omega)) h3)
      · rfl
  rw [tw_range _ n m fun j hj => ?_]
  · omega
  · by_cases h3 : j < m
    · rw [h1 j h3, decide_eq_true h3]
    · rw [mono j (by omega) hj, decide_eq_false h3]
theorem cutN_all {k n : Nat} (hn : n < 2 ^ 53) (h : leK n k = true) : cutN k n = n := by
  refine cutN_at (Nat.le_refl _) (fun j hj => ?_) (.inl rfl) hn
  rw [leK_zv _ _ hn, Bool.and_eq_true, decide_eq_true_eq] at h
  rw [leK_zv _ _ (by omega), Bool.and_eq_true, decide_eq_true_eq]
  exact ⟨h.1, Int.le_trans (Int.mul_le_mul_of_nonneg_right (by omega) (by omega)) h.2⟩
theorem cutN_0 {k n : Nat} (hn : n < 2 ^ 53) (h : leK 1 k = false) : cutN k n = 0 :=
  cutN_at (Nat.zero_le _) (fun j hj => absurd hj (by omega)) (.inr h) hn
theorem zero_cut (n d : Nat) : Ieee.Toward.zero.cut false n d = n / 2 ^ d := by
  have h0 : n < 2 ^ (n.log2 + 1) := Nat.lt_log2_self
  unfold Ieee.Toward.cut
  simp only [Bool.toNat_false, Nat.add_zero, Nat.shiftLeft_eq, Nat.one_mul]
  by_cases h : d ≤ n.log2 + 2
  · rw [Nat.min_eq_left h]
  · have h1 : 2 ^ (n.log2 + 1) ≤ 2 ^ (n.log2 + 2) := Nat.pow_le_pow_right (by decide) (by omega)
    have h2 : 2 ^ (n.log2 + 1) ≤ 2 ^ d := Nat.pow_le_pow_right (by decide) (by omega)
    rw [Nat.min_eq_right (by omega), Nat.div_eq_of_lt (by omega), Nat.div_eq_of_lt (by omega)]
theorem cutN_int {k n : Nat} (hn : n < 2 ^ 53) (h1 : leK 1 k = true) (h2 : leK n k = false) : floatToIntVal .f64 k .i64 = some (cutN k n : Int) := by
  rw [leK_zv _ _ (by omega), Bool.and_eq_true, decide_eq_true_eq] at h1
  obtain ⟨hk, h1⟩ := h1
  have hk' : Wv.Flo.isNan k = false := by simpa using hk
  rw [leK_zv _ _ hn, hk'] at h2
  simp only [Bool.not_false, Bool.true_and, decide_eq_false_iff_not] at h2
  have hU := Wv.Flo.U_pos
  obtain ⟨E, hE, hUE⟩ := Wv.Flo.U_pow
  -- its sign is not set, it is finite
  have hs : Wv.Flo.sgn k = false := by
    cases hs : Wv.Flo.sgn k
    · rfl
    · unfold Wv.Flo.zv at h1; rw [hs] at h1; simp only [Wv.Flo.sv, if_true] at h1; omega
  have hz : Wv.Flo.zv k = (Wv.Flo.val (Wv.Flo.rung k) : Int) := by unfold Wv.Flo.zv; rw [hs]; rfl
  rw [hz] at h1 h2
  obtain ⟨V, hV⟩ : ∃ V, Wv.Flo.val (Wv.Flo.rung k) = V := ⟨_, rfl⟩
  rw [hV] at h1 h2
  have hVn : V / Wv.Flo.U < n := by
    rw [Nat.div_lt_iff_lt_mul hU]
    have : (V : Int) < (n : Int) * (Wv.Flo.U : Int) := by omega
    exact_mod_cast this
  have hcut : cutN k n = V / Wv.Flo.U := by
    refine cutN_at (by omega) (fun j hj => ?_) (.inr ?_) hn
    · rw [leK_zv _ _ (by omega), hk', hz, hV]
      simp only [Bool.not_false, Bool.true_and, decide_eq_true_eq]
      have : (j + 1) * Wv.Flo.U ≤ V := (Nat.le_div_iff_mul_le hU).1 (by omega)
      exact_mod_cast this
    · rw [leK_zv _ _ (by omega), hk', hz, hV]
      simp only [Bool.not_false, Bool.true_and, decide_eq_false_iff_not]
      intro h3
      have h3' : (V / Wv.Flo.U + 1) * Wv.Flo.U ≤ V := by exact_mod_cast h3
      have := (Nat.le_div_iff_mul_le hU).2 h3'
      omega
  rw [hcut]
  rcases Wv.Flo.shape k with ⟨m, p, hm, -, hr, hread⟩ | ⟨hr, -⟩ | ⟨hr, -⟩
  · rw [hV] at hm
    have key : (Ieee.double.read k).toInt .zero = some ((V / Wv.Flo.U : Nat) : Int) := by
      rw [hread, hs]
      show some (Ieee.signed false (Ieee.Toward.zero.cut false (m <<< (-1074 + (p : Int)).toNat) (-(-1074 + (p : Int))).toNat) 0) = _
      rw [zero_cut, Wv.Flo.signed_eq]
      simp only [Wv.Flo.sv, Bool.false_eq_true, if_false, Nat.pow_zero, Nat.mul_one, Option.some.injEq, Int.ofNat_inj]
      rw [Nat.shiftLeft_eq, ← hm, hUE]
      by_cases hp : E ≤ p
      · rw [show (-(-1074 + (p : Int))).toNat = 0 by omega, show (-1074 + (p : Int)).toNat = p - E by omega, Nat.pow_zero, Nat.div_one]
        conv => rhs; rw [show p = (p - E) + E by omega, Nat.pow_add, ← Nat.mul_assoc]
        rw [Nat.mul_div_cancel _ (Nat.two_pow_pos _)]
      · rw [show (-(-1074 + (p : Int))).toNat = E - p by omega, show (-1074 + (p : Int)).toNat = 0 by omega, Nat.pow_zero, Nat.mul_one]
        conv => rhs; rw [show E = (E - p) + p by omega, Nat.pow_add]
        rw [Nat.mul_div_mul_right _ _ (Nat.two_pow_pos _)]
    unfold floatToIntVal
    have e0 : (FloatKind.f64.decode k).toInt .zero = some ((V / Wv.Flo.U : Nat) : Int) := key
    rw [e0]
    have b1 : IntKind.i64.min ≤ ((V / Wv.Flo.U : Nat) : Int) ∧ ((V / Wv.Flo.U : Nat) : Int) ≤ IntKind.i64.max := by
      have e1 : IntKind.i64.min = -9223372036854775808 := by decide
      have e2 : IntKind.i64.max = 9223372036854775807 := by decide
      rw [e1, e2]; omega
    simp only [b1, and_self, if_true]
  · exfalso
    -- an infinity is not below n
    have h3 : Wv.Flo.val (Wv.Flo.rung (Wv.Flo.ofI n)) < Wv.Flo.val (Wv.Flo.rung k) := Wv.Flo.val_mono (by rw [hr]; exact (Wv.Flo.ofI_is (n : Int) (by omega)).fin)
    have h4 := (Wv.Flo.ofI_is (n : Int) (by omega)).eq
    unfold Wv.Flo.zv Wv.Flo.sv at h4
    rw [hV] at h3
    split at h4 <;> omega
  · unfold Wv.Flo.isNan at hk'
    rw [decide_eq_false_iff_not] at hk'
    omega

/-! ### what an aggregation makes of a group -/
def sumL : List Nat → Nat
  | [] => 0
  | x :: r => r.foldl Fv.addC (Fv.canon x)
def extS (most : Bool) (x y : Nat) : Nat := if Fv.nanB x || (if most then Fv.gtB y x else Fv.ltB y x) then y else x
def extL (most : Bool) : List Nat → Nat
  | [] => 0
  | x :: r => r.foldl (extS most) x
def divC (a b : Nat) : Nat := Fv.canonO (Ieee.double.div a b)
def oneV (op : Int) (v : List Nat) : Nat :=
  if op = 1 then sumL v else if op = 2 then Wv.Flo.ofI v.length else if op = 3 then extL false v else if op = 4 then extL true v else if op = 5 then divC (sumL v) (Wv.Flo.ofI v.length) else Wv.Flo.one
def tksB (op : Int) : Bool := op == 6 || op == 7
def kP (tp : Bool) (p : Pt) : Int := Gs.ordK tp p.2
def chsP (op : Int) (k : Nat) (ps : List Pt) : List Pt := (srtK (kP (op == 6)) ps).take (cutN k ps.length)
def outG (op : Int) (k : Nat) (s : List Lb × List Pt) : List Pt := if tksB op then chsP op k s.2 else [(s.1, oneV op (s.2.map (·.2)))]
def aggP (op : Int) (f : Pt → List Lb) (k : Nat) (l : List Pt) : List Pt := (grpsP f l).flatMap (outG op k)
theorem nor_can {l r : List Pt} (h : l.map canP = r.map canP) : norE l = norE r ∧ norV l = norV r := by
  have h1 : l.map (·.1) = r.map (·.1) := by rw [← map_can l, ← map_can r, h]
  have e1 : ∀ l : List Pt, okP l = (l.map (·.1)).all rightB := fun l => by unfold okP; rw [List.all_map]; rfl
  have e2 : okP l = okP r := by rw [e1, e1, h1]
  have e3 : nodB l = nodB r := by unfold nodB; rw [h1]
  have e4 : ordP l = ordP r := by unfold ordP; rw [h]
  unfold norE norV
  rw [e2, e3, e4]
  exact ⟨rfl, rfl⟩
theorem foldl_s {α β : Type} (f : β → α → β) {r : List α} {k : Nat} {y : α} (x : β) (h : r[k]? = some y) : (r.take (k + 1)).foldl f x = f ((r.take k).foldl f x) y := by
  obtain ⟨hk, rfl⟩ := List.getElem?_eq_some_iff.1 h
  rw [List.take_succ_eq_append_getElem hk, List.foldl_append]; rfl
end Go.Proofs.YtllhkegefinlbaaGreatDoor.Pt
