/- Labels, as pure functions on lists of bytes: names, right lists, sets, parts, keys, quotes, texts. No program in it. -/
import GoSem.Op.String
import Derived.Lib.Strings
namespace Go.Proofs.YtllhkegefinlbaaGreatDoor

/-- a label: its name and its value -/
abbrev Lb := ByteArray × ByteArray
def ltS (a b : ByteArray) : Bool := Op.bytesLess a.toList b.toList

theorem bl_eq : ∀ (x y : List UInt8), Op.bytesLess x y = decide (x < y)
  | [], [] => by simp [Op.bytesLess]
  | _ :: _, [] => by simp [Op.bytesLess]
  | [], _ :: _ => by simp [Op.bytesLess]
  | a :: x, b :: y => by
    rw [Op.bytesLess, bl_eq x y]
    by_cases h : a = b
    · subst h; simp
    · simp [List.cons_lt_cons_iff, h]
theorem toList_ext {a b : ByteArray} (h : a.toList = b.toList) : a = b := by
  apply ByteArray.ext
  apply Array.ext'
  rw [← Lib.toList_data, ← Lib.toList_data]
  exact h
theorem ltS_irrefl (a : ByteArray) : ltS a a = false := by
  unfold ltS; rw [bl_eq]; simp [List.lt_irrefl]
theorem ltS_trans {a b c : ByteArray} (h : ltS a b = true) (g : ltS b c = true) : ltS a c = true := by
  unfold ltS at *; rw [bl_eq] at *
  simp only [decide_eq_true_eq] at *
  exact List.lt_trans h g
theorem ltS_asymm {a b : ByteArray} (h : ltS a b = true) : ltS b a = false := by
  unfold ltS at *; rw [bl_eq] at *
  simp only [decide_eq_true_eq, decide_eq_false_iff_not] at *
  exact List.lt_asymm h
theorem ltS_tri {a b : ByteArray} (h : ltS a b = false) (g : ltS b a = false) : a = b := by
  unfold ltS at *; rw [bl_eq] at *
  simp only [decide_eq_false_iff_not, List.not_lt] at *
  exact toList_ext (List.le_antisymm g h)

/-! names -/
def letB (c : UInt8) : Bool := decide (65 ≤ c.toNat ∧ c.toNat ≤ 90 ∨ 97 ≤ c.toNat ∧ c.toNat ≤ 122 ∨ c.toNat = 95)
def digB (c : UInt8) : Bool := decide (48 ≤ c.toNat ∧ c.toNat ≤ 57)
def nameL : List UInt8 → Bool
  | [] => false
  | c :: r => decide (r.length + 1 ≤ 64) && letB c && r.all (fun d => letB d || digB d)
def nameB (s : ByteArray) : Bool := nameL s.data.toList
theorem let_dig {c : UInt8} (h : letB c = true) : digB c = false := by
  unfold letB at h; unfold digB; simp at *; omega

/-! right lists -/
def okV (x : Lb) : Bool := nameB x.1 && decide (1 ≤ x.2.size ∧ x.2.size ≤ 256)
def okAt (l : List Lb) (i : Nat) : Prop := ∃ x, l[i]? = some x ∧ okV x = true ∧ ∀ y, 0 < i → l[i - 1]? = some y → ltS y.1 x.1 = true
def rightP (l : List Lb) : Prop := l.length ≤ 32 ∧ ∀ i, i < l.length → okAt l i

/-! sorted by names -/
def SortedN (l : List Lb) : Prop := l.Pairwise fun x y => ltS x.1 y.1 = true
theorem rightP_iff {l : List Lb} : rightP l ↔ l.length ≤ 32 ∧ (∀ x ∈ l, okV x = true) ∧ SortedN l := by
  unfold rightP
  refine and_congr Iff.rfl ⟨fun h => ⟨fun x hx => ?_, ?_⟩, fun ⟨h1, h2⟩ i hi => ?_⟩
  · obtain ⟨i, hi, rfl⟩ := List.getElem_of_mem hx
    obtain ⟨y, hy, ho, _⟩ := h i hi
    rw [List.getElem?_eq_getElem hi] at hy
    cases hy; exact ho
  · unfold SortedN
    have key : ∀ d i j (hi : i < l.length) (hj : j < l.length), j = i + d + 1 → ltS (l[i]).1 (l[j]).1 = true := by
      intro d
      induction d with
      | zero =>
        intro i j hi hj hd
        obtain ⟨y, hy, _, ho⟩ := h j hj
        rw [List.getElem?_eq_getElem hj] at hy
        cases hy
        refine ho _ (by omega) ?_
        rw [List.getElem?_eq_getElem (by omega)]
        congr 1
        congr 1
        omega
      | succ d ih =>
        intro i j hi hj hd
        have h1 := ih i (j - 1) hi (by omega) (by omega)
        obtain ⟨y, hy, _, ho⟩ := h j hj
        rw [List.getElem?_eq_getElem hj] at hy
        cases hy
        exact ltS_trans h1 (ho _ (by omega) (List.getElem?_eq_getElem (by omega)))
    rw [List.pairwise_iff_getElem]
    intro i j hi hj hij
    exact key (j - i - 1) i j hi hj (by omega)
  · refine ⟨l[i], List.getElem?_eq_getElem hi, h1 _ (List.getElem_mem hi), fun y h0 hy => ?_⟩
    obtain ⟨hlt, rfl⟩ := List.getElem?_eq_some_iff.1 hy
    exact List.pairwise_iff_getElem.1 h2 _ _ _ _ (by omega)
def rightB (l : List Lb) : Bool := decide (l.length ≤ 32 ∧ (∀ x ∈ l, okV x = true) ∧ l.Pairwise fun x y => ltS x.1 y.1 = true)
theorem rightB_t {l : List Lb} : rightB l = true ↔ rightP l := by rw [rightP_iff]; unfold rightB SortedN; simp
theorem rightB_f {l : List Lb} : rightB l = false ↔ ¬ rightP l := by rw [← rightB_t]; simp
theorem SortedN.nodup {l : List Lb} (h : SortedN l) : (l.map (·.1)).Nodup := by
  unfold List.Nodup
  rw [List.pairwise_map]
  refine List.Pairwise.imp (fun {a b} hab e => ?_) h
  rw [e, ltS_irrefl] at hab
  cases hab
theorem SortedN.unique {l r : List Lb} (h : SortedN l) (g : SortedN r) (p : l.Perm r) : l = r := by
  refine List.Perm.eq_of_pairwise (fun a b _ _ hab hba => ?_) h g p
  have := ltS_asymm hab
  rw [hba] at this
  cases this

/-! the set -/
def okN (x : Lb) : Bool := nameB x.1 && decide (x.2.size ≤ 256)
def setP (l : List Lb) : Prop := (∀ x ∈ l, okN x = true) ∧ (l.map (·.1)).Nodup
def full (x : Lb) : Bool := decide (x.2.size ≠ 0)
def putL (l : List Lb) (x : Lb) : List Lb := l.takeWhile (fun y => ltS y.1 x.1) ++ x :: l.dropWhile (fun y => ltS y.1 x.1)
def setL (l : List Lb) : List Lb := (l.filter full).foldl putL []
def setB (l : List Lb) : Bool := decide (((∀ x ∈ l, okN x = true) ∧ (l.map (·.1)).Nodup) ∧ (setL l).length ≤ 32)
def setV (l : List Lb) : List Lb := if setB l then setL l else []
def setE (l : List Lb) : Int := if setB l then 0 else 1
theorem setB_t {l : List Lb} : setB l = true ↔ setP l ∧ (setL l).length ≤ 32 := by unfold setB setP; simp
theorem putL_perm (l : List Lb) (x : Lb) : (putL l x).Perm (x :: l) := by
  unfold putL
  have h := List.takeWhile_append_dropWhile (p := fun y => ltS y.1 x.1) (l := l)
  conv => rhs; rw [← h]
  exact List.perm_middle
theorem putL_sorted {l : List Lb} {x : Lb} (h : SortedN l) (hx : ∀ y ∈ l, y.1 ≠ x.1) : SortedN (putL l x) := by
  induction l with
  | nil => simp [putL, SortedN]
  | cons a r ih =>
    unfold SortedN at h ih ⊢
    obtain ⟨ha, hr⟩ := List.pairwise_cons.1 h
    by_cases hl : ltS a.1 x.1 = true
    · have e : putL (a :: r) x = a :: putL r x := by simp [putL, hl]
      rw [e, List.pairwise_cons]
      refine ⟨fun y hy => ?_, ih hr fun y hy => hx y (List.mem_cons_of_mem _ hy)⟩
      rcases List.mem_cons.1 ((putL_perm r x).mem_iff.1 hy) with rfl | hy
      · exact hl
      · exact ha _ hy
    · have hl' : ltS a.1 x.1 = false := by simpa using hl
      have e : putL (a :: r) x = x :: a :: r := by simp [putL, hl']
      have hxa : ltS x.1 a.1 = true := by
        cases hc : ltS x.1 a.1
        · exact absurd (ltS_tri hl' hc) (hx a List.mem_cons_self)
        · rfl
      rw [e, List.pairwise_cons]
      refine ⟨fun y hy => ?_, h⟩
      rcases List.mem_cons.1 hy with rfl | hy
      · exact hxa
      · exact ltS_trans hxa (ha _ hy)
theorem foldl_putL_perm (r : List Lb) : ∀ l, (r.foldl putL l).Perm (l ++ r) := by
  induction r with
  | nil => intro l; simp
  | cons a r ih =>
    intro l
    rw [List.foldl_cons]
    refine (ih _).trans ?_
    refine ((putL_perm l a).append_right r).trans ?_
    exact List.perm_middle.symm
theorem setL_perm (l : List Lb) : (setL l).Perm (l.filter full) := by
  have := foldl_putL_perm (l.filter full) []
  simpa [setL] using this
theorem foldl_putL_sorted (r : List Lb) : ∀ l, SortedN l → ((l ++ r).map (·.1)).Nodup → SortedN (r.foldl putL l) := by
  induction r with
  | nil => intro l h _; exact h
  | cons a r ih =>
    intro l h hn
    rw [List.foldl_cons]
    have p : ((l ++ a :: r).map (·.1)).Perm ((putL l a ++ r).map (·.1)) :=
      (List.Perm.map _ (List.perm_middle.trans ((putL_perm l a).symm.append_right r)))
    refine ih _ (putL_sorted h fun y hy e => ?_) (p.nodup_iff.1 hn)
    rw [List.map_append, List.map_cons, List.nodup_append] at hn
    exact hn.2.2 _ (List.mem_map.2 ⟨y, hy, rfl⟩) _ List.mem_cons_self e
theorem filter_names_nodup {l : List Lb} (h : (l.map (·.1)).Nodup) (p : Lb → Bool) : ((l.filter p).map (·.1)).Nodup :=
  List.Sublist.nodup (List.Sublist.map _ List.filter_sublist) h
theorem setL_sorted {l : List Lb} (h : (l.map (·.1)).Nodup) : SortedN (setL l) := by
  unfold setL
  refine foldl_putL_sorted _ _ List.Pairwise.nil ?_
  simpa using filter_names_nodup h full
theorem setL_right {l : List Lb} (h : setB l = true) : rightP (setL l) := by
  obtain ⟨⟨h1, h2⟩, h3⟩ := setB_t.1 h
  refine rightP_iff.2 ⟨h3, fun x hx => ?_, setL_sorted h2⟩
  obtain ⟨hx1, hx2⟩ := List.mem_filter.1 ((setL_perm l).mem_iff.1 hx)
  have := h1 x hx1
  simp only [okN, okV, full, Bool.and_eq_true, decide_eq_true_eq] at *
  exact ⟨this.1, by omega, this.2⟩
/-- a right list is its own set -/
theorem right_setP {l : List Lb} (h : rightP l) : setP l ∧ setL l = l := by
  obtain ⟨h1, h2, h3⟩ := rightP_iff.1 h
  have hn := h3.nodup
  refine ⟨⟨fun x hx => ?_, hn⟩, ?_⟩
  · have := h2 x hx
    simp only [okN, okV, Bool.and_eq_true, decide_eq_true_eq] at *
    exact ⟨this.1, this.2.2⟩
  · refine (setL_sorted hn).unique h3 ((setL_perm l).trans ?_)
    rw [List.filter_eq_self.2 fun x hx => ?_]
    have := h2 x hx
    simp only [full, okV, Bool.and_eq_true, decide_eq_true_eq] at *
    omega
theorem right_setB {l : List Lb} (h : rightP l) : setB l = true := by
  obtain ⟨h1, h2⟩ := right_setP h
  exact setB_t.2 ⟨h1, by rw [h2]; exact h.1⟩

/-! the order of labels -/
def lbLt (x y : Lb) : Bool := ltS x.1 y.1 || (x.1.toList == y.1.toList && ltS x.2 y.2)
def cmpL (x y : Lb) : Int := if x = y then 0 else if lbLt x y then -1 else 1
theorem beq_t {a b : ByteArray} : (a.toList == b.toList) = true ↔ a = b := ⟨fun h => toList_ext (by simpa using h), fun h => by simp [h]⟩
theorem lbLt_irrefl (x : Lb) : lbLt x x = false := by simp [lbLt, ltS_irrefl]
theorem lbLt_iff {x y : Lb} : lbLt x y = true ↔ ltS x.1 y.1 = true ∨ x.1 = y.1 ∧ ltS x.2 y.2 = true := by simp only [lbLt, Bool.or_eq_true, Bool.and_eq_true, beq_t]
theorem lbLt_trans {x y z : Lb} (h : lbLt x y = true) (g : lbLt y z = true) : lbLt x z = true := by
  rw [lbLt_iff] at *
  rcases h with h | ⟨h1, h2⟩ <;> rcases g with g | ⟨g1, g2⟩
  · exact .inl (ltS_trans h g)
  · exact .inl (g1 ▸ h)
  · exact .inl (h1 ▸ g)
  · exact .inr ⟨h1.trans g1, ltS_trans h2 g2⟩
theorem lbLt_tri {x y : Lb} (h : lbLt x y = false) (g : lbLt y x = false) : x = y := by
  have h' : ¬ lbLt x y = true := by simp [h]
  have g' : ¬ lbLt y x = true := by simp [g]
  rw [lbLt_iff] at h' g'
  have e1 : x.1 = y.1 := ltS_tri (by cases e : ltS x.1 y.1; rfl; exact absurd (.inl e) h') (by cases e : ltS y.1 x.1; rfl; exact absurd (.inl e) g')
  have e2 : x.2 = y.2 := ltS_tri (by cases e : ltS x.2 y.2; rfl; exact absurd (.inr ⟨e1, e⟩) h') (by cases e : ltS y.2 x.2; rfl; exact absurd (.inr ⟨e1.symm, e⟩) g')
  exact Prod.ext e1 e2
theorem cmpL_neg (x y : Lb) : decide (cmpL x y < 0) = lbLt x y := by
  unfold cmpL
  by_cases h : x = y
  · subst h; rw [if_pos rfl, lbLt_irrefl]; rfl
  · rw [if_neg h]
    cases lbLt x y <;> rfl
/-- what the sort lays -/
def sortL (l : List Lb) : List Lb := l.mergeSort fun x y => !lbLt y x
theorem sortL_perm (l : List Lb) : (sortL l).Perm l := List.mergeSort_perm _ _
theorem sortL_pw (l : List Lb) : (sortL l).Pairwise fun x y => lbLt y x = false := by
  have h := List.pairwise_mergeSort (le := fun x y : Lb => !lbLt y x) (fun a b c hab hbc => ?_) (fun a b => ?_) l
  · refine List.Pairwise.imp (fun {a b} hab => ?_) h
    simpa using hab
  · simp only [Bool.not_eq_true'] at *
    cases hc : lbLt c a
    · rfl
    · exfalso
      cases hb : lbLt a b
      · have := lbLt_tri hab hb
        subst this
        rw [hc] at hbc; cases hbc
      · have := lbLt_trans hc hb
        rw [this] at hbc; cases hbc
  · cases ha : lbLt b a
    · rfl
    · cases hb : lbLt a b
      · rfl
      · have := lbLt_trans ha hb
        rw [lbLt_irrefl] at this; cases this
/-- two neighbours of one name -/
def twin (l : List Lb) : Prop := ∃ i x y, l[i]? = some x ∧ l[i + 1]? = some y ∧ x.1 = y.1
theorem sortL_twin {l : List Lb} (h : ¬ twin (sortL l)) : SortedN (sortL l) := by
  have h0 := sortL_pw l
  generalize sortL l = s at *
  unfold SortedN
  rw [List.pairwise_iff_getElem] at h0 ⊢
  have adj : ∀ i (hi : i + 1 < s.length), ltS (s[i]).1 (s[i + 1]).1 = true := by
    intro i hi
    have h1 := h0 i (i + 1) (by omega) hi (by omega)
    have h2 : (s[i]).1 ≠ (s[i + 1]).1 := fun e => h ⟨i, _, _, List.getElem?_eq_getElem (by omega), List.getElem?_eq_getElem hi, e⟩
    have h3 : ¬ lbLt s[i + 1] s[i] = true := by simp [h1]
    rw [lbLt_iff] at h3
    cases hc : ltS (s[i]).1 (s[i + 1]).1
    · refine absurd (ltS_tri hc ?_) h2
      cases hd : ltS (s[i + 1]).1 (s[i]).1
      · rfl
      · exact absurd (.inl hd) h3
    · rfl
  have key : ∀ d i j (hi : i < s.length) (hj : j < s.length), j = i + d + 1 → ltS (s[i]).1 (s[j]).1 = true := by
    intro d
    induction d with
    | zero => intro i j hi hj hd; subst hd; exact adj i (by omega)
    | succ d ih =>
      intro i j hi hj hd
      have h1 := ih i (j - 1) hi (by omega) (by omega)
      have h2 := adj (j - 1) (by omega)
      have e : j - 1 + 1 = j := by omega
      simp only [e] at h2
      exact ltS_trans h1 h2
  intro i j hi hj hij
  exact key (j - i - 1) i j hi hj (by omega)
theorem twin_not_nodup {l : List Lb} (h : twin l) : ¬ (l.map (·.1)).Nodup := by
  obtain ⟨i, x, y, hx, hy, e⟩ := h
  intro hn
  unfold List.Nodup at hn
  rw [List.pairwise_map, List.pairwise_iff_getElem] at hn
  obtain ⟨hi, rfl⟩ := List.getElem?_eq_some_iff.1 hx
  obtain ⟨hj, rfl⟩ := List.getElem?_eq_some_iff.1 hy
  exact hn i (i + 1) hi hj (by omega) e
theorem sortL_set {l : List Lb} (h : ¬ twin (sortL l)) : (l.map (·.1)).Nodup ∧ (sortL l).filter full = setL l := by
  have hs := sortL_twin h
  have hn : (l.map (·.1)).Nodup := ((sortL_perm l).map _).nodup_iff.1 hs.nodup
  refine ⟨hn, SortedN.unique (List.Pairwise.filter _ hs) (setL_sorted hn) (((sortL_perm l).filter _).trans (setL_perm l).symm)⟩
theorem sortL_dup {l : List Lb} (h : twin (sortL l)) : ¬ setP l := fun hp => twin_not_nodup h (((sortL_perm l).map _).nodup_iff.2 hp.2)
end Go.Proofs.YtllhkegefinlbaaGreatDoor
