/- Get, Keep, Drop, the program's. -/
import GoSem.Op.String
import Derived.Lib.Strings
import Derived.Test.YtikaamonmaohjaaGreatDoorProg
import Derived.WalkKit
import Derived.WalkLawsBesides
import Derived.Handy
import Derived.Lib.Hide
import Derived.IntWalk
import Derived.Outline
import Derived.Test.YtikaamonmaohjaaGreatDoorSetP
import Derived.Deep.DeepMust
import Derived.Deep.RegionWith
import Derived.Below
import Derived.Deep.Draws
import Derived.Deep.QuietTactic
import Derived.BigQuiet
import Derived.Laws.OwnMore
import Derived.Laws.AppendOwn
import Derived.Test.YtikaamonmaohjaaGreatDoorCompile
import Derived.Laws.StructEq
import Derived.Lib.QuietBelow
import Derived.Deep.LoopGhost
namespace Go.Proofs.YtikaamonmaohjaaGreatDoor

/-- a label: its name and its value -/
abbrev Lb := ByteArray × ByteArray
def ltS (a b : ByteArray) : Bool := Op.bytesLess a.toList b.toList

theorem bl_eq : ∀ (x y : List UInt8), Op.bytesLess x y = decide (x < y)
  | [], [] => by simp [Op.bytesLess]
  | _ :: _, [] => by simp [Op.bytesLess]
  | [], _ :: _ => by simp [Op.bytesLess]
  | a :: x, b :: y => by
    rw [Op.bytesLess, bl_eq x y]
    by_cases h : a = b
    · subst h; simp
    · simp [List.cons_lt_cons_iff, h]
theorem toList_ext {a b : ByteArray} (h : a.toList = b.toList) : a = b := by
  apply ByteArray.ext
  apply Array.ext'
  rw [← Lib.toList_data, ← Lib.toList_data]
  exact h
theorem ltS_irrefl (a : ByteArray) : ltS a a = false := by
  unfold ltS; rw [bl_eq]; simp [List.lt_irrefl]
theorem ltS_trans {a b c : ByteArray} (h : ltS a b = true) (g : ltS b c = true) : ltS a c = true := by
  unfold ltS at *; rw [bl_eq] at *
  simp only [decide_eq_true_eq] at *
  exact List.lt_trans h g
theorem ltS_asymm {a b : ByteArray} (h : ltS a b = true) : ltS b a = false := by
  unfold ltS at *; rw [bl_eq] at *
  simp only [decide_eq_true_eq, decide_eq_false_iff_not] at *
  exact List.lt_asymm h
theorem ltS_tri {a b : ByteArray} (h : ltS a b = false) (g : ltS b a = false) : a = b := by
  unfold ltS at *; rw [bl_eq] at *
  simp only [decide_eq_false_iff_not, List.not_lt] at *
  exact toList_ext (List.le_antisymm g h)

/-! names -/
def letB (c : UInt8) : Bool := decide (65 ≤ c.toNat ∧ c.toNat ≤ 90 ∨ 97 ≤ c.toNat ∧ c.toNat ≤ 122 ∨ c.toNat = 95)
def digB (c : UInt8) : Bool := decide (48 ≤ c.toNat ∧ c.toNat ≤ 57)
def nameL : List UInt8 → Bool
  | [] => false
  | c :: r => decide (r.length + 1 ≤ 64) && letB c && r.all (fun d => letB d || digB d)
def nameB (s : ByteArray) : Bool := nameL s.data.toList
theorem let_dig {c : UInt8} (h : letB c = true) : digB c = false := by
  unfold letB at h; unfold digB; simp at *; omega

/-! right lists -/
def okV (x : Lb) : Bool := nameB x.1 && decide (1 ≤ x.2.size ∧ x.2.size ≤ 256)
def okAt (l : List Lb) (i : Nat) : Prop := ∃ x, l[i]? = some x ∧ okV x = true ∧ ∀ y, 0 < i → l[i - 1]? = some y → ltS y.1 x.1 = true
def rightP (l : List Lb) : Prop := l.length ≤ 32 ∧ ∀ i, i < l.length → okAt l i

/-! sorted by names -/
def SortedN (l : List Lb) : Prop := l.Pairwise fun x y => ltS x.1 y.1 = true
theorem rightP_iff {l : List Lb} : rightP l ↔ l.length ≤ 32 ∧ (∀ x ∈ l, okV x = true) ∧ SortedN l := by
  unfold rightP
  refine and_congr Iff.rfl ⟨fun h => ⟨fun x hx => ?_, ?_⟩, fun ⟨h1, h2⟩ i hi => ?_⟩
  · obtain ⟨i, hi, rfl⟩ := List.getElem_of_mem hx
    obtain ⟨y, hy, ho, _⟩ := h i hi
    rw [List.getElem?_eq_getElem hi] at hy
    cases hy; exact ho
  · unfold SortedN
    have key : ∀ d i j (hi : i < l.length) (hj : j < l.length), j = i + d + 1 → ltS (l[i]).1 (l[j]).1 = true := by
      intro d
      induction d with
      | zero =>
        intro i j hi hj hd
        obtain ⟨y, hy, _, ho⟩ := h j hj
        rw [List.getElem?_eq_getElem hj] at hy
        cases hy
        refine ho _ (by omega) ?_
        rw [List.getElem?_eq_getElem (by omega)]
        congr 1
        congr 1
        omega
      | succ d ih =>
        intro i j hi hj hd
        have h1 := ih i (j - 1) hi (by omega) (by omega)
        obtain ⟨y, hy, _, ho⟩ := h j hj
        rw [List.getElem?_eq_getElem hj] at hy
        cases hy
        exact ltS_trans h1 (ho _ (by omega) (List.getElem?_eq_getElem (by omega)))
    rw [List.pairwise_iff_getElem]
    intro i j hi hj hij
    exact key (j - i - 1) i j hi hj (by omega)
  · refine ⟨l[i], List.getElem?_eq_getElem hi, h1 _ (List.getElem_mem hi), fun y h0 hy => ?_⟩
    obtain ⟨hlt, rfl⟩ := List.getElem?_eq_some_iff.1 hy
    exact List.pairwise_iff_getElem.1 h2 _ _ _ _ (by omega)
def rightB (l : List Lb) : Bool := decide (l.length ≤ 32 ∧ (∀ x ∈ l, okV x = true) ∧ l.Pairwise fun x y => ltS x.1 y.1 = true)
theorem rightB_t {l : List Lb} : rightB l = true ↔ rightP l := by rw [rightP_iff]; unfold rightB SortedN; simp
theorem rightB_f {l : List Lb} : rightB l = false ↔ ¬ rightP l := by rw [← rightB_t]; simp
theorem SortedN.nodup {l : List Lb} (h : SortedN l) : (l.map (·.1)).Nodup := by
  unfold List.Nodup
  rw [List.pairwise_map]
  refine List.Pairwise.imp (fun {a b} hab e => ?_) h
  rw [e, ltS_irrefl] at hab
  cases hab
theorem SortedN.unique {l r : List Lb} (h : SortedN l) (g : SortedN r) (p : l.Perm r) : l = r := by
  refine List.Perm.eq_of_pairwise (fun a b _ _ hab hba => ?_) h g p
  have := ltS_asymm hab
  rw [hba] at this
  cases this

/-! the set -/
def okN (x : Lb) : Bool := nameB x.1 && decide (x.2.size ≤ 256)
def setP (l : List Lb) : Prop := (∀ x ∈ l, okN x = true) ∧ (l.map (·.1)).Nodup
def full (x : Lb) : Bool := decide (x.2.size ≠ 0)
def putL (l : List Lb) (x : Lb) : List Lb := l.takeWhile (fun y => ltS y.1 x.1) ++ x :: l.dropWhile (fun y => ltS y.1 x.1)
def setL (l : List Lb) : List Lb := (l.filter full).foldl putL []
def lb_setB (l : List Lb) : Bool := decide (((∀ x ∈ l, okN x = true) ∧ (l.map (·.1)).Nodup) ∧ (setL l).length ≤ 32)
def setV (l : List Lb) : List Lb := if lb_setB l then setL l else []
def setE (l : List Lb) : Int := if lb_setB l then 0 else 1
theorem setB_t {l : List Lb} : lb_setB l = true ↔ setP l ∧ (setL l).length ≤ 32 := by unfold lb_setB setP; simp
theorem putL_perm (l : List Lb) (x : Lb) : (putL l x).Perm (x :: l) := by
  unfold putL
  have h := List.takeWhile_append_dropWhile (p := fun y => ltS y.1 x.1) (l := l)
  conv => rhs; rw [← h]
  exact List.perm_middle
theorem putL_sorted {l : List Lb} {x : Lb} (h : SortedN l) (hx : ∀ y ∈ l, y.1 ≠ x.1) : SortedN (putL l x) := by
  induction l with
  | nil => simp [putL, SortedN]
  | cons a r ih =>
    unfold SortedN at h ih ⊢
    obtain ⟨ha, hr⟩ := List.pairwise_cons.1 h
    by_cases hl : ltS a.1 x.1 = true
    · have e : putL (a :: r) x = a :: putL r x := by simp [putL, hl]
      rw [e, List.pairwise_cons]
      refine ⟨fun y hy => ?_, ih hr fun y hy => hx y (List.mem_cons_of_mem _ hy)⟩
      rcases List.mem_cons.1 ((putL_perm r x).mem_iff.1 hy) with rfl | hy
      · exact hl
      · exact ha _ hy
    · have hl' : ltS a.1 x.1 = false := by simpa using hl
      have e : putL (a :: r) x = x :: a :: r := by simp [putL, hl']
      have hxa : ltS x.1 a.1 = true := by
        cases hc : ltS x.1 a.1
        · exact absurd (ltS_tri hl' hc) (hx a List.mem_cons_self)
        · rfl
      rw [e, List.pairwise_cons]
      refine ⟨fun y hy => ?_, h⟩
      rcases List.mem_cons.1 hy with rfl | hy
      · exact hxa
      · exact ltS_trans hxa (ha _ hy)
theorem foldl_putL_perm (r : List Lb) : ∀ l, (r.foldl putL l).Perm (l ++ r) := by
  induction r with
  | nil => intro l; simp
  | cons a r ih =>
    intro l
    rw [List.foldl_cons]
    refine (ih _).trans ?_
    refine ((putL_perm l a).append_right r).trans ?_
    exact List.perm_middle.symm
theorem setL_perm (l : List Lb) : (setL l).Perm (l.filter full) := by
  have := foldl_putL_perm (l.filter full) []
  simpa [setL] using this
theorem foldl_putL_sorted (r : List Lb) : ∀ l, SortedN l → ((l ++ r).map (·.1)).Nodup → SortedN (r.foldl putL l) := by
  induction r with
  | nil => intro l h _; exact h
  | cons a r ih =>
    intro l h hn
    rw [List.foldl_cons]
    have p : ((l ++ a :: r).map (·.1)).Perm ((putL l a ++ r).map (·.1)) :=
      (List.Perm.map _ (List.perm_middle.trans ((putL_perm l a).symm.append_right r)))
    refine ih _ (putL_sorted h fun y hy e => ?_) (p.nodup_iff.1 hn)
    rw [List.map_append, List.map_cons, List.nodup_append] at hn
    exact hn.2.2 _ (List.mem_map.2 ⟨y, hy, rfl⟩) _ List.mem_cons_self e
theorem filter_names_nodup {l : List Lb} (h : (l.map (·.1)).Nodup) (p : Lb → Bool) : ((l.filter p).map (·.1)).Nodup :=
  List.Sublist.nodup (List.Sublist.map _ List.filter_sublist) h
theorem setL_sorted {l : List Lb} (h : (l.map (·.1)).Nodup) : SortedN (setL l) := by
  unfold setL
  refine foldl_putL_sorted _ _ List.Pairwise.nil ?_
  simpa using filter_names_nodup h full
theorem setL_right {l : List Lb} (h : lb_setB l = true) : rightP (setL l) := by
  obtain ⟨⟨h1, h2⟩, h3⟩ := setB_t.1 h
  refine rightP_iff.2 ⟨h3, fun x hx => ?_, setL_sorted h2⟩
  obtain ⟨hx1, hx2⟩ := List.mem_filter.1 ((setL_perm l).mem_iff.1 hx)
  have := h1 x hx1
  simp only [okN, okV, full, Bool.and_eq_true, decide_eq_true_eq] at *
  exact ⟨this.1, by omega, this.2⟩
/-- a right list is its lb_own set -/
theorem right_setP {l : List Lb} (h : rightP l) : setP l ∧ setL l = l := by
  obtain ⟨h1, h2, h3⟩ := rightP_iff.1 h
  have hn := h3.nodup
  refine ⟨⟨fun x hx => ?_, hn⟩, ?_⟩
  · have := h2 x hx
    simp only [okN, okV, Bool.and_eq_true, decide_eq_true_eq] at *
    exact ⟨this.1, this.2.2⟩
  · refine (setL_sorted hn).unique h3 ((setL_perm l).trans ?_)
    rw [List.filter_eq_self.2 fun x hx => ?_]
    have := h2 x hx
    simp only [full, okV, Bool.and_eq_true, decide_eq_true_eq] at *
    omega
theorem right_setB {l : List Lb} (h : rightP l) : lb_setB l = true := by
  obtain ⟨h1, h2⟩ := right_setP h
  exact setB_t.2 ⟨h1, by rw [h2]; exact h.1⟩

/-! the order of labels -/
def lbLt (x y : Lb) : Bool := ltS x.1 y.1 || (x.1.toList == y.1.toList && ltS x.2 y.2)
def cmpL (x y : Lb) : Int := if x = y then 0 else if lbLt x y then -1 else 1
theorem beq_t {a b : ByteArray} : (a.toList == b.toList) = true ↔ a = b := ⟨fun h => toList_ext (by simpa using h), fun h => by simp [h]⟩
theorem lbLt_irrefl (x : Lb) : lbLt x x = false := by simp [lbLt, ltS_irrefl]
theorem lbLt_iff {x y : Lb} : lbLt x y = true ↔ ltS x.1 y.1 = true ∨ x.1 = y.1 ∧ ltS x.2 y.2 = true := by simp only [lbLt, Bool.or_eq_true, Bool.and_eq_true, beq_t]
theorem lbLt_trans {x y z : Lb} (h : lbLt x y = true) (g : lbLt y z = true) : lbLt x z = true := by
  rw [lbLt_iff] at *
  rcases h with h | ⟨h1, h2⟩ <;> rcases g with g | ⟨g1, g2⟩
  · exact .inl (ltS_trans h g)
  · exact .inl (g1 ▸ h)
  · exact .inl (h1 ▸ g)
  · exact .inr ⟨h1.trans g1, ltS_trans h2 g2⟩
theorem lbLt_tri {x y : Lb} (h : lbLt x y = false) (g : lbLt y x = false) : x = y := by
  have h' : ¬ lbLt x y = true := by simp [h]
  have g' : ¬ lbLt y x = true := by simp [g]
  rw [lbLt_iff] at h' g'
  have e1 : x.1 = y.1 := ltS_tri (by cases e : ltS x.1 y.1; rfl; exact absurd (.inl e) h') (by cases e : ltS y.1 x.1; rfl; exact absurd (.inl e) g')
  have e2 : x.2 = y.2 := ltS_tri (by cases e : ltS x.2 y.2; rfl; exact absurd (.inr ⟨e1, e⟩) h') (by cases e : ltS y.2 x.2; rfl; exact absurd (.inr ⟨e1.symm, e⟩) g')
  exact Prod.ext e1 e2
theorem cmpL_neg (x y : Lb) : decide (cmpL x y < 0) = lbLt x y := by
  unfold cmpL
  by_cases h : x = y
  · subst h; rw [if_pos rfl, lbLt_irrefl]; rfl
  · rw [if_neg h]
    cases lbLt x y <;> rfl
/-- what the sort lays -/
def sortL (l : List Lb) : List Lb := l.mergeSort fun x y => !lbLt y x
theorem sortL_perm (l : List Lb) : (sortL l).Perm l := List.mergeSort_perm _ _
theorem sortL_pw (l : List Lb) : (sortL l).Pairwise fun x y => lbLt y x = false := by
  have h := List.pairwise_mergeSort (le := fun x y : Lb => !lbLt y x) (fun a b c hab hbc => ?_) (fun a b => ?_) l
  · refine List.Pairwise.imp (fun {a b} hab => ?_) h
    simpa using hab
  · simp only [Bool.not_eq_true'] at *
    cases hc : lbLt c a
    · rfl
    · exfalso
      cases hb : lbLt a b
      · have := lbLt_tri hab hb
        subst this
        rw [hc] at hbc; cases hbc
      · have := lbLt_trans hc hb
        rw [this] at hbc; cases hbc
  · cases ha : lbLt b a
    · rfl
    · cases hb : lbLt a b
      · rfl
      · have := lbLt_trans ha hb
        rw [lbLt_irrefl] at this; cases this
/-- two neighbours of one name -/
def twin (l : List Lb) : Prop := ∃ i x y, l[i]? = some x ∧ l[i + 1]? = some y ∧ x.1 = y.1
theorem sortL_twin {l : List Lb} (h : ¬ twin (sortL l)) : SortedN (sortL l) := by
  have h0 := sortL_pw l
  generalize sortL l = s at *
  unfold SortedN
  rw [List.pairwise_iff_getElem] at h0 ⊢
  have adj : ∀ i (hi : i + 1 < s.length), ltS (s[i]).1 (s[i + 1]).1 = true := by
    intro i hi
    have h1 := h0 i (i + 1) (by omega) hi (by omega)
    have h2 : (s[i]).1 ≠ (s[i + 1]).1 := fun e => h ⟨i, _, _, List.getElem?_eq_getElem (by omega), List.getElem?_eq_getElem hi, e⟩
    have h3 : ¬ lbLt s[i + 1] s[i] = true := by simp [h1]
    rw [lbLt_iff] at h3
    cases hc : ltS (s[i]).1 (s[i + 1]).1
    · refine absurd (ltS_tri hc ?_) h2
      cases hd : ltS (s[i + 1]).1 (s[i]).1
      · rfl
      · exact absurd (.inl hd) h3
    · rfl
  have key : ∀ d i j (hi : i < s.length) (hj : j < s.length), j = i + d + 1 → ltS (s[i]).1 (s[j]).1 = true := by
    intro d
    induction d with
    | zero => intro i j hi hj hd; subst hd; exact adj i (by omega)
    | succ d ih =>
      intro i j hi hj hd
      have h1 := ih i (j - 1) hi (by omega) (by omega)
      have h2 := adj (j - 1) (by omega)
      have e : j - 1 + 1 = j := by omega
      simp only [e] at h2
      exact ltS_trans h1 h2
  intro i j hi hj hij
  exact key (j - i - 1) i j hi hj (by omega)
theorem twin_not_nodup {l : List Lb} (h : twin l) : ¬ (l.map (·.1)).Nodup := by
  obtain ⟨i, x, y, hx, hy, e⟩ := h
  intro hn
  unfold List.Nodup at hn
  rw [List.pairwise_map, List.pairwise_iff_getElem] at hn
  obtain ⟨hi, rfl⟩ := List.getElem?_eq_some_iff.1 hx
  obtain ⟨hj, rfl⟩ := List.getElem?_eq_some_iff.1 hy
  exact hn i (i + 1) hi hj (by omega) e
theorem sortL_set {l : List Lb} (h : ¬ twin (sortL l)) : (l.map (·.1)).Nodup ∧ (sortL l).filter full = setL l := by
  have hs := sortL_twin h
  have hn : (l.map (·.1)).Nodup := ((sortL_perm l).map _).nodup_iff.1 hs.nodup
  refine ⟨hn, SortedN.unique (List.Pairwise.filter _ hs) (setL_sorted hn) (((sortL_perm l).filter _).trans (setL_perm l).symm)⟩
theorem sortL_dup {l : List Lb} (h : twin (sortL l)) : ¬ setP l := fun hp => twin_not_nodup h (((sortL_perm l).map _).nodup_iff.2 hp.2)
end Go.Proofs.YtikaamonmaohjaaGreatDoor
namespace Go.Proofs.YtikaamonmaohjaaGreatDoor
open Go.RowKit
set_option maxRecDepth 100000

def ltrI (c : Int) : Bool := decide (65 ≤ c ∧ c ≤ 90 ∨ 97 ≤ c ∧ c ≤ 122 ∨ c = 95)
def digI (c : Int) : Bool := decide (48 ≤ c ∧ c ≤ 57)
def prnI (c : Int) : Bool := decide (32 ≤ c ∧ c < 127)
theorem letB_I (c : UInt8) : letB c = ltrI (c.toNat : Int) := by unfold letB ltrI; rw [decide_eq_decide]; omega
theorem digB_I (c : UInt8) : digB c = digI (c.toNat : Int) := by unfold digB digI; rw [decide_eq_decide]; omega
theorem dig_cases (c : Int) : (c < 48 ∧ digI c = false) ∨ (48 ≤ c ∧ c ≤ 57 ∧ digI c = true) ∨ (57 < c ∧ digI c = false) := by
  unfold digI; simp only [decide_eq_true_eq, decide_eq_false_iff_not]; omega
theorem prn_cases (c : Int) : (c < 32 ∧ prnI c = false) ∨ (32 ≤ c ∧ c < 127 ∧ prnI c = true) ∨ (127 ≤ c ∧ prnI c = false) := by
  unfold prnI; simp only [decide_eq_true_eq, decide_eq_false_iff_not]; omega
theorem let_cases (c : Int) : (c < 65 ∧ ltrI c = false) ∨ (65 ≤ c ∧ c ≤ 90 ∧ ltrI c = true) ∨ (90 < c ∧ c < 95 ∧ ltrI c = false) ∨ (c = 95 ∧ ltrI c = true) ∨ (95 < c ∧ c < 97 ∧ ltrI c = false) ∨ (97 ≤ c ∧ c ≤ 122 ∧ ltrI c = true) ∨ (122 < c ∧ ltrI c = false) := by
  unfold ltrI; simp only [decide_eq_true_eq, decide_eq_false_iff_not]; omega

theorem isDigit_any (c : Int) (w : World) :
    Calls Tryz.prog 90 #[.int .u8 c] w fun e w' => e = .returned (.bool (digI c)) ∧ w = w' := by
  rcases dig_cases c with ⟨h1, h⟩ | ⟨h1, h2, h⟩ | ⟨h1, h⟩
  all_goals
    have H := Lib.hid h; clear h
    go_enter Tryz.func90, Tryz.ntmps90
    go_wp2
    go_ret
    exact ⟨by rw [H.out]; first | rfl | (simp; omega), rfl⟩
theorem isPrinted_any (c : Int) (w : World) :
    Calls Tryz.prog 118 #[.int .u8 c] w fun e w' => e = .returned (.bool (prnI c)) ∧ w = w' := by
  rcases prn_cases c with ⟨h1, h⟩ | ⟨h1, h2, h⟩ | ⟨h1, h⟩
  all_goals
    have H := Lib.hid h; clear h
    go_enter Tryz.func118, Tryz.ntmps118
    go_wp2
    go_ret
    exact ⟨by rw [H.out]; first | rfl | (simp; omega), rfl⟩
theorem isLetter_any (c : Int) (w : World) :
    Calls Tryz.prog 91 #[.int .u8 c] w fun e w' => e = .returned (.bool (ltrI c)) ∧ w = w' := by
  rcases let_cases c with ⟨h1, h⟩ | ⟨h1, h2, h⟩ | ⟨h1, h2, h⟩ | ⟨rfl, h⟩ | ⟨h1, h2, h⟩ | ⟨h1, h2, h⟩ | ⟨h1, h⟩
  all_goals
    have H := Lib.hid h; clear h
    go_enter Tryz.func91, Tryz.ntmps91
    go_wp2
    go_ret
    exact ⟨by rw [H.out]; first | rfl | (simp; omega), rfl⟩
end Go.Proofs.YtikaamonmaohjaaGreatDoor
namespace Go.Proofs.YtikaamonmaohjaaGreatDoor
open Go.RowKit
set_option maxRecDepth 100000

def chOK (c : UInt8) : Bool := letB c || digB c
def allOK (l : List UInt8) : Bool := l.all chOK
theorem drop_byte (s : ByteArray) (k : Nat) (h : k < s.size) : s.data.toList.drop k = s[k] :: s.data.toList.drop (k + 1) := by
  rw [List.drop_eq_getElem_cons (by simpa using h)]; rfl
theorem allOK_step (s : ByteArray) (k : Nat) (h : k < s.size) : allOK (s.data.toList.drop k) = ((ltrI s[k].toNat || digI s[k].toNat) && allOK (s.data.toList.drop (k + 1))) := by
  rw [drop_byte s k h]; unfold allOK chOK; rw [List.all_cons, letB_I, digB_I]
theorem allOK_end (s : ByteArray) : allOK (s.data.toList.drop s.size) = true := by
  rw [List.drop_of_length_le (by simp)]; rfl
theorem nameB_0 {s : ByteArray} (h : s.size = 0) : nameB s = false := by
  have : s.data.toList = [] := List.eq_nil_of_length_eq_zero (by simpa using h)
  unfold nameB; rw [this]; rfl
theorem nameB_big {s : ByteArray} (h : 64 < s.size) : nameB s = false := by
  unfold nameB
  have hl : 64 < s.data.toList.length := by simpa using h
  cases e : s.data.toList with
  | nil => rfl
  | cons c r => rw [e] at hl; simp only [List.length_cons] at hl; simp only [nameL, Bool.and_eq_false_iff]; left; left; simp; omega
theorem nameB_ltr {s : ByteArray} (h : 0 < s.size) (h2 : s.size ≤ 64) (c : ltrI s[0].toNat = true) : nameB s = allOK (s.data.toList.drop 1) := by
  have e := drop_byte s 0 h
  rw [List.drop_zero] at e
  have hl : s.data.toList.length ≤ 64 := by simpa using h2
  unfold nameB allOK chOK
  rw [e] at hl ⊢
  simp only [List.length_cons] at hl
  simp only [nameL, letB_I, c, decide_eq_true hl, Bool.true_and]
  rfl
theorem nameB_no {s : ByteArray} (h : 0 < s.size) (c : ltrI s[0].toNat = false) : nameB s = false := by
  have e := drop_byte s 0 h
  rw [List.drop_zero] at e
  unfold nameB
  rw [e]
  simp [nameL, letB_I, c]
theorem ltr_dig {c : Int} (h : ltrI c = true) : digI c = false := by unfold ltrI at h; unfold digI; simp at *; omega
theorem nameB_p {s : ByteArray} (h : 0 < s.size) (h2 : s.size ≤ 64) (c : digI s[0].toNat = false) : nameB s = allOK (s.data.toList.drop 0) := by
  rw [allOK_step s 0 h, c, Bool.or_false]
  cases hc : ltrI s[0].toNat
  · rw [nameB_no h hc]; rfl
  · rw [nameB_ltr h h2 hc]; rfl
theorem nameB_d {s : ByteArray} (h : 0 < s.size) (c : digI s[0].toNat = true) : nameB s = false := by
  refine nameB_no h ?_
  cases hc : ltrI s[0].toNat
  · rfl
  · rw [ltr_dig hc] at c; cases c
/-- a text that is none, or not: as the walk asks -/
theorem ne_facts {s : ByteArray} (h : 0 < s.size) : (¬ s.toList = []) ∧ (s.toList.isEmpty = false) ∧ ((!s.toList.isEmpty) = true) := by
  have : ¬ s.toList = [] := by
    rw [Lib.toList_data]; intro e
    have : s.data.toList.length = 0 := by rw [e]; rfl
    have : s.size = 0 := by simpa using this
    omega
  exact ⟨this, by simpa using this, by simpa using this⟩
theorem empty_eq {s : ByteArray} (h : s.size = 0) : s = ⟨#[]⟩ := by
  apply ByteArray.ext; apply Array.eq_empty_of_size_eq_zero; exact h

theorem name_any (s : ByteArray) (w : World) (hs : s.size ≤ maxLen) :
    Calls Tryz.prog 43 #[.string s] w fun e w' => e = .returned (.bool (nameB s)) ∧ w = w' := by
  unfold maxLen at hs
  by_cases h0 : s.size = 0
  · have H := Lib.hid (nameB_0 h0)
    obtain rfl := empty_eq h0
    clear h0 hs
    go_enter Tryz.func43, Tryz.ntmps43
    go_wp2
    go_ret
    exact ⟨by rw [H.out]; rfl, rfl⟩
  have h0 : 0 < s.size := by omega
  obtain ⟨n1, n2, n3⟩ := ne_facts h0
  by_cases h1 : 64 < s.size
  · have H := Lib.hid (nameB_big h1)
    go_enter Tryz.func43, Tryz.ntmps43
    go_wp2
    go_ret
    exact ⟨by rw [H.out]; rfl, rfl⟩
  have h1 : s.size ≤ 64 := by omega
  cases hd : digI s[0].toNat
  case true =>
    have H := Lib.hid (nameB_d h0 hd)
    go_enter Tryz.func43, Tryz.ntmps43
    go_wp2_with (go_at_call 90; refine (isDigit_any _ _).mono ?_; rintro e w' ⟨rfl, rfl⟩)
    go_ret
    exact ⟨by rw [H.out]; rfl, rfl⟩
  have H := Lib.hid (nameB_p h0 h1 hd)
  go_enter Tryz.func43, Tryz.ntmps43
  go_wp2_with (go_at_call 90; refine (isDigit_any _ _).mono ?_; rintro e w' ⟨rfl, rfl⟩)
  clear hd
  go_loop [18] (fun i => ∃ k : Nat, k ≤ s.size ∧ i = .int .i64 k ∧ Hid (nameB s = allOK (s.data.toList.drop k))) (fun i => s.size - (intOf i).toNat)
  case atStart => exact ⟨0, Nat.zero_le _, rfl, H⟩
  case round =>
    obtain ⟨k, hk, rfl, HR⟩ := hrel
    by_cases hlt : k < s.size
    · have HS := Lib.hid (allOK_step s k hlt)
      cases c1 : ltrI s[k].toNat <;> cases c2 : digI s[k].toNat
      case false.false =>
        go_wp2_with (first | (go_at_call 91; refine (isLetter_any _ _).mono ?_; rintro e w' ⟨rfl, rfl⟩) | (go_at_call 90; refine (isDigit_any _ _).mono ?_; rintro e w' ⟨rfl, rfl⟩))
        go_ret
        exact ⟨by rw [HR.out, HS.out, c1, c2]; rfl, rfl⟩
      all_goals
        have HN : Hid (nameB s = allOK (s.data.toList.drop (k + 1))) := Lib.hid (by rw [HR.out, HS.out, c1, c2]; rfl)
        go_wp2_with (first | (go_at_call 91; refine (isLetter_any _ _).mono ?_; rintro e w' ⟨rfl, rfl⟩) | (go_at_call 90; refine (isDigit_any _ _).mono ?_; rintro e w' ⟨rfl, rfl⟩))
        go_round
        case rel => exact ⟨k + 1, by omega, by go_num, HN⟩
        case measure => simp [intOf]; omega
    · obtain rfl : k = s.size := by omega
      have HE := Lib.hid (allOK_end s)
      go_wp2
      go_ret
      exact ⟨by rw [HR.out, HE.out]; rfl, rfl⟩

end Go.Proofs.YtikaamonmaohjaaGreatDoor
namespace Go.Proofs.YtikaamonmaohjaaGreatDoor
open Go.RowKit

theorem quiet_add_left {P : Program} {f : FuncId} {args : Array Value} {w : World} {a n : Nat} {v : Value}
    (h : Calls P f args (w.drewN (a + n)) fun e w' => e = .returned v ∧ w.drewN (a + n) = w') :
    Calls P f args (w.drewN (a + n)) fun e w'' => e = .returned v ∧ ∃ m, w'' = w.drewN (a + m) :=
  h.mono fun _ _ ⟨he, hm⟩ => ⟨he, n, hm.symm⟩
/-- a slice of labels reads as a list -/
def LabsAt (W : World) (A : Option Addr) (l : List Lb) : Prop :=
  0 < l.length → ∃ b o, A = some ⟨b, o, none⟩ ∧ ∀ i x, l[i]? = some x → W.cell? ⟨b, o + i * 2, none⟩ = some (.string x.1) ∧ W.cell? ⟨b, o + i * 2 + 1, none⟩ = some (.string x.2)
/-- the texts are such as the model has -/
def Wd (l : List Lb) : Prop := ∀ x ∈ l, x.1.size ≤ maxLen ∧ x.2.size ≤ maxLen
theorem LabsAt.gr {W W' : World} {A : Option Addr} {l : List Lb} (h : LabsAt W A l) (g : Gr W W') : LabsAt W' A l := fun h0 => by
  obtain ⟨b, o, e, hc⟩ := h h0
  exact ⟨b, o, e, fun i x hx => ⟨g.cell (hc i x hx).1, g.cell (hc i x hx).2⟩⟩
theorem LabsAt.none_ (W : World) (A : Option Addr) : LabsAt W A [] := fun h => absurd h (by simp)
theorem LabsAt.at_ {W : World} {A : Option Addr} {l : List Lb} (h : LabsAt W A l) {k : Nat} (hk : k < l.length) :
    ∃ b o, A = some ⟨b, o, none⟩ ∧ W.cell? ⟨b, o + k * 2, none⟩ = some (.string (l[k]).1) ∧ W.cell? ⟨b, o + k * 2 + 1, none⟩ = some (.string (l[k]).2) ∧ b < W.heap.size := by
  obtain ⟨b, o, e, hc⟩ := h (by omega)
  obtain ⟨h1, h2⟩ := hc k _ (List.getElem?_eq_getElem hk)
  exact ⟨b, o, e, h1, h2, World.block_lt_of_cell? W _ h1⟩
theorem LabsAt.two {W : World} {A : Option Addr} {l : List Lb} (h : LabsAt W A l) {k j : Nat} (hk : k < l.length) (hj : j < l.length) :
    ∃ b o, A = some ⟨b, o, none⟩ ∧ W.cell? ⟨b, o + k * 2, none⟩ = some (.string (l[k]).1) ∧ W.cell? ⟨b, o + k * 2 + 1, none⟩ = some (.string (l[k]).2) ∧ W.cell? ⟨b, o + j * 2, none⟩ = some (.string (l[j]).1) ∧ W.cell? ⟨b, o + j * 2 + 1, none⟩ = some (.string (l[j]).2) ∧ b < W.heap.size := by
  obtain ⟨b, o, e, hc⟩ := h (by omega)
  obtain ⟨h1, h2⟩ := hc k _ (List.getElem?_eq_getElem hk)
  obtain ⟨h3, h4⟩ := hc j _ (List.getElem?_eq_getElem hj)
  exact ⟨b, o, e, h1, h2, h3, h4, World.block_lt_of_cell? W _ h1⟩

/-! right: step by step -/
def okUpTo (l : List Lb) (k : Nat) : Prop := ∀ i, i < k → okAt l i
theorem right_all {l : List Lb} (h : okUpTo l l.length) (h32 : l.length ≤ 32) : rightB l = true := rightB_t.2 ⟨h32, h⟩
theorem right_not {l : List Lb} {k : Nat} (hk : k < l.length) (h : ¬ okAt l k) : rightB l = false := rightB_f.2 fun hr => h (hr.2 k hk)
theorem right_big {l : List Lb} (h : 32 < l.length) : rightB l = false := rightB_f.2 fun hr => by have := hr.1; omega
theorem okUpTo_0 (l : List Lb) : okUpTo l 0 := fun i hi => absurd hi (by omega)
theorem okUpTo_s {l : List Lb} {k : Nat} (h : okUpTo l k) (g : okAt l k) : okUpTo l (k + 1) := fun i hi => by
  by_cases e : i = k
  · exact e ▸ g
  · exact h i (by omega)
/-- a label's lb_own test -/
theorem okAt_n {l : List Lb} {k : Nat} (hk : k < l.length) (h : nameB (l[k]).1 = false) : ¬ okAt l k := by
  rintro ⟨x, hx, ho, _⟩
  rw [List.getElem?_eq_getElem hk] at hx; cases hx
  simp [okV, h] at ho
theorem okAt_v {l : List Lb} {k : Nat} (hk : k < l.length) (h : (l[k]).2.size = 0 ∨ 256 < (l[k]).2.size) : ¬ okAt l k := by
  rintro ⟨x, hx, ho, _⟩
  rw [List.getElem?_eq_getElem hk] at hx; cases hx
  simp [okV] at ho; omega
theorem okAt_l {l : List Lb} {k : Nat} (hk : k < l.length) (h0 : 0 < k) (h : ltS (l[k - 1]).1 (l[k]).1 = false) : ¬ okAt l k := by
  rintro ⟨x, hx, _, ho⟩
  rw [List.getElem?_eq_getElem hk] at hx; cases hx
  have := ho _ h0 (List.getElem?_eq_getElem (by omega))
  rw [h] at this; cases this
theorem okAt_y {l : List Lb} {k : Nat} (hk : k < l.length) (h1 : nameB (l[k]).1 = true) (h2 : 0 < (l[k]).2.size) (h3 : (l[k]).2.size ≤ 256) (h4 : k = 0 ∨ 0 < k ∧ ltS (l[k - 1]).1 (l[k]).1 = true) : okAt l k := by
  refine ⟨l[k], List.getElem?_eq_getElem hk, by simp [okV, h1]; omega, fun y h0 hy => ?_⟩
  rcases h4 with h4 | ⟨_, h4⟩
  · omega
  · rw [List.getElem?_eq_getElem (by omega)] at hy; cases hy; exact h4
end Go.Proofs.YtikaamonmaohjaaGreatDoor
namespace Go.Proofs.YtikaamonmaohjaaGreatDoor
open Go.RowKit
set_option maxRecDepth 100000
set_option maxHeartbeats 1000000

/-- a matcher: its kind, its name, its value -/
structure Mt where
  k : Int
  n : ByteArray
  v : ByteArray
def Mt.val (m : Mt) : Value := .agg #[.int .i64 m.k, .string m.n, .string m.v]
/-- a slice of matchers reads as a list -/
def MatsAt (W : World) (A : Option Addr) (l : List Mt) : Prop :=
  0 < l.length → ∃ b o, A = some ⟨b, o, none⟩ ∧ ∀ i x, l[i]? = some x → W.cell? ⟨b, o + i * 3, none⟩ = some (.int .i64 x.k) ∧ W.cell? ⟨b, o + i * 3 + 1, none⟩ = some (.string x.n) ∧ W.cell? ⟨b, o + i * 3 + 2, none⟩ = some (.string x.v)
theorem MatsAt.gr {W W' : World} {A : Option Addr} {l : List Mt} (h : MatsAt W A l) (g : Gr W W') : MatsAt W' A l := fun h0 => by
  obtain ⟨b, o, e, hc⟩ := h h0
  exact ⟨b, o, e, fun i x hx => ⟨g.cell (hc i x hx).1, g.cell (hc i x hx).2.1, g.cell (hc i x hx).2.2⟩⟩
theorem MatsAt.at_ {W : World} {A : Option Addr} {l : List Mt} (h : MatsAt W A l) {k : Nat} (hk : k < l.length) :
    ∃ b o, A = some ⟨b, o, none⟩ ∧ W.cell? ⟨b, o + k * 3, none⟩ = some (.int .i64 (l[k]).k) ∧ W.cell? ⟨b, o + k * 3 + 1, none⟩ = some (.string (l[k]).n) ∧ W.cell? ⟨b, o + k * 3 + 2, none⟩ = some (.string (l[k]).v) ∧ b < W.heap.size := by
  obtain ⟨b, o, e, hc⟩ := h (by omega)
  obtain ⟨h1, h2, h3⟩ := hc k l[k] (List.getElem?_eq_getElem hk)
  exact ⟨b, o, e, h1, h2, h3, World.block_lt_of_cell? W _ h1⟩
/-- how queries write a kind -/
def signL (k : Int) : List UInt8 := if k = 1 then [61] else if k = 2 then [33, 61] else if k = 3 then [61, 126] else if k = 4 then [33, 126] else []
def hasP (k : Int) : Bool := decide (k = 3) || decide (k = 4)
def errT (r : (List St × Nat) ⊕ (Nat × Nat)) : Int := match r with | .inl _ => 0 | .inr (_, c) => c
/-- what is wrong with a matcher -/
def checkM (m : Mt) : Int := if signL m.k = [] ∨ nameB m.n = false ∨ 256 < m.v.size then 1 else if hasP m.k then errT (compS m.v.data.toList) else 0
theorem kind_cases (k : Int) : k = 1 ∨ k = 2 ∨ k = 3 ∨ k = 4 ∨ (((k : Int) == 1) = false ∧ ((k : Int) == 2) = false ∧ ((k : Int) == 3) = false ∧ ((k : Int) == 4) = false ∧ signL k = [] ∧ hasP k = false) := by
  by_cases h1 : k = 1
  · exact .inl h1
  by_cases h2 : k = 2
  · exact .inr (.inl h2)
  by_cases h3 : k = 3
  · exact .inr (.inr (.inl h3))
  by_cases h4 : k = 4
  · exact .inr (.inr (.inr (.inl h4)))
  · refine .inr (.inr (.inr (.inr ⟨beq_eq_false_iff_ne.2 h1, beq_eq_false_iff_ne.2 h2, beq_eq_false_iff_ne.2 h3, beq_eq_false_iff_ne.2 h4, ?_, ?_⟩)))
    · unfold signL; rw [if_neg h1, if_neg h2, if_neg h3, if_neg h4]
    · unfold hasP; rw [decide_eq_false h3, decide_eq_false h4]; rfl
theorem sign_any (k : Int) (w : World) : Calls Tryz.prog 108 #[.int .i64 k] w fun e w' => e = .returned (.string ⟨(signL k).toArray⟩) ∧ w = w' := by
  rcases kind_cases k with rfl | rfl | rfl | rfl | ⟨h1, h2, h3, h4, h5, -⟩
  all_goals first
    | (have HS := Lib.hid h5; clear h5; go_enter Tryz.func108, Tryz.ntmps108; go_wp2; go_ret; exact ⟨by rw [HS.out]; rfl, rfl⟩)
    | (go_enter Tryz.func108, Tryz.ntmps108; go_wp2; go_ret; exact ⟨rfl, rfl⟩)
theorem hasPat_any (k : Int) (w : World) : Calls Tryz.prog 109 #[.int .i64 k] w fun e w' => e = .returned (.bool (hasP k)) ∧ w = w' := by
  rcases kind_cases k with rfl | rfl | rfl | rfl | ⟨h1, h2, h3, h4, -, h6⟩
  all_goals first
    | (have HS := Lib.hid h6; clear h6; go_enter Tryz.func109, Tryz.ntmps109; go_wp2; go_ret; exact ⟨by rw [HS.out]; rfl, rfl⟩)
    | (go_enter Tryz.func109, Tryz.ntmps109; go_wp2; go_ret; exact ⟨rfl, rfl⟩)
theorem errT_any (s : ByteArray) (hs : s.size ≤ 1000000) (W : World) : Calls Tryz.prog 110 #[.string s] W fun e w' => Gr W w' ∧ ∃ p k, e = .returned (.tuple #[p, k, .int .i64 (errT (compS s.data.toList))]) := by
  refine (compile_any s hs W).mono ?_
  rintro e w' ⟨hg, h⟩
  refine ⟨hg, ?_⟩
  obtain ⟨r, hr⟩ : ∃ r, compS s.data.toList = r := ⟨_, rfl⟩
  rw [hr] at h ⊢
  cases r with
  | inl n =>
    obtain ⟨P, he, -⟩ := h
    exact ⟨_, _, he⟩
  | inr x => exact ⟨_, _, h⟩
theorem sign_some {k : Int} (h : k = 1 ∨ k = 2 ∨ k = 3 ∨ k = 4) : ((⟨(signL k).toArray⟩ : ByteArray).toList) = signL k ∧ signL k ≠ [] := by
  rcases h with rfl | rfl | rfl | rfl <;> exact ⟨by kernel_rfl, by decide⟩
theorem check_mat (m : Mt) (w : World) (hn : m.n.size ≤ maxLen) (hv : m.v.size ≤ maxLen) :
    Calls Tryz.prog 86 #[m.val] w fun e w' => e = .returned (.int .i64 (checkM m)) ∧ Gr w w' := by
  obtain ⟨k, n, v⟩ := m
  simp only at hn hv
  show Calls Tryz.prog 86 #[.agg #[.int .i64 k, .string n, .string v]] w _
  unfold maxLen at hv
  have CS := Lib.hid (fun W => sign_any k W)
  have CN := Lib.hid (fun W => name_any n W hn)
  have CH := Lib.hid (fun W => hasPat_any k W)
  obtain ⟨b, hb⟩ : ∃ b, nameB n = b := ⟨_, rfl⟩
  rw [hb] at CN
  by_cases hk : signL k = []
  · have HE : Hid (checkM ⟨k, n, v⟩ = 1) := Lib.hid (by unfold checkM; rw [if_pos (.inl hk)])
    rw [hk] at CS
    obtain ⟨X, hX⟩ : ∃ X : ByteArray, (⟨([] : List UInt8).toArray⟩ : ByteArray) = X := ⟨_, rfl⟩
    have hXe : X.toList = [] := by rw [← hX]; kernel_rfl
    rw [hX] at CS
    clear hk hb hn hX
    go_enter Tryz.func86, Tryz.ntmps86
    go_wp2_with fail
    refine (CS.out _).mono ?_
    rintro e w1 ⟨rfl, rfl⟩
    go_wp2
    go_ret
    exact ⟨by rw [HE.out]; rfl, (Gr.refl w).alloc _ _⟩
  · obtain ⟨X, hX⟩ : ∃ X : ByteArray, (⟨(signL k).toArray⟩ : ByteArray) = X := ⟨_, rfl⟩
    have hXe : X.toList.isEmpty = false := by
      rw [← hX]
      have : k = 1 ∨ k = 2 ∨ k = 3 ∨ k = 4 := by
        rcases kind_cases k with h | h | h | h | h
        · exact .inl h
        · exact .inr (.inl h)
        · exact .inr (.inr (.inl h))
        · exact .inr (.inr (.inr h))
        · exact absurd h.2.2.2.2.1 hk
      rw [(sign_some this).1]
      simpa using hk
    rw [hX] at CS
    cases b
    · have HE : Hid (checkM ⟨k, n, v⟩ = 1) := Lib.hid (by unfold checkM; rw [if_pos (.inr (.inl hb))])
      clear hk hb hn hX
      go_enter Tryz.func86, Tryz.ntmps86
      go_wp2_with fail
      refine (CS.out _).mono ?_
      rintro e w1 ⟨rfl, rfl⟩
      go_wp2_with fail
      refine (CN.out _).mono ?_
      rintro e w2 ⟨rfl, rfl⟩
      go_wp2
      go_ret
      exact ⟨by rw [HE.out]; rfl, (Gr.refl w).alloc _ _⟩
    · by_cases hbig : 256 < v.size
      · have HE : Hid (checkM ⟨k, n, v⟩ = 1) := Lib.hid (by unfold checkM; rw [if_pos (.inr (.inr hbig))])
        have n1 : (256 : Int) < (v.size : Int) := by omega
        clear hk hb hn hX
        go_enter Tryz.func86, Tryz.ntmps86
        go_wp2_with fail
        refine (CS.out _).mono ?_
        rintro e w1 ⟨rfl, rfl⟩
        go_wp2_with fail
        refine (CN.out _).mono ?_
        rintro e w2 ⟨rfl, rfl⟩
        go_wp2
        go_ret
        exact ⟨by rw [HE.out]; rfl, (Gr.refl w).alloc _ _⟩
      · have n1 : ¬ (256 : Int) < (v.size : Int) := by omega
        have CC := Lib.hid (fun W => errT_any v (by omega) W)
        obtain ⟨p, hp⟩ : ∃ p, hasP k = p := ⟨_, rfl⟩
        rw [hp] at CH
        have HE : Hid (checkM ⟨k, n, v⟩ = if p then errT (compS v.data.toList) else 0) := Lib.hid (by unfold checkM; rw [if_neg (by simp [hk, hb, hbig]), hp])
        clear hk hb hn hX hp
        obtain ⟨er, her⟩ : ∃ er, errT (compS v.data.toList) = er := ⟨_, rfl⟩
        rw [her] at CC HE
        clear her
        cases p
        · go_enter Tryz.func86, Tryz.ntmps86
          go_wp2_with fail
          refine (CS.out _).mono ?_
          rintro e w1 ⟨rfl, rfl⟩
          go_wp2_with fail
          refine (CN.out _).mono ?_
          rintro e w2 ⟨rfl, rfl⟩
          go_wp2_with fail
          refine (CH.out _).mono ?_
          rintro e w3 ⟨rfl, rfl⟩
          go_wp2
          go_ret
          exact ⟨by rw [HE.out]; rfl, (Gr.refl w).alloc _ _⟩
        · go_enter Tryz.func86, Tryz.ntmps86
          go_wp2_with fail
          refine (CS.out _).mono ?_
          rintro e w1 ⟨rfl, rfl⟩
          go_wp2_with fail
          refine (CN.out _).mono ?_
          rintro e w2 ⟨rfl, rfl⟩
          go_wp2_with fail
          refine (CH.out _).mono ?_
          rintro e w3 ⟨rfl, rfl⟩
          go_wp2_with fail
          refine (CC.out _).mono ?_
          rintro e w4 ⟨g4, P, K, rfl⟩
          go_wp2
          go_ret
          exact ⟨by rw [HE.out]; rfl, ((Gr.refl w).alloc _ _).trans g4⟩
end Go.Proofs.YtikaamonmaohjaaGreatDoor
namespace Go.Proofs.YtikaamonmaohjaaGreatDoor
open Go.RowKit
set_option maxRecDepth 100000
set_option maxHeartbeats 1000000

/-- the texts are such as the model has -/
def Wm (l : List Mt) : Prop := ∀ x ∈ l, x.n.size ≤ maxLen ∧ x.v.size ≤ maxLen
/-- what is wrong with matchers -/
def checkL : List Mt → Int
  | [] => 0
  | m :: r => if checkM m = 0 then checkL r else checkM m
def checkA (l : List Mt) : Int := if checkL l = 0 then (if 32 < l.length then 1 else 0) else checkL l
theorem checkL_step {l : List Mt} {k : Nat} (h : k < l.length) : checkL (l.drop k) = if checkM l[k] = 0 then checkL (l.drop (k + 1)) else checkM l[k] := by
  rw [List.drop_eq_getElem_cons h]; rfl
theorem mcheck_any (A : Option Addr) (l : List Mt) (c : Nat) (w : World) (h : MatsAt w A l) (hw : Wm l) (hl : l.length ≤ 1099511627776) :
    Calls Tryz.prog 38 #[.slice A l.length c] w fun e w' => e = .returned (.int .i64 (checkA l)) ∧ Gr w w' := by
  have HL := Lib.hid h
  have HW := Lib.hid hw
  clear h hw
  go_enter Tryz.func38, Tryz.ntmps38
  go_wp2
  go_loopw [8] (fun i wr => ∃ k : Nat, k ≤ l.length ∧ i = .int .i64 k ∧ Hid (checkL l = checkL (l.drop k)) ∧ Gr w wr) (fun i _ => l.length - (intOf i).toNat)
  case atStart => exact ⟨0, Nat.zero_le _, rfl, rfl, Gr.refl _⟩
  case round =>
    obtain ⟨k, hk, rfl, HR, hg⟩ := hrel
    by_cases hlt : k < l.length
    · obtain ⟨b, o, rfl, c1, c2, c3, -⟩ := (HL.out.gr hg).at_ hlt
      have HS := Lib.hid (checkL_step hlt)
      have hm := HW.out l[k] (List.getElem_mem hlt)
      obtain ⟨⟨mk, mn, mv⟩, hx⟩ : ∃ x, l[k] = x := ⟨_, rfl⟩
      rw [hx] at c1 c2 c3 HS hm
      have CM : Hid (∀ W, Calls Tryz.prog 86 #[.agg #[.int .i64 mk, .string mn, .string mv]] W fun e w' => e = .returned (.int .i64 (checkM ⟨mk, mn, mv⟩)) ∧ Gr W w') := Lib.hid (fun W => check_mat ⟨mk, mn, mv⟩ W hm.1 hm.2)
      obtain ⟨x, hxe⟩ : ∃ x, checkM ⟨mk, mn, mv⟩ = x := ⟨_, rfl⟩
      rw [hxe] at CM HS
      clear hx hm hxe
      by_cases h0 : x = 0
      · subst h0
        have HN : Hid (checkL l = checkL (l.drop (k + 1))) := Lib.hid (by rw [HR.out, HS.out]; rfl)
        go_wp2_with fail
        refine (CM.out _).mono ?_
        rintro e w1 ⟨rfl, g1⟩
        have hg1 : Gr w w1 := (hg.alloc _ _).trans g1
        clear g1
        go_wp2
        go_roundw
        case rel => exact ⟨k + 1, by omega, by go_num, HN, hg1⟩
        case measure => simp [intOf]; omega
      · have hb : (x != 0) = true := by simpa using h0
        have HN : Hid (checkA l = x) := Lib.hid (by unfold checkA; rw [HR.out, HS.out, if_neg h0, if_neg h0])
        clear h0
        go_wp2_with fail
        refine (CM.out _).mono ?_
        rintro e w1 ⟨rfl, g1⟩
        have hg1 : Gr w w1 := (hg.alloc _ _).trans g1
        clear g1
        go_wp2
        go_ret
        exact ⟨by rw [HN.out]; rfl, hg1⟩
    · obtain rfl : k = l.length := by omega
      have HZ : Hid (checkL l = 0) := Lib.hid (by rw [HR.out, List.drop_length]; rfl)
      by_cases h32 : 32 < l.length
      · have HN : Hid (checkA l = 1) := Lib.hid (by unfold checkA; rw [if_pos HZ.out, if_pos h32])
        have n1 : (32 : Int) < (l.length : Int) := by omega
        go_wp2
        go_ret
        exact ⟨by rw [HN.out]; rfl, hg⟩
      · have HN : Hid (checkA l = 0) := Lib.hid (by unfold checkA; rw [if_pos HZ.out, if_neg h32])
        have n1 : ¬ (32 : Int) < (l.length : Int) := by omega
        go_wp2
        go_ret
        exact ⟨by rw [HN.out]; rfl, hg⟩
end Go.Proofs.YtikaamonmaohjaaGreatDoor
namespace Go.Proofs.YtikaamonmaohjaaGreatDoor
open Go.RowKit
set_option maxRecDepth 100000
set_option maxHeartbeats 1000000

def ordS (a b : ByteArray) : Int := if ltS a b then -1 else if a.toList == b.toList then 0 else 1
theorem cmpL_eq (a b c d : ByteArray) : cmpL (a, b) (c, d) = if (a.toList == c.toList) && (b.toList == d.toList) then 0 else if Op.bytesLess a.toList c.toList || (a.toList == c.toList && Op.bytesLess b.toList d.toList) then -1 else 1 := by
  unfold cmpL
  have : ((a, b) = (c, d)) ↔ ((a.toList == c.toList) && (b.toList == d.toList)) = true := by
    rw [Bool.and_eq_true, beq_t, beq_t]; simp
  simp only [this]
  rfl
theorem ordS_eq (a b c d : ByteArray) : cmpL (a, b) (c, d) = if ordS a c = 0 then ordS b d else ordS a c := by
  rw [cmpL_eq]
  unfold ordS ltS
  cases e1 : (a.toList == c.toList)
  · cases Op.bytesLess a.toList c.toList <;> simp
  · have e : a = c := beq_t.1 e1
    subst e
    have e2 : Op.bytesLess a.toList a.toList = false := ltS_irrefl a
    rw [e2]
    cases e3 : (b.toList == d.toList)
    · cases Op.bytesLess b.toList d.toList <;> simp
    · have e : b = d := beq_t.1 e3
      subst e
      have e2 : Op.bytesLess b.toList b.toList = false := ltS_irrefl b
      rw [e2]; simp
/-! lists -/
def cmpLs : List Lb → List Lb → Int
  | [], [] => 0
  | [], _ :: _ => -1
  | _ :: _, [] => 1
  | a :: r, b :: s => if cmpL a b = 0 then cmpLs r s else cmpL a b
theorem drop_lab {l : List Lb} {k : Nat} (h : k < l.length) : l.drop k = l[k] :: l.drop (k + 1) := List.drop_eq_getElem_cons h
theorem cmpLs_step {a b : List Lb} {k : Nat} (ha : k < a.length) (hb : k < b.length) : cmpLs (a.drop k) (b.drop k) = if cmpL a[k] b[k] = 0 then cmpLs (a.drop (k + 1)) (b.drop (k + 1)) else cmpL a[k] b[k] := by
  rw [drop_lab ha, drop_lab hb]; rfl
theorem cmpLs_end {a b : List Lb} {k : Nat} (h1 : k ≤ a.length) (h2 : k ≤ b.length) (h : k = a.length ∨ k = b.length) : cmpLs (a.drop k) (b.drop k) = if a.length < b.length then -1 else if b.length < a.length then 1 else 0 := by
  rcases h with rfl | rfl
  · rw [List.drop_length]
    cases e : b.drop a.length with
    | nil => have := congrArg List.length e; simp at this; rw [if_neg (by omega), if_neg (by omega)]; rfl
    | cons x r => have := congrArg List.length e; simp at this; rw [if_pos (by omega)]; rfl
  · rw [List.drop_length]
    cases e : a.drop b.length with
    | nil => have := congrArg List.length e; simp at this; rw [if_neg (by omega), if_neg (by omega)]; rfl
    | cons x r => have := congrArg List.length e; simp at this; rw [if_neg (by omega), if_pos (by omega)]; rfl

def cmpI (a b : Int) : Int := if a < b then -1 else if b < a then 1 else 0
theorem cmpLs_0_iff : ∀ (a b : List Lb), cmpLs a b = 0 ↔ a = b
  | [], [] => by simp [cmpLs]
  | [], _ :: _ => by simp [cmpLs]
  | _ :: _, [] => by simp [cmpLs]
  | x :: r, y :: s => by
    have ih := cmpLs_0_iff r s
    unfold cmpLs
    by_cases h : x = y
    · subst h
      have : cmpL x x = 0 := by simp [cmpL]
      rw [if_pos this, ih]; simp
    · have : cmpL x y ≠ 0 := by unfold cmpL; rw [if_neg h]; split <;> omega
      rw [if_neg this]
      simp [h, this]
/-- a contract of the kind 'nothing that was there has changed', in the worlds of a region that draws -/
theorem gq {f : FuncId} {args : Array Value} {v : Value} {W : World} (h : ∀ W', Gr W W' → Calls Tryz.prog f args W' fun e w' => e = .returned v ∧ Gr W' w') (d : Nat) (os : Array Obj) :
    Calls Tryz.prog f args (Go.Sort.grow (redrawn W d) os) fun e w'' => e = .returned v ∧ ∃ q : Regrown, w'' = Go.Sort.grow (redrawn W q.d) q.os :=
  Calls.regrown_of ((h _ ⟨below_regrown W d os⟩).mono fun _ _ ⟨h, g⟩ => ⟨h, g.b⟩)
end Go.Proofs.YtikaamonmaohjaaGreatDoor
namespace Go.Proofs.YtikaamonmaohjaaGreatDoor
open Go.RowKit Go.Sort
set_option maxRecDepth 100000
set_option maxHeartbeats 4000000

/-! Get -/
def getL : List Lb → ByteArray → ByteArray
  | [], _ => ⟨#[]⟩
  | x :: r, n => if x.1.toList == n.toList then x.2 else getL r n
theorem getL_step {l : List Lb} {k : Nat} (h : k < l.length) (n : ByteArray) : getL (l.drop k) n = if (l[k]).1.toList == n.toList then (l[k]).2 else getL (l.drop (k + 1)) n := by
  rw [drop_lab h]; rfl
/-! a slice of texts -/
def StrsAt (W : World) (A : Option Addr) (l : List ByteArray) : Prop :=
  0 < l.length → ∃ b o, A = some ⟨b, o, none⟩ ∧ ∀ i x, l[i]? = some x → W.cell? ⟨b, o + i, none⟩ = some (.string x)
theorem StrsAt.gr {W W' : World} {A : Option Addr} {l : List ByteArray} (h : StrsAt W A l) (g : Gr W W') : StrsAt W' A l := fun h0 => by
  obtain ⟨b, o, e, hc⟩ := h h0
  exact ⟨b, o, e, fun i x hx => g.cell (hc i x hx)⟩
theorem StrsAt.at_ {W : World} {A : Option Addr} {l : List ByteArray} (h : StrsAt W A l) {k : Nat} (hk : k < l.length) :
    ∃ b o, A = some ⟨b, o, none⟩ ∧ W.cell? ⟨b, o + k, none⟩ = some (.string l[k]) := by
  obtain ⟨b, o, e, hc⟩ := h (by omega)
  exact ⟨b, o, e, hc k _ (List.getElem?_eq_getElem hk)⟩
theorem StrsAt.none_ (W : World) (A : Option Addr) : StrsAt W A [] := fun h => absurd h (by simp)
def hasN (ns : List ByteArray) (n : ByteArray) : Bool := ns.any fun m => n.toList == m.toList
theorem hasN_step {ns : List ByteArray} {k : Nat} (h : k < ns.length) (n : ByteArray) : hasN (ns.drop k) n = ((n.toList == ns[k].toList) || hasN (ns.drop (k + 1)) n) := by
  unfold hasN; rw [List.drop_eq_getElem_cons h]; rfl
def pickL (l : List Lb) (ns : List ByteArray) (am : Bool) : List Lb := l.filter fun x => hasN ns x.1 == am
theorem pickL_snoc (l : List Lb) (ns : List ByteArray) (am : Bool) (x : Lb) : pickL (l ++ [x]) ns am = if hasN ns x.1 == am then pickL l ns am ++ [x] else pickL l ns am := by
  unfold pickL
  rw [List.filter_append]
  cases h : (hasN ns x.1 == am)
  · simp [h]
  · simp [h]
theorem pickL_len (l : List Lb) (ns : List ByteArray) (am : Bool) : (pickL l ns am).length ≤ l.length := List.length_filter_le _ _

end Go.Proofs.YtikaamonmaohjaaGreatDoor
