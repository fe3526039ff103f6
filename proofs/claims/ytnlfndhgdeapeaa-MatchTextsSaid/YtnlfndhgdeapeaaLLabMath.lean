/- Labels, as pure functions on lists of bytes: names, right lists, sets, parts, keys, quotes, texts. No program in it. -/
import Derived.Test.YtnlfndhgdeapeaaFit
import Derived.Test.YtnlfndhgdeapeaaEnFr
import Derived.Test.YtnlfndhgdeapeaaMatch
import Derived.Test.YtnlfndhgdeapeaaEsc
import GoSem.Op.String
import Derived.Lib.Strings
namespace Go.Proofs.Ytnlfndhgdeapeaa
open Go.RowKit
set_option maxRecDepth 100000
set_option maxHeartbeats 2000000

/-- a pattern that was compiled -/
structure Pat (W : World) (P : Nat) (n : Nd) : Prop where
  p : ProgAt W P (buildS n)
  w : Wf n
  t : wt n ≤ 4096
theorem Pat.gr {W W' : World} {P : Nat} {n : Nd} (h : Pat W P n) (k : Gr W W') : Pat W' P n := ⟨h.p.gr k, h.w, h.t⟩
/-- does the pattern match? -/
def hits (n : Nd) (b : List UInt8) : Bool := matchS (buildS n) b
theorem hits_iff {n : Nd} (hw : Wf n) (b : List UInt8) : hits n b = true ↔ Lg n b := match_lang hw b
theorem pat_match {P : Nat} {n : Nd} {w : World} (h : Pat w P n) (b : ByteArray) (hb : b.size ≤ 1000000000000) :
    Calls Try.prog 12 #[.pointer (some ⟨P, 0, none⟩), .string b] w fun e w' => e = .returned (.bool (hits n b.data.toList)) ∧ Gr w w' :=
  match_any P (buildS n) b w h.p (build_fit n).1 (build_fit n).2 (by have := build_len h.w; have := h.t; omega) hb
/-- the tree of a pattern; or the place and the error -/
def treeS (s : List UInt8) : Nd ⊕ (Nat × Nat) :=
  if 4096 < s.length then .inr (0, 6)
  else match tdS s 0 0 false with
    | some k => .inr (k, 6)
    | none => if (readS s).1 && decide (s.length ≤ (readS s).2.2) then .inl (readS s).2.1 else .inr ((readS s).2.2, 2)
theorem treeS_comp (s : List UInt8) : compS s = match treeS s with | .inl n => .inl (buildS n) | .inr x => .inr x := by
  unfold compS treeS
  split
  · rfl
  · cases tdS s 0 0 false with
    | some k => rfl
    | none =>
      simp only
      split <;> rfl
theorem treeS_ok {s : List UInt8} {n : Nd} (h : treeS s = .inl n) : Wf n ∧ wt n ≤ 4096 ∧ readS s = (true, n, s.length) := by
  unfold treeS at h
  split at h
  · cases h
  rename_i hl
  cases htd : tdS s 0 0 false with
  | some k => rw [htd] at h; cases h
  | none =>
    rw [htd] at h
    simp only at h
    split at h
    · rename_i hr
      simp only [Bool.and_eq_true, decide_eq_true_eq] at hr
      have hle := (patS_le s (s.length + 1) 0 (Nat.zero_le _)).1
      have ho := pat_ok s (s.length + 1) 0 (Nat.zero_le _) hr.1
      have hrm := pat_room (s := s) (d := s.length + 1) (k := 0) (by omega) (Nat.zero_le _) hr.1
      have ht := ho.t
      obtain rfl := Sum.inl.inj h
      unfold readS at hr ⊢
      refine ⟨hrm.1, by omega, ?_⟩
      obtain ⟨r, e⟩ : ∃ r, patS s (s.length + 1) 0 = r := ⟨_, rfl⟩
      rw [e] at hr hle ⊢
      obtain ⟨a, b, c⟩ := r
      simp only at hr hle ⊢
      obtain rfl : c = s.length := by omega
      rw [hr.1]
    · cases h
theorem treeS_inl {s : List UInt8} {n : Nd} (hl : s.length ≤ 4096) (ht : tdS s 0 0 false = none) (hr : readS s = (true, n, s.length)) : treeS s = .inl n := by
  unfold treeS
  rw [if_neg (by omega), ht, hr]
  simp
def TreePost (r : Nd ⊕ (Nat × Nat)) (w : World) (e : Ending) (w' : World) : Prop :=
  Gr w w' ∧ match r with
  | .inl n => ∃ P, e = .returned (.tuple #[.pointer (some ⟨P, 0, none⟩), .int .i64 0, .int .i64 0]) ∧ Pat w' P n
  | .inr (k, c) => e = .returned (.tuple #[.pointer none, .int .i64 k, .int .i64 c])
theorem tree_any (s : ByteArray) (hs : s.size ≤ 1000000) (w : World) : Calls Try.prog 8 #[.string s] w (TreePost (treeS s.data.toList) w) := by
  refine (compile_any s hs w).mono ?_
  rintro e w' ⟨hg, h⟩
  rw [treeS_comp] at h
  refine ⟨hg, ?_⟩
  have hk := @treeS_ok s.data.toList
  obtain ⟨r, hr⟩ : ∃ r, treeS s.data.toList = r := ⟨_, rfl⟩
  rw [hr] at h hk ⊢
  cases r with
  | inl n =>
    obtain ⟨P, he, hP⟩ := h
    obtain ⟨h1, h2, -⟩ := hk rfl
    exact ⟨P, he, hP, h1, h2⟩
  | inr x => exact h
theorem tree_yes {s : ByteArray} {n : Nd} (h : treeS s.data.toList = .inl n) (hs : s.size ≤ 1000000) (w : World) :
    Calls Try.prog 8 #[.string s] w fun e w' => Gr w w' ∧ ∃ P, e = .returned (.tuple #[.pointer (some ⟨P, 0, none⟩), .int .i64 0, .int .i64 0]) ∧ Pat w' P n := by
  have := tree_any s hs w
  rw [h] at this
  exact this
theorem tree_no {s : ByteArray} {x : Nat × Nat} (h : treeS s.data.toList = .inr x) (hs : s.size ≤ 1000000) (w : World) :
    Calls Try.prog 8 #[.string s] w fun e w' => Gr w w' ∧ e = .returned (.tuple #[.pointer none, .int .i64 x.1, .int .i64 x.2]) := by
  have := tree_any s hs w
  rw [h] at this
  exact this
/-- the pattern that is known -/
def knownN : Nd := (readS [97, 40, 98, 124, 99, 41, 42, 100]).2.1
theorem known1 : treeS [97, 40, 98, 124, 99, 41, 42, 100] = .inl knownN := by kernel_rfl
theorem known2 : treeS [97, 41] = .inr (1, 2) := by kernel_rfl
theorem known3 : hits knownN [97, 98, 99, 98, 100] = true := by kernel_rfl
theorem known4 : hits knownN [97, 98, 120] = false := by kernel_rfl
theorem known5 : escS [97, 46, 98] = [97, 92, 46, 98] := by kernel_rfl
end Go.Proofs.Ytnlfndhgdeapeaa
/- The laws' first test: it answers true. -/
namespace Go.Proofs.Ytnlfndhgdeapeaa
open Go.RowKit
set_option maxRecDepth 100000
set_option maxHeartbeats 2000000

theorem known_any (w : World) :
    Calls Try.prog 6 #[] w fun e w' => e = .returned (.bool true) ∧ Gr w w' := by
  have C1 := Lib.hid (fun W => tree_yes (s := ⟨#[97, 40, 98, 124, 99, 41, 42, 100]⟩) known1 (by decide) W)
  have C2 := Lib.hid (fun W => tree_no (s := ⟨#[97, 41]⟩) known2 (by decide) W)
  have M := Lib.hid (fun (P : Nat) W (h : Pat W P knownN) (b : ByteArray) (hb : b.size ≤ 1000000000000) => pat_match h b hb)
  have CE := Lib.hid (fun W => escape_any ⟨#[97, 46, 98]⟩ W (by decide))
  go_enter Try.func6, Try.ntmps6
  go_wp2_with fail
  refine (C1.out _).mono ?_
  rintro e w1 ⟨hg1, P, rfl, hP⟩
  have HG1 := Lib.hid hg1
  have HP := Lib.hid hP
  clear hg1 hP C1
  go_wp2_with fail
  refine (C2.out _).mono ?_
  rintro e w2 ⟨hg2, rfl⟩
  have HG2 := Lib.hid (HG1.out.trans hg2)
  have HP2 := Lib.hid (HP.out.gr hg2)
  clear hg2 C2 HG1 HP
  go_wp2_with fail
  refine (M.out P _ HP2.out ⟨#[97, 98, 99, 98, 100]⟩ (by decide)).mono ?_
  rintro e w3 ⟨rfl, hg3⟩
  have HG3 := Lib.hid (HG2.out.trans hg3)
  have HP3 := Lib.hid (HP2.out.gr hg3)
  clear hg3 HG2 HP2
  have k3 : hits knownN (⟨#[97, 98, 99, 98, 100]⟩ : ByteArray).data.toList = true := known3
  rw [k3]
  clear k3
  go_wp2_with fail
  refine (M.out P _ HP3.out ⟨#[97, 98, 120]⟩ (by decide)).mono ?_
  rintro e w4 ⟨rfl, hg4⟩
  have HG4 := Lib.hid (HG3.out.trans hg4)
  clear hg4 HG3 HP3 M
  have k4 : hits knownN (⟨#[97, 98, 120]⟩ : ByteArray).data.toList = false := known4
  rw [k4]
  clear k4
  go_wp2_with fail
  refine (CE.out _).mono ?_
  rintro e w5 ⟨rfl, hg5⟩
  have HG5 := Lib.hid (HG4.out.trans hg5)
  clear hg5 HG4 CE
  have k5 : escS (⟨#[97, 46, 98]⟩ : ByteArray).data.toList = [97, 92, 46, 98] := known5
  rw [k5]
  clear k5
  go_wp2
  go_ret
  exact ⟨by rfl, HG5.out⟩
end Go.Proofs.Ytnlfndhgdeapeaa
namespace Go.Proofs.Ytnlfndhgdeapeaa

/-- a label: its name and its value -/
abbrev Lb := ByteArray × ByteArray
def ltS (a b : ByteArray) : Bool := Op.bytesLess a.toList b.toList

theorem bl_eq : ∀ (x y : List UInt8), Op.bytesLess x y = decide (x < y)
  | [], [] => by simp [Op.bytesLess]
  | _ :: _, [] => by simp [Op.bytesLess]
  | [], _ :: _ => by simp [Op.bytesLess]
  | a :: x, b :: y => by
    rw [Op.bytesLess, bl_eq x y]
    by_cases h : a = b
    · subst h; simp
    · simp [List.cons_lt_cons_iff, h]
theorem toList_ext {a b : ByteArray} (h : a.toList = b.toList) : a = b := by
  apply ByteArray.ext
  apply Array.ext'
  rw [← Lib.toList_data, ← Lib.toList_data]
  exact h
theorem ltS_irrefl (a : ByteArray) : ltS a a = false := by
  unfold ltS; rw [bl_eq]; simp [List.lt_irrefl]
theorem ltS_trans {a b c : ByteArray} (h : ltS a b = true) (g : ltS b c = true) : ltS a c = true := by
  unfold ltS at *; rw [bl_eq] at *
  simp only [decide_eq_true_eq] at *
  exact List.lt_trans h g
theorem ltS_asymm {a b : ByteArray} (h : ltS a b = true) : ltS b a = false := by
  unfold ltS at *; rw [bl_eq] at *
  simp only [decide_eq_true_eq, decide_eq_false_iff_not] at *
  exact List.lt_asymm h
theorem ltS_tri {a b : ByteArray} (h : ltS a b = false) (g : ltS b a = false) : a = b := by
  unfold ltS at *; rw [bl_eq] at *
  simp only [decide_eq_false_iff_not, List.not_lt] at *
  exact toList_ext (List.le_antisymm g h)

/-! names -/
def letB (c : UInt8) : Bool := decide (65 ≤ c.toNat ∧ c.toNat ≤ 90 ∨ 97 ≤ c.toNat ∧ c.toNat ≤ 122 ∨ c.toNat = 95)
def digB (c : UInt8) : Bool := decide (48 ≤ c.toNat ∧ c.toNat ≤ 57)
def nameL : List UInt8 → Bool
  | [] => false
  | c :: r => decide (r.length + 1 ≤ 64) && letB c && r.all (fun d => letB d || digB d)
def nameB (s : ByteArray) : Bool := nameL s.data.toList
theorem let_dig {c : UInt8} (h : letB c = true) : digB c = false := by
  unfold letB at h; unfold digB; simp at *; omega

/-! right lists -/
def okV (x : Lb) : Bool := nameB x.1 && decide (1 ≤ x.2.size ∧ x.2.size ≤ 256)
def okAt (l : List Lb) (i : Nat) : Prop := ∃ x, l[i]? = some x ∧ okV x = true ∧ ∀ y, 0 < i → l[i - 1]? = some y → ltS y.1 x.1 = true
def rightP (l : List Lb) : Prop := l.length ≤ 32 ∧ ∀ i, i < l.length → okAt l i

/-! sorted by names -/
def SortedN (l : List Lb) : Prop := l.Pairwise fun x y => ltS x.1 y.1 = true
theorem rightP_iff {l : List Lb} : rightP l ↔ l.length ≤ 32 ∧ (∀ x ∈ l, okV x = true) ∧ SortedN l := by
  unfold rightP
  refine and_congr Iff.rfl ⟨fun h => ⟨fun x hx => ?_, ?_⟩, fun ⟨h1, h2⟩ i hi => ?_⟩
  · obtain ⟨i, hi, rfl⟩ := List.getElem_of_mem hx
    obtain ⟨y, hy, ho, _⟩ := h i hi
    rw [List.getElem?_eq_getElem hi] at hy
    cases hy; exact ho
  · unfold SortedN
    have key : ∀ d i j (hi : i < l.length) (hj : j < l.length), j = i + d + 1 → ltS (l[i]).1 (l[j]).1 = true := by
      intro d
      induction d with
      | zero =>
        intro i j hi hj hd
        obtain ⟨y, hy, _, ho⟩ := h j hj
        rw [List.getElem?_eq_getElem hj] at hy
        cases hy
        refine ho _ (by omega) ?_
        rw [List.getElem?_eq_getElem (by omega)]
        congr 1
        congr 1
        omega
      | succ d ih =>
        intro i j hi hj hd
        have h1 := ih i (j - 1) hi (by omega) (by omega)
        obtain ⟨y, hy, _, ho⟩ := h j hj
        rw [List.getElem?_eq_getElem hj] at hy
        cases hy
        exact ltS_trans h1 (ho _ (by omega) (List.getElem?_eq_getElem (by omega)))
    rw [List.pairwise_iff_getElem]
    intro i j hi hj hij
    exact key (j - i - 1) i j hi hj (by omega)
  · refine ⟨l[i], List.getElem?_eq_getElem hi, h1 _ (List.getElem_mem hi), fun y h0 hy => ?_⟩
    obtain ⟨hlt, rfl⟩ := List.getElem?_eq_some_iff.1 hy
    exact List.pairwise_iff_getElem.1 h2 _ _ _ _ (by omega)
def rightB (l : List Lb) : Bool := decide (l.length ≤ 32 ∧ (∀ x ∈ l, okV x = true) ∧ l.Pairwise fun x y => ltS x.1 y.1 = true)
theorem rightB_t {l : List Lb} : rightB l = true ↔ rightP l := by rw [rightP_iff]; unfold rightB SortedN; simp
theorem rightB_f {l : List Lb} : rightB l = false ↔ ¬ rightP l := by rw [← rightB_t]; simp
theorem SortedN.nodup {l : List Lb} (h : SortedN l) : (l.map (·.1)).Nodup := by
  unfold List.Nodup
  rw [List.pairwise_map]
  refine List.Pairwise.imp (fun {a b} hab e => ?_) h
  rw [e, ltS_irrefl] at hab
  cases hab
theorem SortedN.unique {l r : List Lb} (h : SortedN l) (g : SortedN r) (p : l.Perm r) : l = r := by
  refine List.Perm.eq_of_pairwise (fun a b _ _ hab hba => ?_) h g p
  have := ltS_asymm hab
  rw [hba] at this
  cases this

/-! the set -/
def okN (x : Lb) : Bool := nameB x.1 && decide (x.2.size ≤ 256)
def setP (l : List Lb) : Prop := (∀ x ∈ l, okN x = true) ∧ (l.map (·.1)).Nodup
def full (x : Lb) : Bool := decide (x.2.size ≠ 0)
def putL (l : List Lb) (x : Lb) : List Lb := l.takeWhile (fun y => ltS y.1 x.1) ++ x :: l.dropWhile (fun y => ltS y.1 x.1)
def setL (l : List Lb) : List Lb := (l.filter full).foldl putL []
def lb_setB (l : List Lb) : Bool := decide (((∀ x ∈ l, okN x = true) ∧ (l.map (·.1)).Nodup) ∧ (setL l).length ≤ 32)
def setV (l : List Lb) : List Lb := if lb_setB l then setL l else []
def setE (l : List Lb) : Int := if lb_setB l then 0 else 1
theorem setB_t {l : List Lb} : lb_setB l = true ↔ setP l ∧ (setL l).length ≤ 32 := by unfold lb_setB setP; simp
theorem putL_perm (l : List Lb) (x : Lb) : (putL l x).Perm (x :: l) := by
  unfold putL
  have h := List.takeWhile_append_dropWhile (p := fun y => ltS y.1 x.1) (l := l)
  conv => rhs; rw [← h]
  exact List.perm_middle
theorem putL_sorted {l : List Lb} {x : Lb} (h : SortedN l) (hx : ∀ y ∈ l, y.1 ≠ x.1) : SortedN (putL l x) := by
  induction l with
  | nil => simp [putL, SortedN]
  | cons a r ih =>
    unfold SortedN at h ih ⊢
    obtain ⟨ha, hr⟩ := List.pairwise_cons.1 h
    by_cases hl : ltS a.1 x.1 = true
    · have e : putL (a :: r) x = a :: putL r x := by simp [putL, hl]
      rw [e, List.pairwise_cons]
      refine ⟨fun y hy => ?_, ih hr fun y hy => hx y (List.mem_cons_of_mem _ hy)⟩
      rcases List.mem_cons.1 ((putL_perm r x).mem_iff.1 hy) with rfl | hy
      · exact hl
      · exact ha _ hy
    · have hl' : ltS a.1 x.1 = false := by simpa using hl
      have e : putL (a :: r) x = x :: a :: r := by simp [putL, hl']
      have hxa : ltS x.1 a.1 = true := by
        cases hc : ltS x.1 a.1
        · exact absurd (ltS_tri hl' hc) (hx a List.mem_cons_self)
        · rfl
      rw [e, List.pairwise_cons]
      refine ⟨fun y hy => ?_, h⟩
      rcases List.mem_cons.1 hy with rfl | hy
      · exact hxa
      · exact ltS_trans hxa (ha _ hy)
theorem foldl_putL_perm (r : List Lb) : ∀ l, (r.foldl putL l).Perm (l ++ r) := by
  induction r with
  | nil => intro l; simp
  | cons a r ih =>
    intro l
    rw [List.foldl_cons]
    refine (ih _).trans ?_
    refine ((putL_perm l a).append_right r).trans ?_
    exact List.perm_middle.symm
theorem setL_perm (l : List Lb) : (setL l).Perm (l.filter full) := by
  have := foldl_putL_perm (l.filter full) []
  simpa [setL] using this
theorem foldl_putL_sorted (r : List Lb) : ∀ l, SortedN l → ((l ++ r).map (·.1)).Nodup → SortedN (r.foldl putL l) := by
  induction r with
  | nil => intro l h _; exact h
  | cons a r ih =>
    intro l h hn
    rw [List.foldl_cons]
    have p : ((l ++ a :: r).map (·.1)).Perm ((putL l a ++ r).map (·.1)) :=
      (List.Perm.map _ (List.perm_middle.trans ((putL_perm l a).symm.append_right r)))
    refine ih _ (putL_sorted h fun y hy e => ?_) (p.nodup_iff.1 hn)
    rw [List.map_append, List.map_cons, List.nodup_append] at hn
    exact hn.2.2 _ (List.mem_map.2 ⟨y, hy, rfl⟩) _ List.mem_cons_self e
theorem filter_names_nodup {l : List Lb} (h : (l.map (·.1)).Nodup) (p : Lb → Bool) : ((l.filter p).map (·.1)).Nodup :=
  List.Sublist.nodup (List.Sublist.map _ List.filter_sublist) h
theorem setL_sorted {l : List Lb} (h : (l.map (·.1)).Nodup) : SortedN (setL l) := by
  unfold setL
  refine foldl_putL_sorted _ _ List.Pairwise.nil ?_
  simpa using filter_names_nodup h full
theorem setL_right {l : List Lb} (h : lb_setB l = true) : rightP (setL l) := by
  obtain ⟨⟨h1, h2⟩, h3⟩ := setB_t.1 h
  refine rightP_iff.2 ⟨h3, fun x hx => ?_, setL_sorted h2⟩
  obtain ⟨hx1, hx2⟩ := List.mem_filter.1 ((setL_perm l).mem_iff.1 hx)
  have := h1 x hx1
  simp only [okN, okV, full, Bool.and_eq_true, decide_eq_true_eq] at *
  exact ⟨this.1, by omega, this.2⟩
/-- a right list is its lb_own set -/
theorem right_setP {l : List Lb} (h : rightP l) : setP l ∧ setL l = l := by
  obtain ⟨h1, h2, h3⟩ := rightP_iff.1 h
  have hn := h3.nodup
  refine ⟨⟨fun x hx => ?_, hn⟩, ?_⟩
  · have := h2 x hx
    simp only [okN, okV, Bool.and_eq_true, decide_eq_true_eq] at *
    exact ⟨this.1, this.2.2⟩
  · refine (setL_sorted hn).unique h3 ((setL_perm l).trans ?_)
    rw [List.filter_eq_self.2 fun x hx => ?_]
    have := h2 x hx
    simp only [full, okV, Bool.and_eq_true, decide_eq_true_eq] at *
    omega
theorem right_setB {l : List Lb} (h : rightP l) : lb_setB l = true := by
  obtain ⟨h1, h2⟩ := right_setP h
  exact setB_t.2 ⟨h1, by rw [h2]; exact h.1⟩

/-! the order of labels -/
def lbLt (x y : Lb) : Bool := ltS x.1 y.1 || (x.1.toList == y.1.toList && ltS x.2 y.2)
def cmpL (x y : Lb) : Int := if x = y then 0 else if lbLt x y then -1 else 1
theorem beq_t {a b : ByteArray} : (a.toList == b.toList) = true ↔ a = b := ⟨fun h => toList_ext (by simpa using h), fun h => by simp [h]⟩
theorem lbLt_irrefl (x : Lb) : lbLt x x = false := by simp [lbLt, ltS_irrefl]
theorem lbLt_iff {x y : Lb} : lbLt x y = true ↔ ltS x.1 y.1 = true ∨ x.1 = y.1 ∧ ltS x.2 y.2 = true := by simp only [lbLt, Bool.or_eq_true, Bool.and_eq_true, beq_t]
theorem lbLt_trans {x y z : Lb} (h : lbLt x y = true) (g : lbLt y z = true) : lbLt x z = true := by
  rw [lbLt_iff] at *
  rcases h with h | ⟨h1, h2⟩ <;> rcases g with g | ⟨g1, g2⟩
  · exact .inl (ltS_trans h g)
  · exact .inl (g1 ▸ h)
  · exact .inl (h1 ▸ g)
  · exact .inr ⟨h1.trans g1, ltS_trans h2 g2⟩
theorem lbLt_tri {x y : Lb} (h : lbLt x y = false) (g : lbLt y x = false) : x = y := by
  have h' : ¬ lbLt x y = true := by simp [h]
  have g' : ¬ lbLt y x = true := by simp [g]
  rw [lbLt_iff] at h' g'
  have e1 : x.1 = y.1 := ltS_tri (by cases e : ltS x.1 y.1; rfl; exact absurd (.inl e) h') (by cases e : ltS y.1 x.1; rfl; exact absurd (.inl e) g')
  have e2 : x.2 = y.2 := ltS_tri (by cases e : ltS x.2 y.2; rfl; exact absurd (.inr ⟨e1, e⟩) h') (by cases e : ltS y.2 x.2; rfl; exact absurd (.inr ⟨e1.symm, e⟩) g')
  exact Prod.ext e1 e2
theorem cmpL_neg (x y : Lb) : decide (cmpL x y < 0) = lbLt x y := by
  unfold cmpL
  by_cases h : x = y
  · subst h; rw [if_pos rfl, lbLt_irrefl]; rfl
  · rw [if_neg h]
    cases lbLt x y <;> rfl
/-- what the sort lays -/
def sortL (l : List Lb) : List Lb := l.mergeSort fun x y => !lbLt y x
theorem sortL_perm (l : List Lb) : (sortL l).Perm l := List.mergeSort_perm _ _
theorem sortL_pw (l : List Lb) : (sortL l).Pairwise fun x y => lbLt y x = false := by
  have h := List.pairwise_mergeSort (le := fun x y : Lb => !lbLt y x) (fun a b c hab hbc => ?_) (fun a b => ?_) l
  · refine List.Pairwise.imp (fun {a b} hab => ?_) h
    simpa using hab
  · simp only [Bool.not_eq_true'] at *
    cases hc : lbLt c a
    · rfl
    · exfalso
      cases hb : lbLt a b
      · have := lbLt_tri hab hb
        subst this
        rw [hc] at hbc; cases hbc
      · have := lbLt_trans hc hb
        rw [this] at hbc; cases hbc
  · cases ha : lbLt b a
    · rfl
    · cases hb : lbLt a b
      · rfl
      · have := lbLt_trans ha hb
        rw [lbLt_irrefl] at this; cases this
/-- two neighbours of one name -/
def twin (l : List Lb) : Prop := ∃ i x y, l[i]? = some x ∧ l[i + 1]? = some y ∧ x.1 = y.1
theorem sortL_twin {l : List Lb} (h : ¬ twin (sortL l)) : SortedN (sortL l) := by
  have h0 := sortL_pw l
  generalize sortL l = s at *
  unfold SortedN
  rw [List.pairwise_iff_getElem] at h0 ⊢
  have adj : ∀ i (hi : i + 1 < s.length), ltS (s[i]).1 (s[i + 1]).1 = true := by
    intro i hi
    have h1 := h0 i (i + 1) (by omega) hi (by omega)
    have h2 : (s[i]).1 ≠ (s[i + 1]).1 := fun e => h ⟨i, _, _, List.getElem?_eq_getElem (by omega), List.getElem?_eq_getElem hi, e⟩
    have h3 : ¬ lbLt s[i + 1] s[i] = true := by simp [h1]
    rw [lbLt_iff] at h3
    cases hc : ltS (s[i]).1 (s[i + 1]).1
    · refine absurd (ltS_tri hc ?_) h2
      cases hd : ltS (s[i + 1]).1 (s[i]).1
      · rfl
      · exact absurd (.inl hd) h3
    · rfl
  have key : ∀ d i j (hi : i < s.length) (hj : j < s.length), j = i + d + 1 → ltS (s[i]).1 (s[j]).1 = true := by
    intro d
    induction d with
    | zero => intro i j hi hj hd; subst hd; exact adj i (by omega)
    | succ d ih =>
      intro i j hi hj hd
      have h1 := ih i (j - 1) hi (by omega) (by omega)
      have h2 := adj (j - 1) (by omega)
      have e : j - 1 + 1 = j := by omega
      simp only [e] at h2
      exact ltS_trans h1 h2
  intro i j hi hj hij
  exact key (j - i - 1) i j hi hj (by omega)
theorem twin_not_nodup {l : List Lb} (h : twin l) : ¬ (l.map (·.1)).Nodup := by
  obtain ⟨i, x, y, hx, hy, e⟩ := h
  intro hn
  unfold List.Nodup at hn
  rw [List.pairwise_map, List.pairwise_iff_getElem] at hn
  obtain ⟨hi, rfl⟩ := List.getElem?_eq_some_iff.1 hx
  obtain ⟨hj, rfl⟩ := List.getElem?_eq_some_iff.1 hy
  exact hn i (i + 1) hi hj (by omega) e
theorem sortL_set {l : List Lb} (h : ¬ twin (sortL l)) : (l.map (·.1)).Nodup ∧ (sortL l).filter full = setL l := by
  have hs := sortL_twin h
  have hn : (l.map (·.1)).Nodup := ((sortL_perm l).map _).nodup_iff.1 hs.nodup
  refine ⟨hn, SortedN.unique (List.Pairwise.filter _ hs) (setL_sorted hn) (((sortL_perm l).filter _).trans (setL_perm l).symm)⟩
theorem sortL_dup {l : List Lb} (h : twin (sortL l)) : ¬ setP l := fun hp => twin_not_nodup h (((sortL_perm l).map _).nodup_iff.2 hp.2)
end Go.Proofs.Ytnlfndhgdeapeaa
