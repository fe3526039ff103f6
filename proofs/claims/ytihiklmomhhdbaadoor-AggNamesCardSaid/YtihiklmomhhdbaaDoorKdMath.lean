/- What is kept and what is dropped are all; with and without a name. -/
import Derived.Test.YtihiklmomhhdbaaDoorRefWith
namespace Go.Proofs.YtihiklmomhhdbaaDoor
open Go.RowKit Go.Sort
set_option maxRecDepth 100000
set_option maxHeartbeats 1000000

theorem pick_perm (l : List Lb) (ns : List ByteArray) : (pickL l ns true ++ pickL l ns false).Perm l := by
  unfold pickL
  have h := List.filter_append_perm (fun x : Lb => hasN ns x.1 == true) l
  have e : (fun x : Lb => !(hasN ns x.1 == true)) = fun x : Lb => hasN ns x.1 == false := by funext x; cases hasN ns x.1 <;> rfl
  rw [e] at h
  exact h
theorem right_filter {l : List Lb} (h : rightP l) (p : Lb → Bool) : rightP (l.filter p) := by
  rw [rightP_iff] at *
  obtain ⟨h1, h2, h3⟩ := h
  refine ⟨?_, fun x hx => h2 x (List.mem_filter.1 hx).1, ?_⟩
  · have := List.length_filter_le p l; omega
  · unfold SortedN at *; exact h3.filter p
theorem right_pick {l : List Lb} (h : rightB l = true) (ns : List ByteArray) (am : Bool) : rightB (pickL l ns am) = true := rightB_t.2 (right_filter (rightB_t.1 h) _)
/-- what is kept and dropped, set together -/
theorem set_parts {l : List Lb} (h : rightB l = true) (ns : List ByteArray) : setB (pickL l ns true ++ pickL l ns false) = true ∧ setL (pickL l ns true ++ pickL l ns false) = l := by
  have hp := pick_perm l ns
  have hr := rightB_t.1 h
  obtain ⟨⟨s1, s2⟩, s3⟩ := right_setP hr
  have hfull : ∀ x ∈ l, full x = true := fun x hx => by
    have := (rightP_iff.1 hr).2.1 x hx
    simp [okV] at this
    exact decide_eq_true (by omega)
  have hP : setP (pickL l ns true ++ pickL l ns false) := ⟨fun x hx => s1 x (hp.mem_iff.1 hx), (hp.map (·.1)).nodup_iff.2 s2⟩
  have hfl : (pickL l ns true ++ pickL l ns false).filter full = pickL l ns true ++ pickL l ns false := List.filter_eq_self.2 fun x hx => hfull x (hp.mem_iff.1 hx)
  have hpm : (setL (pickL l ns true ++ pickL l ns false)).Perm l := by
    have := setL_perm (pickL l ns true ++ pickL l ns false)
    rw [hfl] at this
    exact this.trans hp
  have he : setL (pickL l ns true ++ pickL l ns false) = l := SortedN.unique (setL_sorted hP.2) (rightP_iff.1 hr).2.2 hpm
  exact ⟨setB_t.2 ⟨hP, by rw [he]; exact hr.1⟩, he⟩
theorem with_right {l : List Lb} (h : rightB l = true) (nm vl : ByteArray) : rightB (withL l nm vl) = true := by
  unfold withL
  cases e : rightB (outL l nm vl)
  · simpa using h
  · simp [e]
theorem withL_len (l : List Lb) (nm vl : ByteArray) : (withL l nm vl).length ≤ l.length + 1 := by
  have := outL_len l nm vl
  unfold withL
  split <;> omega
theorem pick_none {l : List Lb} {nm : ByteArray} {x : Lb} (hx : x ∈ pickL l [nm] false) : x.1 ≠ nm := by
  intro e
  have := (List.mem_filter.1 hx).2
  subst e
  simp [hasN] at this
/-- with a name: the list is right, tells the value, and without it the others are left -/
theorem with_there {l : List Lb} (h : rightB l = true) {nm vl : ByteArray} (hn : nameB nm = true) (h0 : vl.size ≠ 0) (h2 : vl.size ≤ 256) (hl : l.length < 32) :
    getL (withL l nm vl) nm = vl ∧ withL (withL l nm vl) nm ⟨#[]⟩ = pickL l [nm] false := by
  obtain ⟨P, hP⟩ : ∃ P, pickL l [nm] false = P := ⟨_, rfl⟩
  have hPr := right_pick h [nm] false
  have hPn : ∀ y ∈ P, y.1 ≠ nm := fun y hy => pick_none (by rw [hP]; exact hy)
  have hPl : P.length ≤ l.length := by rw [← hP]; exact pickL_len l [nm] false
  rw [hP] at hPr
  obtain ⟨-, p2, p3⟩ := rightP_iff.1 (rightB_t.1 hPr)
  have hO : outL l nm vl = putL P (nm, vl) := by unfold outL; rw [if_neg h0, hP]
  have hOr : rightB (putL P (nm, vl)) = true := by
    rw [rightB_t, rightP_iff]
    refine ⟨by rw [putL_len]; omega, fun x hx => ?_, putL_sorted p3 hPn⟩
    rcases List.mem_cons.1 ((putL_perm P (nm, vl)).mem_iff.1 hx) with rfl | hx
    · simp [okV, hn]; omega
    · exact p2 x hx
  have hW : withL l nm vl = putL P (nm, vl) := by unfold withL; rw [hO, if_pos hOr]
  have hdrop : pickL (putL P (nm, vl)) [nm] false = P := by
    unfold pickL putL
    have e : (fun x : Lb => hasN [nm] x.1 == false) = fun x : Lb => !(x.1.toList == nm.toList) := by funext x; simp [hasN]
    rw [e, List.filter_append, List.filter_cons_of_neg (by simp), ← List.filter_append, List.takeWhile_append_dropWhile]
    refine List.filter_eq_self.2 fun y hy => ?_
    have := hPn y hy
    cases e : (y.1.toList == nm.toList)
    · rfl
    · exact absurd (beq_t.1 e) this
  rw [hW]
  refine ⟨?_, ?_⟩
  · unfold putL
    have hg : ∀ (a b : List Lb), (∀ y ∈ a, y.1 ≠ nm) → getL (a ++ (nm, vl) :: b) nm = vl := by
      intro a b ha
      induction a with
      | nil => simp [getL]
      | cons y a ih =>
        rw [List.cons_append, getL]
        have hy := ha y List.mem_cons_self
        cases e : (y.1.toList == nm.toList)
        · simp only [Bool.false_eq_true, if_false]; exact ih fun z hz => ha z (List.mem_cons_of_mem _ hz)
        · exact absurd (beq_t.1 e) hy
    exact hg _ _ fun y hy => hPn y ((List.takeWhile_sublist _).mem hy)
  · unfold withL
    have : outL (putL P (nm, vl)) nm ⟨#[]⟩ = P := by unfold outL; rw [if_pos (by rfl), hdrop]
    rw [this, if_pos hPr]; exact hP.symm
end Go.Proofs.YtihiklmomhhdbaaDoor
