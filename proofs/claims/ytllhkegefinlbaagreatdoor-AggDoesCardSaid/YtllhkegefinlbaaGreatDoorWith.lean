/- With, the program's. -/
import Derived.Test.YtllhkegefinlbaaGreatDoorRefWith
import Derived.Test.YtllhkegefinlbaaGreatDoorApp
import Derived.Shelf.Spec.SlicesInsert
import Derived.Lib.AppendZerosOnto
import Derived.Test.YtllhkegefinlbaaGreatDoorRefRight
namespace Go.Proofs.YtllhkegefinlbaaGreatDoor
open Go.RowKit Go.Sort
set_option maxRecDepth 100000
set_option maxHeartbeats 1000000

theorem pick_perm (l : List Lb) (ns : List ByteArray) : (pickL l ns true ++ pickL l ns false).Perm l := by
  unfold pickL
  have h := List.filter_append_perm (fun x : Lb => hasN ns x.1 == true) l
  have e : (fun x : Lb => !(hasN ns x.1 == true)) = fun x : Lb => hasN ns x.1 == false := by funext x; cases hasN ns x.1 <;> rfl
  rw [e] at h
  exact h
theorem right_filter {l : List Lb} (h : rightP l) (p : Lb → Bool) : rightP (l.filter p) := by
  rw [rightP_iff] at *
  obtain ⟨h1, h2, h3⟩ := h
  refine ⟨?_, fun x hx => h2 x (List.mem_filter.1 hx).1, ?_⟩
  · have := List.length_filter_le p l; omega
  · unfold SortedN at *; exact h3.filter p
theorem right_pick {l : List Lb} (h : rightB l = true) (ns : List ByteArray) (am : Bool) : rightB (pickL l ns am) = true := rightB_t.2 (right_filter (rightB_t.1 h) _)
/-- what is kept and dropped, set together -/
theorem set_parts {l : List Lb} (h : rightB l = true) (ns : List ByteArray) : setB (pickL l ns true ++ pickL l ns false) = true ∧ setL (pickL l ns true ++ pickL l ns false) = l := by
  have hp := pick_perm l ns
  have hr := rightB_t.1 h
  obtain ⟨⟨s1, s2⟩, s3⟩ := right_setP hr
  have hfull : ∀ x ∈ l, full x = true := fun x hx => by
    have := (rightP_iff.1 hr).2.1 x hx
    simp [okV] at this
    exact decide_eq_true (by omega)
  have hP : setP (pickL l ns true ++ pickL l ns false) := ⟨fun x hx => s1 x (hp.mem_iff.1 hx), (hp.map (·.1)).nodup_iff.2 s2⟩
  have hfl : (pickL l ns true ++ pickL l ns false).filter full = pickL l ns true ++ pickL l ns false := List.filter_eq_self.2 fun x hx => hfull x (hp.mem_iff.1 hx)
  have hpm : (setL (pickL l ns true ++ pickL l ns false)).Perm l := by
    have := setL_perm (pickL l ns true ++ pickL l ns false)
    rw [hfl] at this
    exact this.trans hp
  have he : setL (pickL l ns true ++ pickL l ns false) = l := SortedN.unique (setL_sorted hP.2) (rightP_iff.1 hr).2.2 hpm
  exact ⟨setB_t.2 ⟨hP, by rw [he]; exact hr.1⟩, he⟩
theorem with_right {l : List Lb} (h : rightB l = true) (nm vl : ByteArray) : rightB (withL l nm vl) = true := by
  unfold withL
  cases e : rightB (outL l nm vl)
  · simpa using h
  · simp [e]
theorem withL_len (l : List Lb) (nm vl : ByteArray) : (withL l nm vl).length ≤ l.length + 1 := by
  have := outL_len l nm vl
  unfold withL
  split <;> omega
theorem pick_none {l : List Lb} {nm : ByteArray} {x : Lb} (hx : x ∈ pickL l [nm] false) : x.1 ≠ nm := by
  intro e
  have := (List.mem_filter.1 hx).2
  subst e
  simp [hasN] at this
/-- with a name: the list is right, tells the value, and without it the others are left -/
theorem with_there {l : List Lb} (h : rightB l = true) {nm vl : ByteArray} (hn : nameB nm = true) (h0 : vl.size ≠ 0) (h2 : vl.size ≤ 256) (hl : l.length < 32) :
    getL (withL l nm vl) nm = vl ∧ withL (withL l nm vl) nm ⟨#[]⟩ = pickL l [nm] false := by
  obtain ⟨P, hP⟩ : ∃ P, pickL l [nm] false = P := ⟨_, rfl⟩
  have hPr := right_pick h [nm] false
  have hPn : ∀ y ∈ P, y.1 ≠ nm := fun y hy => pick_none (by rw [hP]; exact hy)
  have hPl : P.length ≤ l.length := by rw [← hP]; exact pickL_len l [nm] false
  rw [hP] at hPr
  obtain ⟨-, p2, p3⟩ := rightP_iff.1 (rightB_t.1 hPr)
  have hO : outL l nm vl = putL P (nm, vl) := by unfold outL; rw [if_neg h0, hP]
  have hOr : rightB (putL P (nm, vl)) = true := by
    rw [rightB_t, rightP_iff]
    refine ⟨by rw [putL_len]; omega, fun x hx => ?_, putL_sorted p3 hPn⟩
    rcases List.mem_cons.1 ((putL_perm P (nm, vl)).mem_iff.1 hx) with rfl | hx
    · simp [okV, hn]; omega
    · exact p2 x hx
  have hW : withL l nm vl = putL P (nm, vl) := by unfold withL; rw [hO, if_pos hOr]
  have hdrop : pickL (putL P (nm, vl)) [nm] false = P := by
    unfold pickL putL
    have e : (fun x : Lb => hasN [nm] x.1 == false) = fun x : Lb => !(x.1.toList == nm.toList) := by funext x; simp [hasN]
    rw [e, List.filter_append, List.filter_cons_of_neg (by simp), ← List.filter_append, List.takeWhile_append_dropWhile]
    refine List.filter_eq_self.2 fun y hy => ?_
    have := hPn y hy
    cases e : (y.1.toList == nm.toList)
    · rfl
    · exact absurd (beq_t.1 e) this
  rw [hW]
  refine ⟨?_, ?_⟩
  · unfold putL
    have hg : ∀ (a b : List Lb), (∀ y ∈ a, y.1 ≠ nm) → getL (a ++ (nm, vl) :: b) nm = vl := by
      intro a b ha
      induction a with
      | nil => simp [getL]
      | cons y a ih =>
        rw [List.cons_append, getL]
        have hy := ha y List.mem_cons_self
        cases e : (y.1.toList == nm.toList)
        · simp only [Bool.false_eq_true, if_false]; exact ih fun z hz => ha z (List.mem_cons_of_mem _ hz)
        · exact absurd (beq_t.1 e) hy
    exact hg _ _ fun y hy => hPn y ((List.takeWhile_sublist _).mem hy)
  · unfold withL
    have : outL (putL P (nm, vl)) nm ⟨#[]⟩ = P := by unfold outL; rw [if_pos (by rfl), hdrop]
    rw [this, if_pos hPr]; exact hP.symm
end Go.Proofs.YtllhkegefinlbaaGreatDoor
namespace Go.Proofs.YtllhkegefinlbaaGreatDoor
open Go.RowKit Go.Sort Go.Lib
set_option maxRecDepth 100000
set_option maxHeartbeats 4000000

theorem flat_take : ∀ (l : List Lb) (k : Nat), (l.take k).flatMap encL = (l.flatMap encL).take (k * 2)
  | [], k => by simp
  | x :: l, 0 => by simp
  | x :: l, k + 1 => by
    rw [List.take_succ_cons, List.flatMap_cons, List.flatMap_cons, flat_take l k, show (k + 1) * 2 = 2 + k * 2 by omega, List.take_append, List.take_of_length_le (l := encL x) (by simp [encL])]
    simp [encL]
theorem flat_drop : ∀ (l : List Lb) (k : Nat), (l.drop k).flatMap encL = (l.flatMap encL).drop (k * 2)
  | [], k => by simp
  | x :: l, 0 => by simp
  | x :: l, k + 1 => by
    rw [List.drop_succ_cons, List.flatMap_cons, flat_drop l k, show (k + 1) * 2 = 2 + k * 2 by omega, List.drop_append, List.drop_of_length_le (l := encL x) (by simp [encL])]
    simp [encL]
theorem labs_of_flat {W : World} {b : Nat} {l : List Lb} (h : ∀ j u, (l.flatMap encL)[j]? = some u → W.cell? ⟨b, j, none⟩ = some u) : LabsAt W (some ⟨b, 0, none⟩) l := fun _ =>
  ⟨b, 0, rfl, fun i x hx => by
    obtain ⟨c1, c2⟩ := flat_cells l i x hx
    rw [Nat.zero_add]
    exact ⟨h _ _ c1, h _ _ c2⟩⟩

/-- ALL IS READ BEFORE ANYTHING IS WRITTEN: 'cs' is what the source held before the call. -/
theorem run_copy2 (w : World) (ty : TypeId) (b o dLen dCap : Nat) (a : Addr) (sLen sCap : Nat) (cs : List Value) (hn : cs.length = Nat.min sLen dLen * 2)
    (hsrc : ∀ j v, cs[j]? = some v → w.cell? (a.add j) = some v) (hc : ∀ j, j < cs.length → (w.cell? ⟨b, o + j, none⟩).isSome = true) (hf : ∀ j, j < cs.length → w.frozen? ⟨b, o + j, none⟩ = false) (h1 : ∀ v ∈ cs, v.oneCell' = true) :
    (Builtin.copy_ #[43, 43] ty #[.slice (some ⟨b, o, none⟩) dLen dCap, .slice (some a) sLen sCap]).run Tryz.prog w = .ok (goInt (Nat.min sLen dLen)) (w.setCells b o cs) := by
  have hl := run_loadCells_list (P := Tryz.prog) w a cs hsrc
  have hst := run_storeCells_cells (P := Tryz.prog) b o cs 0 w (by simpa using hc) (by simpa using hf) h1
  obtain ⟨i0, hi, hz0, hz1, hz2⟩ := info_parts lab_info
  simp [Builtin.copy_, run_underlying Tryz.underlying43, Builtin.lenOf, Builtin.firstCells, sizeOf, typeInfo, hi, hz1, ← hn, hl, hst]

/-- the cells behind both copies -/
theorem ins_cells {W : World} {b k : Nat} {cs vs : List Value} (hk : k * 2 ≤ cs.length) (hv : vs.length = 2) (h0 : ∀ j u, j < k * 2 → cs[j]? = some u → W.cell? ⟨b, j, none⟩ = some u) (hs : ∀ j, j < cs.length + 2 → (W.cell? ⟨b, j, none⟩).isSome = true) :
    ∀ j u, (cs.take (k * 2) ++ vs ++ cs.drop (k * 2))[j]? = some u → ((W.setCells b (k * 2 + 2) (cs.drop (k * 2))).setCells b (k * 2) vs).cell? ⟨b, j, none⟩ = some u := by
  intro j u hu
  have hl : (cs.take (k * 2)).length = k * 2 := by simp; omega
  have hd : (cs.drop (k * 2)).length = cs.length - k * 2 := by simp
  rw [List.append_assoc] at hu
  by_cases h1 : j < k * 2
  · rw [World.cell?_setCells_out _ _ _ _ _ (fun _ _ => .inl h1), World.cell?_setCells_out _ _ _ _ _ (fun _ _ => .inl (by show j < _; omega))]
    rw [List.getElem?_append_left (by omega), List.getElem?_take, if_pos h1] at hu
    exact h0 j u h1 hu
  rw [List.getElem?_append_right (by omega), hl] at hu
  by_cases h2 : j < k * 2 + 2
  · have hin := World.cell?_setCells_in b vs (k * 2) (W.setCells b (k * 2 + 2) (cs.drop (k * 2))) (fun t ht => by
      rw [World.cell?_setCells_out _ _ _ _ _ (fun _ _ => .inl (by show k * 2 + t < _; omega))]
      exact hs _ (by omega)) (j - k * 2) (by omega)
    rw [show k * 2 + (j - k * 2) = j by omega] at hin
    rw [hin]
    rw [List.getElem?_append_left (by omega), List.getElem?_eq_getElem (by omega)] at hu
    exact hu
  · rw [World.cell?_setCells_out _ _ _ _ _ (fun _ _ => .inr (by show _ ≤ j; omega))]
    rw [List.getElem?_append_right (by omega), hv] at hu
    have hj : j - k * 2 - 2 < (cs.drop (k * 2)).length := (List.getElem?_eq_some_iff.1 hu).1
    have hin := World.cell?_setCells_in b (cs.drop (k * 2)) (k * 2 + 2) W (fun t ht => hs _ (by omega)) (j - k * 2 - 2) hj
    rw [show k * 2 + 2 + (j - k * 2 - 2) = j by omega] at hin
    rw [hin, ← hu, List.getElem?_eq_getElem hj]
/-- the same, copied the other way round -/
theorem ins_cells2 {W : World} {b k : Nat} {cs vs : List Value} (hk : k * 2 ≤ cs.length) (hv : vs.length = 2) (h0 : ∀ j u, j < k * 2 → cs[j]? = some u → W.cell? ⟨b, j, none⟩ = some u) (hs : ∀ j, j < cs.length + 2 → (W.cell? ⟨b, j, none⟩).isSome = true) :
    ∀ j u, (cs.take (k * 2) ++ vs ++ cs.drop (k * 2))[j]? = some u → ((W.setCells b (k * 2) vs).setCells b (k * 2 + 2) (cs.drop (k * 2))).cell? ⟨b, j, none⟩ = some u := by
  intro j u hu
  have hl : (cs.take (k * 2)).length = k * 2 := by simp; omega
  have hd : (cs.drop (k * 2)).length = cs.length - k * 2 := by simp
  rw [List.append_assoc] at hu
  by_cases h1 : j < k * 2
  · rw [World.cell?_setCells_out _ _ _ _ _ (fun _ _ => .inl (by show j < _; omega)), World.cell?_setCells_out _ _ _ _ _ (fun _ _ => .inl h1)]
    rw [List.getElem?_append_left (by omega), List.getElem?_take, if_pos h1] at hu
    exact h0 j u h1 hu
  rw [List.getElem?_append_right (by omega), hl] at hu
  by_cases h2 : j < k * 2 + 2
  · rw [World.cell?_setCells_out _ _ _ _ _ (fun _ _ => .inl (by show j < _; omega))]
    have hin := World.cell?_setCells_in b vs (k * 2) W (fun t ht => hs _ (by omega)) (j - k * 2) (by omega)
    rw [show k * 2 + (j - k * 2) = j by omega] at hin
    rw [hin]
    rw [List.getElem?_append_left (by omega), List.getElem?_eq_getElem (by omega)] at hu
    exact hu
  · rw [List.getElem?_append_right (by omega), hv] at hu
    have hj : j - k * 2 - 2 < (cs.drop (k * 2)).length := (List.getElem?_eq_some_iff.1 hu).1
    have hin := World.cell?_setCells_in b (cs.drop (k * 2)) (k * 2 + 2) (W.setCells b (k * 2) vs) (fun t ht => isSome_setCells _ _ _ _ (fun q hq => hs _ (by omega)) _ (hs _ (by omega))) (j - k * 2 - 2) hj
    rw [show k * 2 + 2 + (j - k * 2 - 2) = j by omega] at hin
    rw [hin, ← hu, List.getElem?_eq_getElem hj]

def InsPost (B : Nat) (l : List Lb) (k : Nat) (x : Lb) (w : World) (e : Ending) (w' : World) : Prop :=
  ∃ A c, e = .returned (.slice A (l.length + 1) c) ∧ LabsAt w' A (l.take k ++ [x] ++ l.drop k) ∧ Below B w w' ∧ ∀ q, (Value.slice A (l.length + 1) c).ownBlock = some q → B ≤ q
/-- what a row of the call's own gives, its spare room too -/
theorem own_room {W : World} {B : Nat} {v : Value} {l : List Lb} (h : Own W B v l) (h0 : 0 < l.length) :
    ∃ b c, v = .slice (some ⟨b, 0, none⟩) l.length c ∧ B ≤ b ∧ b < W.heap.size ∧ l.length ≤ c ∧ c ≤ maxLen ∧ (∀ j u, (l.flatMap encL)[j]? = some u → W.cell? ⟨b, j, none⟩ = some u) ∧ (∀ j, j < c * 2 → (W.cell? ⟨b, j, none⟩).isSome = true) ∧ (∀ j, W.frozen? ⟨b, j, none⟩ = false) ∧ W.shape? b = some (42, c * 2) := by
  rcases h.2 with ⟨_, e0⟩ | ⟨b, c, cur, rfl, hb, hg, hnc, hm, hs, ht⟩
  · omega
  · have hlt : b < W.heap.size := by
      rcases Nat.lt_or_ge b W.heap.size with e | e
      · exact e
      · rw [Array.getElem?_eq_none e] at hg; cases hg
    have hcell : ∀ j, W.cell? ⟨b, j, none⟩ = cur[j]? := fun j => cell_of_row W b j cur _ (0, 0) hg
    refine ⟨b, c, rfl, hb, hlt, hnc, hm, fun j u hu => ?_, fun j hj => ?_, fun j => by simp [World.frozen?, hg], by simp [World.shape?, hg, hs]⟩
    · have hj : j < l.length * 2 := by have := (List.getElem?_eq_some_iff.1 hu).1; rwa [flat_len] at this
      rw [hcell, ← hu, ← ht, List.getElem?_take, if_pos hj]; simp
    · rw [hcell, Array.getElem?_eq_getElem (by omega)]; rfl
theorem flat_ins (l : List Lb) (k : Nat) (x : Lb) : (l.take k ++ [x] ++ l.drop k).flatMap encL = (l.flatMap encL).take (k * 2) ++ encL x ++ (l.flatMap encL).drop (k * 2) := by
  rw [List.flatMap_append, List.flatMap_append, flat_take, flat_drop]; simp
end Go.Proofs.YtllhkegefinlbaaGreatDoor
namespace Go.Proofs.YtllhkegefinlbaaGreatDoor
open Go.RowKit Go.Sort
set_option maxRecDepth 100000
set_option maxHeartbeats 4000000

/-- labels in new memory -/
def FrPost (l : List Lb) (w : World) (e : Ending) (w' : World) : Prop :=
  ∃ A c, e = .returned (.slice A l.length c) ∧ LabsAt w' A l ∧ Gr w w' ∧ (0 < l.length → ∀ b, (Value.slice A l.length c).ownBlock = some b → w.heap.size ≤ b)
theorem FrPost.list {l : List Lb} {w : World} {e : Ending} {w' : World} (h : FrPost l w e w') : ListPost l w e w' := by
  obtain ⟨A, c, h1, h2, h3, -⟩ := h
  exact ⟨A, c, h1, h2, h3⟩
/-- Clone, of whatever list -/
theorem cloneF_any (A : Option Addr) (l : List Lb) (c : Nat) (w : World) (h : LabsAt w A l) (hl : l.length ≤ 1099511627776) :
    Calls Tryz.prog 34 #[.slice A l.length c] w (FrPost l w) := by
  by_cases h0 : 0 < l.length
  · obtain ⟨b, o, rfl, -⟩ := h h0
    refine (clone_any b o c l w h h0 hl).mono ?_
    rintro e w' ⟨g, o', c', rfl, hb, -, -, hR, hg⟩
    exact ⟨_, _, rfl, hR.labs, hg, fun _ b hb' => by simp [Value.ownBlock] at hb'; omega⟩
  · have e0 : l = [] := List.eq_nil_of_length_eq_zero (by omega)
    subst e0
    refine (clone_none A c w).mono ?_
    rintro e w' ⟨A', c', rfl, hg⟩
    exact ⟨A', c', rfl, LabsAt.none_ _ _, hg, fun h => absurd h (by simp)⟩
/-- Clone, of whatever list -/
theorem cloneL_any (A : Option Addr) (l : List Lb) (c : Nat) (w : World) (h : LabsAt w A l) (hl : l.length ≤ 1099511627776) :
    Calls Tryz.prog 34 #[.slice A l.length c] w (ListPost l w) := by
  by_cases h0 : 0 < l.length
  · obtain ⟨b, o, rfl, -⟩ := h h0
    refine (clone_any b o c l w h h0 hl).mono ?_
    rintro e w' ⟨g, o', c', rfl, -, -, -, hR, hg⟩
    exact ⟨_, _, rfl, hR.labs, hg⟩
  · have e0 : l = [] := List.eq_nil_of_length_eq_zero (by omega)
    subst e0
    refine (clone_none A c w).mono ?_
    rintro e w' ⟨A', c', rfl, hg⟩
    exact ⟨A', c', rfl, LabsAt.none_ _ _, hg⟩
end Go.Proofs.YtllhkegefinlbaaGreatDoor
