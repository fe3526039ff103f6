/- What an aggregation makes of a vector: how many points, which labels, no error. -/
import Derived.Test.YtllhkegefinlbaaGreatDoorGGatW
import Derived.Test.YtllhkegefinlbaaGreatDoorGChk
namespace Go.Proofs.YtllhkegefinlbaaGreatDoor.Pt
open Go.RowKit
set_option maxRecDepth 100000

theorem flatMap_two {α β : Type} (l : List α) (f g : α → List β) : (l.flatMap f ++ l.flatMap g).Perm (l.flatMap fun x => f x ++ g x) := by
  induction l with
  | nil => exact List.Perm.refl _
  | cons x r ih =>
    rw [List.flatMap_cons, List.flatMap_cons, List.flatMap_cons]
    have h1 : ((f x ++ r.flatMap f) ++ (g x ++ r.flatMap g)).Perm ((f x ++ g x) ++ (r.flatMap f ++ r.flatMap g)) := by
      rw [List.append_assoc, List.append_assoc]
      refine List.Perm.append_left _ ?_
      rw [← List.append_assoc, ← List.append_assoc]
      exact List.Perm.append_right _ List.perm_append_comm
    exact h1.trans (List.Perm.append_left _ ih)
theorem flatMap_perm {α β : Type} (l : List α) {f g : α → List β} (h : ∀ x ∈ l, (f x).Perm (g x)) : (l.flatMap f).Perm (l.flatMap g) := by
  induction l with
  | nil => exact List.Perm.refl _
  | cons x r ih =>
    rw [List.flatMap_cons, List.flatMap_cons]
    exact (h x (by simp)).append (ih fun y hy => h y (by simp [hy]))
theorem flat_one {f : Pt → List Lb} (p : Pt) (r : List Pt) : ∀ {ks : List (List Lb)}, ks.Nodup → f p ∈ ks → (ks.flatMap fun x => memG f x (p :: r)).Perm (p :: ks.flatMap fun x => memG f x r)
  | [], _, h => absurd h (by simp)
  | y :: ks, hn, h => by
    obtain ⟨hy, hk⟩ := List.nodup_cons.1 hn
    rw [List.flatMap_cons, List.flatMap_cons]
    by_cases e : f p = y
    · subst e
      have e1 : memG f (f p) (p :: r) = p :: memG f (f p) r := by unfold memG; rw [List.filter_cons]; simp
      have e2 : (ks.flatMap fun x => memG f x (p :: r)) = ks.flatMap fun x => memG f x r := by
        unfold List.flatMap
        congr 1
        refine List.map_congr_left fun x hx => ?_
        have : f p ≠ x := fun e => hy (by rw [e]; exact hx)
        unfold memG; rw [List.filter_cons]; simp [this]
      rw [e1, e2]
      exact List.Perm.refl _
    · have e1 : memG f y (p :: r) = memG f y r := by unfold memG; rw [List.filter_cons]; simp [e]
      have h2 : f p ∈ ks := by
        rcases List.mem_cons.1 h with h | h
        · exact absurd h e
        · exact h
      rw [e1]
      exact (List.Perm.append_left _ (flat_one p r hk h2)).trans List.perm_middle
theorem flat_all {f : Pt → List Lb} {ks : List (List Lb)} (hn : ks.Nodup) : ∀ {l : List Pt}, (∀ p ∈ l, f p ∈ ks) → (ks.flatMap fun x => memG f x l).Perm l
  | [], _ => by
    have : (ks.flatMap fun x => memG f x []) = [] := by
      rw [List.flatMap_eq_nil_iff]; intro x _; rfl
    rw [this]
  | p :: r, h => (flat_one p r hn (h p (by simp))).trans ((flat_all hn fun q hq => h q (by simp [hq])).cons p)
/-- the groups together are all points -/
theorem grps_perm (f : Pt → List Lb) (l : List Pt) : ((grpsP f l).flatMap (·.2)).Perm l := by
  unfold grpsP
  rw [List.flatMap_map]
  exact flat_all (keys_nodup f l) fun p hp => mem_keys.2 ⟨p, hp, rfl⟩
/-- what is chosen, and the others, are all points -/
theorem agg_takes_perm {op : Int} (ho : tksB op = true) (f : Pt → List Lb) (k : Nat) (l : List Pt) : ∃ rest, (aggP op f k l ++ rest).Perm l := by
  refine ⟨(grpsP f l).flatMap fun s => (srtK (kP (op == 6)) s.2).drop (cutN k s.2.length), ?_⟩
  have e : aggP op f k l = (grpsP f l).flatMap fun s => (srtK (kP (op == 6)) s.2).take (cutN k s.2.length) := by
    unfold aggP outG
    rw [ho]; rfl
  rw [e]
  refine (flatMap_two _ _ _).trans ((flatMap_perm _ fun s _ => ?_).trans (grps_perm f l))
  rw [List.take_append_drop]
  exact srtK_perm _ _
theorem agg_ones {op : Int} (ho : tksB op = false) (f : Pt → List Lb) (k : Nat) (l : List Pt) : aggP op f k l = (keysP f l).map fun x => (x, oneV op ((memG f x l).map (·.2))) := by
  unfold aggP outG grpsP
  rw [ho]
  simp only [Bool.false_eq_true, if_false]
  rw [List.flatMap_map]
  induction keysP f l with
  | nil => rfl
  | cons x r ih => rw [List.flatMap_cons, ih]; rfl
theorem agg_len (op : Int) (f : Pt → List Lb) (k : Nat) (l : List Pt) : (aggP op f k l).length ≤ l.length := by
  cases ho : tksB op
  · rw [agg_ones ho, List.length_map]; exact keys_len f l
  · obtain ⟨rest, h⟩ := agg_takes_perm ho f k l
    have := h.length_eq
    rw [List.length_append] at this
    omega
theorem SmL.group {x : List Lb} (h : SmL x) (how : Int) (ns : List ByteArray) : SmL (groupL x how ns) := by
  have pk : ∀ ns am, SmL (pickL x ns am) := fun ns am => ⟨by have := pickL_len x ns am; have := h.1; omega, pickL_wd h.2 ns am⟩
  unfold groupL
  split
  · exact pk _ _
  · split
    · exact pk _ _
    · exact ⟨by simp, fun y hy => by simp at hy⟩
theorem agg_sm {l : List Pt} (h : SmP l) (op : Int) (how : Int) (ns : List ByteArray) (k : Nat) : SmP (aggP op (grpF how ns) k l) := by
  refine ⟨Nat.le_trans (agg_len _ _ _ _) h.1, fun p hp => ?_⟩
  cases ho : tksB op
  · rw [agg_ones ho] at hp
    obtain ⟨x, hx, rfl⟩ := List.mem_map.1 hp
    obtain ⟨q, hq, rfl⟩ := mem_keys.1 hx
    exact (h.2 q hq).group how ns
  · obtain ⟨rest, hr⟩ := agg_takes_perm ho (grpF how ns) k l
    exact h.2 p (hr.mem_iff.1 (List.mem_append_left _ hp))
theorem agg_ok {l : List Pt} (h : okP l = true) (op : Int) (how : Int) (ns : List ByteArray) (k : Nat) : okP (aggP op (grpF how ns) k l) = true := by
  unfold okP at h ⊢
  rw [List.all_eq_true] at h ⊢
  intro p hp
  cases ho : tksB op
  · rw [agg_ones ho] at hp
    obtain ⟨x, hx, rfl⟩ := List.mem_map.1 hp
    obtain ⟨q, hq, rfl⟩ := mem_keys.1 hx
    exact group_right (h q hq) how ns
  · obtain ⟨rest, hr⟩ := agg_takes_perm ho (grpF how ns) k l
    exact h p (hr.mem_iff.1 (List.mem_append_left _ hp))
theorem agg_nodup {l : List Pt} (h : (l.map (·.1)).Nodup) (op : Int) (f : Pt → List Lb) (k : Nat) : ((aggP op f k l).map (·.1)).Nodup := by
  cases ho : tksB op
  · rw [agg_ones ho, List.map_map]
    have : ((fun p : Pt => p.1) ∘ fun x => (x, oneV op ((memG f x l).map (·.2)))) = id := rfl
    rw [this, List.map_id]
    exact keys_nodup f l
  · obtain ⟨rest, hr⟩ := agg_takes_perm ho f k l
    have := (hr.map (·.1)).nodup_iff.2 h
    rw [List.map_append] at this
    exact (List.nodup_append.1 this).1
/-- of a vector there is no error -/
theorem agg_nor {l : List Pt} (h1 : okP l = true) (h2 : risP l) (op how : Int) (ns : List ByteArray) (k : Nat) : norE (aggP op (grpF how ns) k l) = 0 ∧ norV (aggP op (grpF how ns) k l) = ordP (aggP op (grpF how ns) k l) :=
  norE_0 (agg_ok h1 op how ns k) (by unfold nodB; exact decide_eq_true (agg_nodup h2.nodup op _ k))
/-! ### Agg -/
def agE (op how : Int) (ns : List ByteArray) (k : Nat) (l : List Pt) : Int := if isA op && chkG how ns then norE (aggP op (grpF how ns) k l) else 1
def agV (op how : Int) (ns : List ByteArray) (k : Nat) (l : List Pt) : List Pt := if isA op && chkG how ns then norV (aggP op (grpF how ns) k l) else []
end Go.Proofs.YtllhkegefinlbaaGreatDoor.Pt
