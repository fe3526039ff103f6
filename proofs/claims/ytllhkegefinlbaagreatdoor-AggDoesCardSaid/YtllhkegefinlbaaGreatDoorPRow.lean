/- Points of one time, as pure functions on lists: their order, what Normal answers. -/
import Derived.Test.YtllhkegefinlbaaGreatDoorCmp
import Derived.Test.YtllhkegefinlbaaGreatDoorFKey
import Derived.Test.YtllhkegefinlbaaGreatDoorFOps
import Derived.Test.YtllhkegefinlbaaGreatDoorLabs
import Derived.Deep.RegionHeld3
import Derived.Deep.RegionLaw
import Derived.Deep.AppendLies
import Derived.Deep.DrawnRows
import Derived.Deep.OwnRows
import Derived.Maps.AppendAt
import Derived.OwnWalk
import Derived.Lib.QuietBelow
namespace Go.Proofs.YtllhkegefinlbaaGreatDoor.Pt
open Go.RowKit

/-! ### the order of labels -/
theorem cmpL_0 {x y : Lb} (h : cmpL x y = 0) : x = y := by
  unfold cmpL at h
  by_cases e : x = y
  · exact e
  · rw [if_neg e] at h; split at h <;> omega
theorem cmpL_lt {x y : Lb} : cmpL x y < 0 ↔ lbLt x y = true := by rw [← cmpL_neg]; simp
theorem cmpL_mirror (x y : Lb) : cmpL y x = - cmpL x y := by
  unfold cmpL
  by_cases e : x = y
  · rw [if_pos e, if_pos e.symm]; rfl
  · rw [if_neg e, if_neg (Ne.symm e)]
    have key : lbLt y x = !lbLt x y := by
      cases h1 : lbLt x y <;> cases h2 : lbLt y x
      · exact absurd (lbLt_tri h1 h2) e
      · rfl
      · rfl
      · have := lbLt_trans h1 h2
        rw [lbLt_irrefl] at this; cases this
    rw [key]
    cases lbLt x y <;> rfl
theorem cmpLs_mirror : ∀ (a b : List Lb), cmpLs b a = - cmpLs a b
  | [], [] => rfl
  | [], _ :: _ => rfl
  | _ :: _, [] => rfl
  | x :: r, y :: s => by
    have ih := cmpLs_mirror r s
    have h := cmpL_mirror x y
    unfold cmpLs
    rw [h]
    by_cases e : cmpL x y = 0
    · rw [if_pos e, if_pos (by omega)]; exact ih
    · rw [if_neg e, if_neg (by omega)]
theorem cmpLs_trans : ∀ {a b c : List Lb}, cmpLs a b < 0 → cmpLs b c < 0 → cmpLs a c < 0
  | [], _, [], h, g => by
    rename_i b
    cases b with
    | nil => exact absurd h (by simp [cmpLs])
    | cons y r => exact absurd g (by simp [cmpLs])
  | [], _, _ :: _, _, _ => by simp [cmpLs]
  | _ :: _, [], _, h, _ => absurd h (by simp [cmpLs])
  | _ :: _, _ :: _, [], _, g => absurd g (by simp [cmpLs])
  | x :: r, y :: s, z :: t, h, g => by
    unfold cmpLs at h g ⊢
    by_cases e1 : cmpL x y = 0
    · rw [if_pos e1] at h
      obtain rfl := cmpL_0 e1
      by_cases e2 : cmpL x z = 0
      · rw [if_pos e2] at g ⊢; exact cmpLs_trans h g
      · rw [if_neg e2] at g ⊢; exact g
    · rw [if_neg e1] at h
      by_cases e2 : cmpL y z = 0
      · obtain rfl := cmpL_0 e2
        rw [if_neg e1]; exact h
      · rw [if_neg e2] at g
        have h3 : cmpL x z < 0 := cmpL_lt.2 (lbLt_trans (cmpL_lt.1 h) (cmpL_lt.1 g))
        rw [if_neg (by omega)]; exact h3
/-- labels stand ahead of labels -/
def ltLs (a b : List Lb) : Prop := cmpLs a b < 0
theorem ltLs_irrefl (a : List Lb) : ¬ ltLs a a := fun h => by
  unfold ltLs at h
  rw [(cmpLs_0_iff a a).2 rfl] at h
  exact absurd h (by decide)
theorem ltLs_trans {a b c : List Lb} (h : ltLs a b) (g : ltLs b c) : ltLs a c := cmpLs_trans h g
theorem ltLs_asymm {a b : List Lb} (h : ltLs a b) : ¬ ltLs b a := fun g => ltLs_irrefl _ (ltLs_trans h g)
theorem ltLs_tri (a b : List Lb) : ltLs a b ∨ a = b ∨ ltLs b a := by
  unfold ltLs
  have h := cmpLs_mirror a b
  by_cases e : cmpLs a b = 0
  · exact .inr (.inl ((cmpLs_0_iff a b).1 e))
  · omega
instance (a b : List Lb) : Decidable (ltLs a b) := by unfold ltLs; infer_instance

/-! ### points -/
/-- labels, a value's bits -/
abbrev Pt := List Lb × Nat
def canP (p : Pt) : Pt := (p.1, Fv.canon p.2)
def ahead (x : List Lb) (q : Pt) : Bool := decide (ltLs q.1 x)
def insP (l : List Pt) (p : Pt) : List Pt := l.takeWhile (ahead p.1) ++ p :: l.dropWhile (ahead p.1)
/-- in order -/
def ordP (l : List Pt) : List Pt := (l.map canP).foldl insP []
def okP (l : List Pt) : Bool := l.all fun p => rightB p.1
def nodB (l : List Pt) : Bool := decide ((l.map (·.1)).Nodup)
/-- Normal's error, its points -/
def norE (l : List Pt) : Int := if okP l then (if nodB l then 0 else 4) else 1
def norV (l : List Pt) : List Pt := if okP l && nodB l then ordP l else []
/-- each stands behind those ahead of it -/
def risP (l : List Pt) : Prop := l.Pairwise fun a b => ltLs a.1 b.1
instance (l : List Pt) : Decidable (risP l) := by unfold risP; infer_instance
def risB (l : List Pt) : Bool := decide (risP l)
/-- a vector -/
def vecB (l : List Pt) : Bool := okP l && risB l
/-- none stands ahead of one that is ahead of it -/
def wsP (l : List Pt) : Prop := l.Pairwise fun a b => ¬ ltLs b.1 a.1
theorem risP.ws {l : List Pt} (h : risP l) : wsP l := h.imp fun h => ltLs_asymm h
theorem risP.nodup {l : List Pt} (h : risP l) : (l.map (·.1)).Nodup := by
  unfold List.Nodup
  rw [List.pairwise_map]
  exact h.imp fun {a b} h e => by rw [e] at h; exact ltLs_irrefl _ h
theorem wsP.ris {l : List Pt} (h : wsP l) (hn : (l.map (·.1)).Nodup) : risP l := by
  unfold List.Nodup at hn
  rw [List.pairwise_map] at hn
  exact (h.and hn).imp fun {a b} ⟨h1, h2⟩ => by
    rcases ltLs_tri a.1 b.1 with h | h | h
    · exact h
    · exact absurd h h2
    · exact absurd h h1
theorem risP.unique {l r : List Pt} (h : risP l) (g : risP r) (p : l.Perm r) : l = r :=
  List.Perm.eq_of_pairwise (fun _ _ _ _ hab hba => absurd hba (ltLs_asymm hab)) h g p
theorem insP_perm (l : List Pt) (p : Pt) : (insP l p).Perm (p :: l) := by
  unfold insP
  have h := List.takeWhile_append_dropWhile (p := ahead p.1) (l := l)
  conv => rhs; rw [← h]
  exact List.perm_middle
theorem insP_ws {l : List Pt} {p : Pt} (h : wsP l) : wsP (insP l p) := by
  induction l with
  | nil => simp [insP, wsP]
  | cons a r ih =>
    unfold wsP at h ih ⊢
    obtain ⟨ha, hr⟩ := List.pairwise_cons.1 h
    by_cases hl : ltLs a.1 p.1
    · have e : insP (a :: r) p = a :: insP r p := by simp [insP, ahead, hl]
      rw [e, List.pairwise_cons]
      refine ⟨fun y hy => ?_, ih hr⟩
      rcases List.mem_cons.1 ((insP_perm r p).mem_iff.1 hy) with rfl | hy
      · exact ltLs_asymm hl
      · exact ha _ hy
    · have e : insP (a :: r) p = p :: a :: r := by simp [insP, ahead, hl]
      rw [e, List.pairwise_cons]
      refine ⟨fun y hy => ?_, h⟩
      rcases List.mem_cons.1 hy with rfl | hy
      · exact hl
      · intro hyp
        rcases ltLs_tri a.1 y.1 with h1 | h1 | h1
        · exact hl (ltLs_trans h1 hyp)
        · rw [← h1] at hyp; exact hl hyp
        · exact ha _ hy h1
theorem foldl_ins_perm (r : List Pt) : ∀ l, (r.foldl insP l).Perm (l ++ r) := by
  induction r with
  | nil => intro l; simp
  | cons a r ih =>
    intro l
    rw [List.foldl_cons]
    exact (ih _).trans (((insP_perm l a).append_right r).trans List.perm_middle.symm)
theorem foldl_ins_ws (r : List Pt) : ∀ l, wsP l → wsP (r.foldl insP l) := by
  induction r with
  | nil => intro l h; exact h
  | cons a r ih => intro l h; rw [List.foldl_cons]; exact ih _ (insP_ws h)
theorem ordP_perm (l : List Pt) : (ordP l).Perm (l.map canP) := by simpa [ordP] using foldl_ins_perm (l.map canP) []
theorem ordP_ws (l : List Pt) : wsP (ordP l) := foldl_ins_ws _ _ List.Pairwise.nil
theorem map_can (l : List Pt) : (l.map canP).map (·.1) = l.map (·.1) := by rw [List.map_map]; rfl
theorem ordP_ris {l : List Pt} (h : (l.map (·.1)).Nodup) : risP (ordP l) :=
  (ordP_ws l).ris (((ordP_perm l).map _).nodup_iff.2 (by rw [map_can]; exact h))
theorem ordP_len (l : List Pt) : (ordP l).length = l.length := by rw [(ordP_perm l).length_eq, List.length_map]
theorem ordP_snoc (l : List Pt) (p : Pt) : ordP (l ++ [p]) = insP (ordP l) (canP p) := by simp [ordP]
theorem ordP_take {l : List Pt} {k : Nat} (h : k < l.length) : ordP (l.take (k + 1)) = insP (ordP (l.take k)) (canP l[k]) := by
  rw [List.take_succ_eq_append_getElem h, ordP_snoc]
/-- what is in order and of the same points is Normal's -/
theorem ordP_of {l r : List Pt} (h : risP r) (p : r.Perm (l.map canP)) : r = ordP l ∧ (l.map (·.1)).Nodup := by
  have hn : (l.map (·.1)).Nodup := by rw [← map_can]; exact (p.map _).nodup_iff.1 h.nodup
  exact ⟨h.unique (ordP_ris hn) (p.trans (ordP_perm l).symm), hn⟩
theorem canP_id {p : Pt} (h : Fv.canon p.2 = p.2) : canP p = p := by unfold canP; rw [h]

/-! ### step by step -/
theorem okP_take {l : List Pt} {k : Nat} (h : k < l.length) : okP (l.take (k + 1)) = (okP (l.take k) && rightB (l[k]).1) := by
  unfold okP; rw [List.take_succ_eq_append_getElem h, List.all_append]; simp
theorem okP_not {l : List Pt} {k : Nat} (h : k < l.length) (g : rightB (l[k]).1 = false) : okP l = false := by
  unfold okP
  rw [List.all_eq_false]
  exact ⟨_, List.getElem_mem h, by simp [g]⟩
/-- up to k it rises -/
def risTo (l : List Pt) (k : Nat) : Prop := ∀ i x y, i + 1 < k → l[i]? = some x → l[i + 1]? = some y → ltLs x.1 y.1
theorem risTo_0 (l : List Pt) : risTo l 0 := fun i x y h => absurd h (by omega)
theorem risTo_1 (l : List Pt) : risTo l 1 := fun i x y h => absurd h (by omega)
theorem risTo_s {l : List Pt} {k : Nat} {x y : Pt} (h : risTo l (k + 1)) (hx : l[k]? = some x) (hy : l[k + 1]? = some y) (g : ltLs x.1 y.1) : risTo l (k + 2) := by
  intro i a b hi ha hb
  by_cases e : i = k
  · subst e; rw [hx] at ha; rw [hy] at hb; cases ha; cases hb; exact g
  · exact h i a b (by omega) ha hb
theorem risTo_end {l : List Pt} (h : risTo l l.length) : risP l := by
  unfold risP
  have key : ∀ d i j (hi : i < l.length) (hj : j < l.length), j = i + d + 1 → ltLs (l[i]).1 (l[j]).1 := by
    intro d
    induction d with
    | zero =>
      intro i j hi hj hd
      exact h i _ _ (by omega) (List.getElem?_eq_getElem hi) (by rw [← show j = i + 1 by omega]; exact List.getElem?_eq_getElem hj)
    | succ d ih =>
      intro i j hi hj hd
      have h1 := ih i (j - 1) hi (by omega) (by omega)
      refine ltLs_trans h1 (h (j - 1) _ _ (by omega) (List.getElem?_eq_getElem (by omega)) ?_)
      rw [show j - 1 + 1 = j by omega]
      exact List.getElem?_eq_getElem hj
  rw [List.pairwise_iff_getElem]
  intro i j hi hj hij
  exact key (j - i - 1) i j hi hj (by omega)
theorem ris_not {l : List Pt} {k : Nat} {x y : Pt} (hx : l[k]? = some x) (hy : l[k + 1]? = some y) (g : ¬ ltLs x.1 y.1) : risB l = false := by
  unfold risB
  rw [decide_eq_false_iff_not]
  intro h
  obtain ⟨h1, e1⟩ := List.getElem?_eq_some_iff.1 hx
  obtain ⟨h2, e2⟩ := List.getElem?_eq_some_iff.1 hy
  have := List.pairwise_iff_getElem.1 h k (k + 1) h1 h2 (by omega)
  rw [e1, e2] at this
  exact g this
/-- the reference's place -/
theorem tw_len {l : List Pt} {x : List Lb} {k : Nat} (h1 : ∀ i, i < k → ∀ q, l[i]? = some q → ltLs q.1 x) (h2 : ∀ q, l[k]? = some q → ¬ ltLs q.1 x) (hk : k ≤ l.length) : l.takeWhile (ahead x) = l.take k ∧ l.dropWhile (ahead x) = l.drop k := by
  induction l generalizing k with
  | nil => simp
  | cons a r ih =>
    cases k with
    | zero =>
      have := h2 a rfl
      simp [ahead, this]
    | succ k =>
      have ha := h1 0 (by omega) a rfl
      have := ih (k := k) (fun i hi q hq => h1 (i + 1) (by omega) q (by simpa using hq)) (fun q hq => h2 q (by simpa using hq)) (by simpa using hk)
      simp [ahead, ha] at this ⊢
      exact this
theorem insP_at {l : List Pt} {p : Pt} {k : Nat} (h1 : ∀ i, i < k → ∀ q, l[i]? = some q → ltLs q.1 p.1) (h2 : ∀ q, l[k]? = some q → ¬ ltLs q.1 p.1) (hk : k ≤ l.length) : insP l p = l.take k ++ p :: l.drop k := by
  obtain ⟨e1, e2⟩ := tw_len h1 h2 hk
  unfold insP; rw [e1, e2]
/-- is it there already? -/
theorem dup_at {l : List Pt} {x : List Lb} {k : Nat} (hw : wsP l) (h1 : ∀ i, i < k → ∀ q, l[i]? = some q → ltLs q.1 x) (h2 : ∀ q, l[k]? = some q → ¬ ltLs q.1 x) : x ∈ l.map (·.1) ↔ ∃ q, l[k]? = some q ∧ q.1 = x := by
  constructor
  · intro h
    obtain ⟨q, hq, rfl⟩ := List.mem_map.1 h
    obtain ⟨i, hi, rfl⟩ := List.getElem_of_mem hq
    by_cases h3 : i < k
    · exact absurd (h1 i h3 _ (List.getElem?_eq_getElem hi)) (ltLs_irrefl _)
    · by_cases h4 : i = k
      · subst h4; exact ⟨_, List.getElem?_eq_getElem hi, rfl⟩
      · have hk : k < l.length := by omega
        refine ⟨_, List.getElem?_eq_getElem hk, ?_⟩
        have a := h2 _ (List.getElem?_eq_getElem hk)
        have b := List.pairwise_iff_getElem.1 hw k i hk hi (by omega)
        rcases ltLs_tri (l[k]).1 (l[i]).1 with h | h | h
        · exact absurd h a
        · exact h
        · exact absurd h b
  · rintro ⟨q, hq, rfl⟩
    exact List.mem_map.2 ⟨q, List.mem_of_getElem? hq, rfl⟩
theorem nodB_take {l : List Pt} {k : Nat} (h : k < l.length) : nodB (l.take (k + 1)) = true ↔ nodB (l.take k) = true ∧ (l[k]).1 ∉ (ordP (l.take k)).map (·.1) := by
  have e : ((ordP (l.take k)).map (·.1)).Perm ((l.take k).map (·.1)) := by
    have := (ordP_perm (l.take k)).map (·.1)
    rwa [map_can] at this
  unfold nodB
  rw [List.take_succ_eq_append_getElem h, List.map_append, List.map_singleton, decide_eq_true_eq, decide_eq_true_eq, List.nodup_append, e.mem_iff]
  constructor
  · rintro ⟨h1, -, h3⟩
    exact ⟨h1, fun hm => h3 _ hm _ (List.mem_singleton_self _) rfl⟩
  · rintro ⟨h1, h2⟩
    refine ⟨h1, by simp, fun a ha b hb e => ?_⟩
    rw [List.mem_singleton] at hb
    subst hb; subst e
    exact h2 ha
theorem norE_1 {l : List Pt} (h : okP l = false) : norE l = 1 ∧ norV l = [] := by simp [norE, norV, h]
theorem norE_4 {l : List Pt} (h : okP l = true) (g : nodB l = false) : norE l = 4 ∧ norV l = [] := by simp [norE, norV, h, g]
theorem norE_0 {l : List Pt} (h : okP l = true) (g : nodB l = true) : norE l = 0 ∧ norV l = ordP l := by simp [norE, norV, h, g]
theorem norV_len (l : List Pt) : (norV l).length ≤ l.length := by
  unfold norV; split
  · rw [ordP_len]; omega
  · simp
/-- Normal's points are a vector -/
theorem norV_vec (l : List Pt) : vecB (norV l) = true := by
  unfold norV
  split
  · rename_i h
    rw [Bool.and_eq_true] at h
    unfold vecB risB
    rw [Bool.and_eq_true, decide_eq_true_eq]
    refine ⟨?_, ordP_ris (by simpa [nodB] using h.2)⟩
    have h1 := h.1
    unfold okP at h1 ⊢
    rw [List.all_eq_true] at h1 ⊢
    intro x hx
    obtain ⟨y, hy, rfl⟩ := List.mem_map.1 ((ordP_perm l).mem_iff.1 hx)
    exact h1 y hy
  · simp [vecB, okP, risB, risP]
end Go.Proofs.YtllhkegefinlbaaGreatDoor.Pt
/- Rows of points in memory: their cells, what they read as. -/
namespace Go.Proofs.YtllhkegefinlbaaGreatDoor.Pt
open Go.RowKit
set_option maxRecDepth 100000
set_option maxHeartbeats 2000000

theorem _root_.Go.Proofs.YtllhkegefinlbaaGreatDoor.Gr.gb {W W' : World} (g : Gr W W') : W.grownBy W' none := ⟨g.b.os, g.b.tape, g.b.output, g.b.size, fun i hi _ => g.b.block i hi⟩
theorem _root_.Go.Proofs.YtllhkegefinlbaaGreatDoor.Gr.grown {w w1 w2 : World} {row : Option Nat} (h : Gr w w1) (g : w1.grownBy w2 row) (hb : ∀ k, row = some k → w.heap.size ≤ k) : Gr w w2 := ⟨h.b.grown g h.b.size hb⟩
theorem _root_.Go.Proofs.YtllhkegefinlbaaGreatDoor.Fv.Tab.gv {w w' : World} (h : Fv.Tab w) (g : Gr w w') : Fv.Tab w' := ⟨g.cell h.c0, g.cell h.c1, g.cell h.c2, g.cell h.c3⟩
/-- the laws on stores lack floats -/
@[go_sem] theorem run_store_float (P : Program) (w : World) (a : Addr) (m : Mode) (k : FloatKind) (b : Nat) : (store a (.float k b) m).run P w = stored P w a (.float k b) m := run_store P w a _ m rfl
/-- a new block -/
theorem fresh (w : World) (cs : Array Value) (t : TypeId) : ∃ W, w.alloc (.cells cs t) = W ∧ Gr w W ∧ ∀ i v, cs[i]? = some v → W.cell? ⟨w.heap.size, i, none⟩ = some v := by
  refine ⟨_, rfl, (Gr.refl w).alloc _ _, fun i v h => ?_⟩
  rw [World.cell?_alloc_at _ _ _ _ (by simp)]
  simpa using h

/-! rows of two cells -/
/-- a slice -/
structure Sl where
  a : Option Addr
  n : Nat
  c : Nat
def Sl.v (s : Sl) : Value := .slice s.a s.n s.c
/-- a point's two cells: labels' slice, a value's bits -/
abbrev Pc := Sl × Nat
def encT (x : Pc) : List Value := [x.1.v, .float .f64 x.2]
theorem flat2_len {α : Type} (enc : α → List Value) (he : ∀ x, (enc x).length = 2) (l : List α) : (l.flatMap enc).length = l.length * 2 := by
  induction l with
  | nil => rfl
  | cons x r ih => rw [List.flatMap_cons, List.length_append, ih, he, List.length_cons]; omega
theorem flat2_get {α : Type} (enc : α → List Value) (he : ∀ x, (enc x).length = 2) : ∀ (l : List α) (i : Nat) (x : α), l[i]? = some x → (l.flatMap enc)[i * 2]? = (enc x)[0]? ∧ (l.flatMap enc)[i * 2 + 1]? = (enc x)[1]?
  | [], i, x, h => by simp at h
  | y :: r, 0, x, h => by
    obtain rfl : y = x := by simpa using h
    rw [List.flatMap_cons]
    have := he y
    exact ⟨List.getElem?_append_left (by omega), List.getElem?_append_left (by omega)⟩
  | y :: r, i + 1, x, h => by
    have h1 := flat2_get enc he r i x (by simpa using h)
    have := he y
    rw [List.flatMap_cons, List.getElem?_append_right (by omega), List.getElem?_append_right (by omega), show (i + 1) * 2 - (enc y).length = i * 2 by omega, show (i + 1) * 2 + 1 - (enc y).length = i * 2 + 1 by omega]
    exact h1
/-- a row of the call's own, whose elements take two cells -/
def Own2 {α : Type} (enc : α → List Value) (T : TypeId) (W : World) (B : Nat) (v : Value) (l : List α) : Prop := W.ownsRow B T 2 v l.length (l.flatMap enc)
/-- a row that is read -/
def At2 {α : Type} (enc : α → List Value) (W : World) (A : Option Addr) (l : List α) : Prop :=
  0 < l.length → ∃ b o, A = some ⟨b, o, none⟩ ∧ ∀ i x, l[i]? = some x → ∀ u v, enc x = [u, v] → W.cell? ⟨b, o + i * 2, none⟩ = some u ∧ W.cell? ⟨b, o + i * 2 + 1, none⟩ = some v
section
variable {α : Type} {enc : α → List Value} {T : TypeId} {W W' : World} {B : Nat} {v : Value} {l : List α} {A : Option Addr}
theorem At2.gr (h : At2 enc W A l) (g : Gr W W') : At2 enc W' A l := fun h0 => by
  obtain ⟨b, o, e, hc⟩ := h h0
  exact ⟨b, o, e, fun i x hx u v hu => ⟨g.cell (hc i x hx u v hu).1, g.cell (hc i x hx u v hu).2⟩⟩
theorem At2.nil (W : World) (A : Option Addr) : At2 enc W A [] := fun h => absurd h (by simp)
theorem At2.at_ (h : At2 enc W A l) {k : Nat} (hk : k < l.length) {u v : Value} (hu : enc l[k] = [u, v]) :
    ∃ b o, A = some ⟨b, o, none⟩ ∧ W.cell? ⟨b, o + k * 2, none⟩ = some u ∧ W.cell? ⟨b, o + k * 2 + 1, none⟩ = some v ∧ b < W.heap.size := by
  obtain ⟨b, o, e, hc⟩ := h (by omega)
  obtain ⟨h1, h2⟩ := hc k _ (List.getElem?_eq_getElem hk) u v hu
  exact ⟨b, o, e, h1, h2, World.block_lt_of_cell? W _ h1⟩
theorem At2.take (h : At2 enc W A l) (k : Nat) : At2 enc W A (l.take k) := fun h0 => by
  obtain ⟨b, o, e, hc⟩ := h (by have : (l.take k).length ≤ l.length := List.length_take_le' ..; omega)
  refine ⟨b, o, e, fun i x hx => hc i x ?_⟩
  rw [List.getElem?_take] at hx
  split at hx
  · exact hx
  · cases hx
theorem At2.drop (h : At2 enc W A l) (k c : Nat) (hk : k ≤ l.length) (hc : l.length ≤ c) : At2 enc W (if c = k then A else A.map (·.add (k * 2))) (l.drop k) := fun h0 => by
  rw [List.length_drop] at h0
  rw [if_neg (by omega)]
  obtain ⟨b, o, rfl, hc⟩ := h (by omega)
  refine ⟨b, o + k * 2, by simp only [Option.map_some]; unfold Addr.add; split <;> simp_all, fun i x hx u v hu => ?_⟩
  rw [List.getElem?_drop] at hx
  obtain ⟨h1, h2⟩ := hc _ _ hx u v hu
  rw [show o + k * 2 + i * 2 = o + (k + i) * 2 by omega]
  exact ⟨h1, h2⟩
theorem At2.only (h : At2 enc W A l) {row : Option Nat} (g : W.grownBy W' row) (hne : ∀ b o, A = some ⟨b, o, none⟩ → some b ≠ row) : At2 enc W' A l := fun h0 => by
  obtain ⟨b, o, e, hc⟩ := h h0
  exact ⟨b, o, e, fun i x hx u v hu => ⟨g.cell (hc i x hx u v hu).1 (hne b o e), g.cell (hc i x hx u v hu).2 (hne b o e)⟩⟩
theorem Own2.nil (W : World) (B : Nat) : Own2 enc T W B (.slice none 0 0) [] := World.ownsRow_nil _ _ _ _
theorem Own2.form (he : ∀ x, (enc x).length = 2) (h : Own2 enc T W B v l) : ∃ A c, v = .slice A l.length c ∧ At2 enc W A l ∧ l.length ≤ c ∧ c ≤ maxLen ∧ (0 < l.length → ∃ g, A = some ⟨g, 0, none⟩ ∧ B ≤ g) := by
  have hcl := fun (g : Nat) (hg : v.ownBlock = some g) => h.cells hg
  rcases h.2 with ⟨e, e0⟩ | ⟨g, cap, cur, rfl, hb, hg, h1, h2, h3, h4⟩
  · exact ⟨none, 0, by rw [e, e0], fun hh => absurd hh (by omega), by omega, by unfold maxLen; omega, fun hh => absurd hh (by omega)⟩
  · refine ⟨_, cap, rfl, fun h0 => ⟨g, 0, rfl, fun i x hx u v hu => ?_⟩, h1, h2, fun _ => ⟨g, rfl, hb⟩⟩
    obtain ⟨g1, g2⟩ := flat2_get enc he l i x hx
    rw [hu] at g1 g2
    have d1 := hcl g rfl _ _ (g1.trans rfl)
    have d2 := hcl g rfl _ _ (g2.trans rfl)
    have hadd : ∀ j, (⟨g, 0, none⟩ : Addr).add j = ⟨g, j, none⟩ := fun j => by unfold Addr.add; split <;> simp_all
    rw [hadd] at d1 d2
    rw [Nat.zero_add]
    exact ⟨d1, d2⟩
theorem Own2.gr (h : Own2 enc T W B v l) (g : Gr W W') : Own2 enc T W' B v l :=
  World.ownsRow.kept h (row := none) ⟨g.b.os, g.b.tape, g.b.output, g.b.size, fun k hk _ => g.b.block k hk⟩ (by cases v.ownBlock <;> simp)
theorem Own2.kept (h : Own2 enc T W B v l) {row : Option Nat} (g : W.grownBy W' row) (hne : v.ownBlock = none ∨ v.ownBlock ≠ row) : Own2 enc T W' B v l := World.ownsRow.kept h g hne
theorem Own2.lt (h : Own2 enc T W B v l) {k : Nat} (hk : v.ownBlock = some k) : B ≤ k ∧ k < W.heap.size := World.ownsRow.lt h k hk
theorem Own2.mono (h : Own2 enc T W B v l) {B' : Nat} (hB : B' ≤ B) : Own2 enc T W B' v l := by
  refine ⟨h.1, ?_⟩
  rcases h.2 with hn | ⟨g, cap, cur, e, hb, r⟩
  · exact .inl hn
  · exact .inr ⟨g, cap, cur, e, by omega, r⟩
/-- where such a row lies, cell by cell -/
theorem Own2.heap (h : Own2 enc T W B v l) (h0 : v.ownBlock ≠ none) : ∃ g cap cur, v = .slice (some ⟨g, 0, none⟩) l.length cap ∧ W.heap[g]? = some (.cells cur T (0, 0)) := by
  rcases h.2 with ⟨e, -⟩ | ⟨g, cap, cur, e, -, hg, -⟩
  · rw [e] at h0; exact absurd rfl h0
  · exact ⟨g, cap, cur, e, hg⟩
/-- rows of two kinds lie in two blocks -/
theorem own2_ne {β : Type} {enc' : β → List Value} {T' : TypeId} {B' : Nat} {v' : Value} {l' : List β} (h : Own2 enc T W B v l) (h' : Own2 enc' T' W B' v' l') (hT : T ≠ T') : v.ownBlock = none ∨ v.ownBlock ≠ v'.ownBlock := by
  by_cases h0 : v.ownBlock = none
  · exact .inl h0
  · refine .inr fun e => ?_
    obtain ⟨g, cap, cur, rfl, hg⟩ := h.heap h0
    obtain ⟨g', cap', cur', rfl, hg'⟩ := h'.heap (by rw [← e]; exact h0)
    simp only [Value.ownBlock, Option.some.injEq] at e
    subst e
    rw [hg] at hg'
    injection hg' with e
    injection e with e1 e2 e3
    exact hT e2
end
/-! append, one step of a walk or of a region -/
theorem run_app2 {α : Type} (enc : α → List Value) (he : ∀ x, (enc x).length = 2) (h1c : ∀ x, ∀ u ∈ enc x, u.oneCell' = true) (S T : TypeId) (z : Value) (by_ : Nat) (hS : Tryz.prog.underlying S = some (.slice T)) (hT : (Tryz.prog.info? T).map (fun i => (i.zero, i.size, i.bytes)) = some (some z, 2, by_)) (hz : z.cells.size = 2) (hby : by_ ≤ 48)
    {W : World} {B : Nat} {v : Value} {l m : List α} {A : Option Addr} {c : Nat} (h : Own2 enc T W B v l) (hs : At2 enc W A m) (hn : l.length + m.length ≤ 1099511627776) (hB : B ≤ W.heap.size) :
    ∃ v' W', (Builtin.append_ #[S, S] S #[v, .slice A m.length c]).run Tryz.prog W = .ok v' W' ∧ Own2 enc T W' B v' (l ++ m) ∧ W.grownBy W' v.ownBlock ∧ (v'.ownBlock = v.ownBlock ∨ v'.ownBlock = some W.heap.size) := by
  obtain ⟨i0, hi, hz0, hz1, hz2⟩ := info_parts hT
  cases A with
  | none =>
    have h0 : m = [] := by
      rcases Nat.eq_zero_or_pos m.length with e | e
      · exact List.eq_nil_of_length_eq_zero e
      · obtain ⟨b, o, e, _⟩ := hs e; cases e
    subst h0
    refine ⟨v, W, ?_, by rw [List.append_nil]; exact h, World.grownBy.refl W _, .inl rfl⟩
    rcases h.2 with ⟨rfl, _⟩ | ⟨g, cap, cur, rfl, _, _, hnc, _⟩
    · simp [Builtin.append_, run_underlying hS, sizeOf, typeInfo, hi, Builtin.lenOf, Builtin.firstCells]
    · simp [Builtin.append_, run_underlying hS, sizeOf, typeInfo, hi, Builtin.lenOf, Builtin.firstCells, hnc, storeCells]
  | some a =>
    have hcells : ∀ j u, (m.flatMap enc)[j]? = some u → W.cell? (a.add j) = some u := by
      intro j u hu
      have hj : j < m.length * 2 := by have := (List.getElem?_eq_some_iff.1 hu).1; rwa [flat2_len enc he] at this
      obtain ⟨b, o, e, hc⟩ := hs (by omega)
      injection e with e
      subst e
      have hadd : (⟨b, o, none⟩ : Addr).add j = ⟨b, o + j, none⟩ := by unfold Addr.add; split <;> simp_all
      rw [hadd]
      have hi : j / 2 < m.length := by omega
      have hx := List.getElem?_eq_getElem hi
      obtain ⟨g1, g2⟩ := flat2_get enc he m _ _ hx
      obtain ⟨p, q, hpq⟩ : ∃ p q, enc m[j / 2] = [p, q] := by
        have := he m[j / 2]
        match h : enc m[j / 2], this with
        | [p, q], _ => exact ⟨p, q, rfl⟩
      obtain ⟨c1, c2⟩ := hc _ _ hx p q hpq
      rw [hpq] at g1 g2
      rcases Nat.mod_two_eq_zero_or_one j with e | e
      · have e2 : j / 2 * 2 = j := by omega
        rw [e2] at c1 g1
        rw [hu] at g1
        cases g1; exact c1
      · have e2 : j / 2 * 2 + 1 = j := by omega
        rw [Nat.add_assoc, e2] at c2
        rw [e2] at g2
        rw [hu] at g2
        cases g2; exact c2
    obtain ⟨v', w', hr, h2, h3, _, h5⟩ := run_append_own_at (P := Tryz.prog) W B S S T i0 z 2 by_ hS hi hz0 hz1 hz2 hz (by omega) v l.length _ h a m.length c (m.flatMap enc) (flat2_len enc he m) hcells (fun u hu => by
      obtain ⟨x, -, hx⟩ := List.mem_flatMap.1 hu
      exact h1c x u hx) (by unfold maxLen; omega) (by
        have : (l.length + m.length) * by_ ≤ 1099511627776 * 48 := Nat.mul_le_mul hn hby
        omega) hB
    refine ⟨v', w', hr, ?_, h3, h5⟩
    unfold Own2
    rw [List.flatMap_append, List.length_append]
    exact h2
theorem pt_info : (Tryz.prog.info? 45).map (fun i => (i.zero, i.size, i.bytes)) = some (some (.agg #[.slice none 0 0, .float .f64 0]), 2, 32) := by kernel_rfl
/-- a row of points of the call's own, as cells -/
abbrev OwnT (W : World) (B : Nat) (v : Value) (l : List Pc) : Prop := Own2 encT 45 W B v l
theorem run_appV {W : World} {B : Nat} {v : Value} {l m : List Pc} {A : Option Addr} {c : Nat} (h : OwnT W B v l) (hs : At2 encT W A m) (hn : l.length + m.length ≤ 1099511627776) (hB : B ≤ W.heap.size) :
    ∃ v' W', (Builtin.append_ #[27, 27] 27 #[v, .slice A m.length c]).run Tryz.prog W = .ok v' W' ∧ OwnT W' B v' (l ++ m) ∧ W.grownBy W' v.ownBlock ∧ (v'.ownBlock = v.ownBlock ∨ v'.ownBlock = some W.heap.size) :=
  run_app2 encT (fun _ => rfl) (fun x u hu => by simp [encT, Sl.v] at hu; rcases hu with rfl | rfl <;> rfl) _ _ _ 32 Tryz.underlying27 pt_info rfl (by omega) h hs hn hB
theorem run_appR {W : World} {B : Nat} {v : Value} {l m : List Pc} {A : Option Addr} {c : Nat} (h : OwnT W B v l) (hs : At2 encT W A m) (hn : l.length + m.length ≤ 1099511627776) (hB : B ≤ W.heap.size) :
    ∃ v' W', (Builtin.append_ #[26, 26] 26 #[v, .slice A m.length c]).run Tryz.prog W = .ok v' W' ∧ OwnT W' B v' (l ++ m) ∧ W.grownBy W' v.ownBlock ∧ (v'.ownBlock = v.ownBlock ∨ v'.ownBlock = some W.heap.size) :=
  run_app2 encT (fun _ => rfl) (fun x u hu => by simp [encT, Sl.v] at hu; rcases hu with rfl | rfl <;> rfl) _ _ _ 32 Tryz.underlying26 pt_info rfl (by omega) h hs hn hB
/-- an append's law, as a step of a walk -/
theorem wp_app2 {P : Program} {S : TypeId} {o : Oper} {a : Act} {W : World} {K : Act → World → Prop} {Q : Exit → Act → World → Prop} (s x : Operand)
    (ho : o.op = .call { callee := .builtin .append, args := #[s, x], argTypes := #[S, S] }) (hty : o.type = S) {v x' : Value} (hs : a.eval s = v) (hx : a.eval x = x') {R : Value → World → Prop}
    (hr : ∃ v' W', (Builtin.append_ #[S, S] S #[v, x']).run P W = .ok v' W' ∧ R v' W')
    (h : ∀ v' W', R v' W' → K (a.put o.dst v') W') : o.wp P a W K Q := by
  obtain ⟨v', W', hr, h1⟩ := hr
  unfold Oper.wp execOp
  simp only [ho, hty, resolve, invoke, builtin, Sem.run_bind, Sem.run_pure, Result.andThen_ok, List.map_toArray, List.map_cons, List.map_nil, hs, hx, hr]
  exact h v' W' h1
theorem wpList_app2 {P : Program} {S : TypeId} {ops : Array Oper} {rest : List Oper} {o : Oper} {a : Act} {W : World} {Q : Exit → Act → World → Prop} (hgd : o.guard = none) (s x : Operand)
    (ho : o.op = .call { callee := .builtin .append, args := #[s, x], argTypes := #[S, S] }) (hty : o.type = S) {v x' : Value} (hs : a.eval s = v) (hx : a.eval x = x') {R : Value → World → Prop}
    (hr : ∃ v' W', (Builtin.append_ #[S, S] S #[v, x']).run P W = .ok v' W' ∧ R v' W')
    (h : ∀ v' W', R v' W' → wpList P ops Q rest (a.put o.dst v') W') : wpList P ops Q (o :: rest) a W :=
  wpList_plain hgd fun _ hK => wp_app2 s x ho hty hs hx hr fun v' W' h1 => hK _ _ (h v' W' h1)
theorem step_app2 {P : Program} {S : TypeId} {ops : Array Oper} {o : Oper} {a : Act} {W : World} {K : Act → World → Prop} {Q : Exit → Act → World → Prop} {E : Prop} (hgd : o.guard = none) (s x : Operand)
    (ho : o.op = .call { callee := .builtin .append, args := #[s, x], argTypes := #[S, S] }) (hty : o.type = S) {v x' : Value} (hs : a.eval s = v) (hx : a.eval x = x') {R : Value → World → Prop}
    (hr : ∃ v' W', (Builtin.append_ #[S, S] S #[v, x']).run P W = .ok v' W' ∧ R v' W')
    (h : ∀ v' W', R v' W' → K (a.put o.dst v') W') :
    if Region.wanted o (yielded ops a.tmps) = true then Oper.wp P o a W K Q else E := by
  have hw : Region.wanted o (yielded ops a.tmps) = true := by simp [Region.wanted, hgd]
  rw [if_pos hw]
  exact wp_app2 s x ho hty hs hx hr h
/-- a new block of one element -/
theorem at2_one {α : Type} {enc : α → List Value} (W : World) (x : α) (u v : Value) (hx : enc x = [u, v]) (t : TypeId) : At2 enc (W.alloc (.cells #[u, v] t)) (some ⟨W.heap.size, 0, none⟩) [x] := fun _ => ⟨W.heap.size, 0, rfl, fun i y hy u' v' hu => by
    match i, hy with
    | 0, hy =>
      obtain rfl : x = y := by simpa using hy
      rw [hx] at hu
      injection hu with h1 h2
      injection h2 with h2
      subst h1; subst h2
      refine ⟨?_, ?_⟩ <;> go_simp⟩
theorem at2_cells {α : Type} {enc : α → List Value} {W : World} {g : Nat} {x : α} {u v : Value} (hx : enc x = [u, v]) (h1 : W.cell? ⟨g, 0, none⟩ = some u) (h2 : W.cell? ⟨g, 1, none⟩ = some v) : At2 enc W (some ⟨g, 0, none⟩) [x] := fun _ => ⟨g, 0, rfl, fun i y hy u' v' hu => by
    match i, hy with
    | 0, hy =>
      obtain rfl : x = y := by simpa using hy
      rw [hx] at hu
      injection hu with e1 e2
      injection e2 with e2
      subst e1; subst e2
      exact ⟨h1, h2⟩⟩

/-! ### what the cells read as -/
/-- labels of a point's cell -/
def LabV (W : World) (s : Sl) (x : List Lb) : Prop := s.n = x.length ∧ LabsAt W s.a x
theorem LabV.only {W W' : World} {s : Sl} {x : List Lb} {row : Option Nat} (h : LabV W s x) (g : W.grownBy W' row) (hne : 0 < x.length → ∀ b, s.v.ownBlock = some b → row ≠ some b) : LabV W' s x := by
  refine ⟨h.1, fun h0 => ?_⟩
  obtain ⟨b, o, e, hc⟩ := h.2 h0
  have hb : s.v.ownBlock = some b := by unfold Sl.v; rw [e]; rfl
  have := hne h0 b hb
  exact ⟨b, o, e, fun i y hy => ⟨g.cell (hc i y hy).1 (fun e => this e.symm), g.cell (hc i y hy).2 (fun e => this e.symm)⟩⟩
theorem LabV.gr {W W' : World} {s : Sl} {x : List Lb} (h : LabV W s x) (g : Gr W W') : LabV W' s x := ⟨h.1, h.2.gr g⟩
theorem LabV.lt {W : World} {s : Sl} {x : List Lb} (h : LabV W s x) (h0 : 0 < x.length) {b : Nat} (hb : s.v.ownBlock = some b) : b < W.heap.size := by
  obtain ⟨b', o, e, hc⟩ := h.2 h0
  have : b = b' := by unfold Sl.v at hb; rw [e] at hb; simpa [Value.ownBlock] using hb.symm
  subst this
  exact World.block_lt_of_cell? W _ (hc 0 _ (List.getElem?_eq_getElem h0)).1
/-- a point's cells read as it -/
def Rd (W : World) (c : Pc) (p : Pt) : Prop := c.2 = p.2 ∧ LabV W c.1 p.1
theorem Rd.gr {W W' : World} {c : Pc} {p : Pt} (h : Rd W c p) (g : Gr W W') : Rd W' c p := ⟨h.1, h.2.gr g⟩
/-- cells read as points, one by one -/
structure Rds (W : World) (cs : List Pc) (l : List Pt) : Prop where
  len : cs.length = l.length
  rd : ∀ (k : Nat) (c : Pc) (p : Pt), cs[k]? = some c → l[k]? = some p → Rd W c p
theorem Rds.gr {W W' : World} {cs : List Pc} {l : List Pt} (h : Rds W cs l) (g : Gr W W') : Rds W' cs l := ⟨h.len, fun k c p hc hp => (h.rd k c p hc hp).gr g⟩
theorem Rds.nil (W : World) : Rds W [] [] := ⟨rfl, fun k c p hc => by simp at hc⟩
theorem Rds.append {W : World} {cs ds : List Pc} {l r : List Pt} (h : Rds W cs l) (g : Rds W ds r) : Rds W (cs ++ ds) (l ++ r) := by
  refine ⟨by simp [h.len, g.len], fun k c p hc hp => ?_⟩
  by_cases hk : k < cs.length
  · rw [List.getElem?_append_left hk] at hc
    rw [List.getElem?_append_left (by rw [← h.len]; exact hk)] at hp
    exact h.rd k c p hc hp
  · rw [List.getElem?_append_right (by omega)] at hc
    rw [List.getElem?_append_right (by rw [← h.len]; omega), ← h.len] at hp
    exact g.rd _ c p hc hp
theorem Rds.one {W : World} {c : Pc} {p : Pt} (h : Rd W c p) : Rds W [c] [p] := ⟨rfl, fun k c' p' hc hp => by
  match k, hc, hp with
  | 0, hc, hp =>
    obtain rfl : c = c' := by simpa using hc
    obtain rfl : p = p' := by simpa using hp
    exact h⟩
theorem Rds.take {W : World} {cs : List Pc} {l : List Pt} (h : Rds W cs l) (k : Nat) : Rds W (cs.take k) (l.take k) := by
  refine ⟨by simp [h.len], fun j c p hc hp => ?_⟩
  rw [List.getElem?_take] at hc hp
  split at hc
  · rename_i hj; rw [if_pos hj] at hp; exact h.rd j c p hc hp
  · cases hc
theorem Rds.drop {W : World} {cs : List Pc} {l : List Pt} (h : Rds W cs l) (k : Nat) : Rds W (cs.drop k) (l.drop k) := by
  refine ⟨by simp [h.len], fun j c p hc hp => ?_⟩
  rw [List.getElem?_drop] at hc hp
  exact h.rd _ c p hc hp
/-- a row that reads as points -/
def PtsAt (W : World) (A : Option Addr) (l : List Pt) : Prop := ∃ cs, At2 encT W A cs ∧ Rds W cs l
theorem PtsAt.gr {W W' : World} {A : Option Addr} {l : List Pt} (h : PtsAt W A l) (g : Gr W W') : PtsAt W' A l := by
  obtain ⟨cs, h1, h2⟩ := h; exact ⟨cs, h1.gr g, h2.gr g⟩
theorem PtsAt.nil (W : World) (A : Option Addr) : PtsAt W A [] := ⟨[], At2.nil _ _, Rds.nil _⟩
theorem PtsAt.cell {W : World} {A : Option Addr} {l : List Pt} (h : PtsAt W A l) {k : Nat} (hk : k < l.length) :
    ∃ b o sa sc, A = some ⟨b, o, none⟩ ∧ W.cell? ⟨b, o + k * 2, none⟩ = some (.slice sa (l[k]).1.length sc) ∧ W.cell? ⟨b, o + k * 2 + 1, none⟩ = some (.float .f64 (l[k]).2) ∧ LabsAt W sa (l[k]).1 ∧ b < W.heap.size := by
  obtain ⟨cs, h1, h2⟩ := h
  have hk' : k < cs.length := by rw [h2.len]; exact hk
  obtain ⟨b, o, e, c1, c2, hb⟩ := h1.at_ hk' rfl
  obtain ⟨r1, r2, r3⟩ := h2.rd k _ _ (List.getElem?_eq_getElem hk') (List.getElem?_eq_getElem hk)
  refine ⟨b, o, (cs[k]).1.a, (cs[k]).1.c, e, ?_, ?_, r3, hb⟩
  · rw [c1, ← r2]; rfl
  · rw [c2, r1]
theorem PtsAt.take {W : World} {A : Option Addr} {l : List Pt} (h : PtsAt W A l) (k : Nat) : PtsAt W A (l.take k) := by
  obtain ⟨cs, h1, h2⟩ := h; exact ⟨cs.take k, h1.take k, h2.take k⟩
theorem PtsAt.drop {W : World} {A : Option Addr} {l : List Pt} (h : PtsAt W A l) (k c : Nat) (hk : k ≤ l.length) (hc : l.length ≤ c) : PtsAt W (if c = k then A else A.map (·.add (k * 2))) (l.drop k) := by
  obtain ⟨cs, h1, h2⟩ := h; exact ⟨cs.drop k, h1.drop k c (by rw [h2.len]; exact hk) (by rw [h2.len]; exact hc), h2.drop k⟩
/-- small enough for the library's bounds -/
def SmL (x : List Lb) : Prop := x.length ≤ 1000 ∧ Wd x
def SmP (l : List Pt) : Prop := l.length ≤ 1000 ∧ ∀ p ∈ l, SmL p.1
theorem SmP.at_ {l : List Pt} (h : SmP l) {k : Nat} (hk : k < l.length) : SmL (l[k]).1 := h.2 _ (List.getElem_mem hk)
theorem SmP.sub {l r : List Pt} (h : SmP l) (hl : r.length ≤ l.length) (hs : ∀ p ∈ r, ∃ q ∈ l, p.1 = q.1) : SmP r := ⟨by have := h.1; omega, fun p hp => by obtain ⟨q, hq, e⟩ := hs p hp; rw [e]; exact h.2 q hq⟩
theorem SmP.nor {l : List Pt} (h : SmP l) : SmP (norV l) := by
  refine h.sub (norV_len l) fun p hp => ?_
  unfold norV at hp
  split at hp
  · obtain ⟨q, hq, rfl⟩ := List.mem_map.1 ((ordP_perm l).mem_iff.1 hp)
    exact ⟨q, hq, rfl⟩
  · simp at hp
/-- on the way: a row of the call's own, its cells, what they read as; labels lie elsewhere -/
structure PSt (w W : World) (v : Value) (cs : List Pc) (l : List Pt) : Prop where
  g : Gr w W
  row : OwnT W w.heap.size v cs
  rds : Rds W cs l
  off : ∀ (k : Nat) (c : Pc) (p : Pt), cs[k]? = some c → l[k]? = some p → 0 < p.1.length → ∀ b, c.1.v.ownBlock = some b → v.ownBlock ≠ some b
theorem PSt.gr {w W W' : World} {v : Value} {cs : List Pc} {l : List Pt} (h : PSt w W v cs l) (g : Gr W W') : PSt w W' v cs l := ⟨h.g.trans g, h.row.gr g, h.rds.gr g, h.off⟩
theorem PSt.at_ {w W : World} {v : Value} {cs : List Pc} {l : List Pt} (h : PSt w W v cs l) : ∃ A c, v = .slice A l.length c ∧ PtsAt W A l ∧ l.length ≤ c ∧ c ≤ maxLen ∧ At2 encT W A cs := by
  obtain ⟨A, c, e, h1, h2, h3, -⟩ := h.row.form (fun _ => rfl)
  have hl := h.rds.len
  exact ⟨A, c, by rw [e, hl], ⟨cs, h1, h.rds⟩, by omega, h3, h1⟩
/-- what is appended to it -/
theorem PSt.app {w W W' : World} {v v' : Value} {cs ds : List Pc} {l r : List Pt} (h : PSt w W v cs l) (hr : Rds W ds r) (hoff : ∀ (k : Nat) (c : Pc) (p : Pt), ds[k]? = some c → r[k]? = some p → 0 < p.1.length → ∀ b, c.1.v.ownBlock = some b → v.ownBlock ≠ some b)
    (ho : OwnT W' w.heap.size v' (cs ++ ds)) (hg : W.grownBy W' v.ownBlock) (hv : v'.ownBlock = v.ownBlock ∨ v'.ownBlock = some W.heap.size) : PSt w W' v' (cs ++ ds) (l ++ r) := by
  have key : ∀ {cs' : List Pc} {l' : List Pt}, Rds W cs' l' → (∀ (k : Nat) (c : Pc) (p : Pt), cs'[k]? = some c → l'[k]? = some p → 0 < p.1.length → ∀ b, c.1.v.ownBlock = some b → v.ownBlock ≠ some b) → Rds W' cs' l' ∧ ∀ (k : Nat) (c : Pc) (p : Pt), cs'[k]? = some c → l'[k]? = some p → 0 < p.1.length → ∀ b, c.1.v.ownBlock = some b → v'.ownBlock ≠ some b := by
    intro cs' l' h1 h2
    refine ⟨⟨h1.len, fun k c p hc hp => ⟨(h1.rd k c p hc hp).1, (h1.rd k c p hc hp).2.only hg (h2 k c p hc hp)⟩⟩, fun k c p hc hp h0 b hb e => ?_⟩
    rcases hv with e2 | e2
    · rw [e2] at e; exact h2 k c p hc hp h0 b hb e
    · rw [e2] at e
      injection e with e
      have := (h1.rd k c p hc hp).2.lt h0 hb
      omega
  obtain ⟨a1, a2⟩ := key h.rds h.off
  obtain ⟨b1, b2⟩ := key hr hoff
  refine ⟨h.g.grown hg (fun k hk => (h.row.lt hk).1), ho, a1.append b1, fun k c p hc hp => ?_⟩
  by_cases hk : k < cs.length
  · rw [List.getElem?_append_left hk] at hc
    rw [List.getElem?_append_left (by rw [← h.rds.len]; exact hk)] at hp
    exact a2 k c p hc hp
  · rw [List.getElem?_append_right (by omega)] at hc
    rw [List.getElem?_append_right (by rw [← h.rds.len]; omega), ← h.rds.len] at hp
    exact b2 _ c p hc hp
/-- labels that were there when the call began lie off each row of its own -/
theorem off_old {w W W0 : World} {v : Value} {cs ds : List Pc} {l r : List Pt} (h : PSt w W v cs l) (hr : Rds W0 ds r) (hs : W0.heap.size ≤ w.heap.size) : ∀ (k : Nat) (c : Pc) (p : Pt), ds[k]? = some c → r[k]? = some p → 0 < p.1.length → ∀ b, c.1.v.ownBlock = some b → v.ownBlock ≠ some b := by
  intro k c p hc hp h0 b hb e
  have h1 := (hr.rd k c p hc hp).2.lt h0 hb
  have h2 := (h.row.lt e).1
  omega
theorem PSt.none_ {w W : World} (g : Gr w W) : PSt w W (.slice none 0 0) [] [] := ⟨g, Own2.nil _ _, Rds.nil _, fun k c p hc => by simp at hc⟩
/-- a new row that make laid -/
theorem own2_made {α : Type} {enc : α → List Value} {T : TypeId} {W : World} {B : Nat} (cur : Array Value) (cap : Nat) (hB : B ≤ W.heap.size) (hm : cap ≤ maxLen) (hs : cur.size = cap * 2) : Own2 enc T (W.alloc (.cells cur T)) B (.slice (some ⟨W.heap.size, 0, none⟩) 0 cap) [] := by
  have := World.ownsRow_made (base := B) (e := T) (size := 2) W cur cap hB hm hs
  simpa [Own2] using this
/-- a vector, an error -/
def VPost (l : List Pt) (er : Int) (w : World) (e : Ending) (w' : World) : Prop := ∃ A c, e = .returned (.tuple #[.slice A l.length c, .int .i64 er]) ∧ PtsAt w' A l ∧ l.length ≤ c ∧ c ≤ maxLen ∧ Gr w w'
/-- points -/
def LPost (l : List Pt) (w : World) (e : Ending) (w' : World) : Prop := ∃ A c, e = .returned (.slice A l.length c) ∧ PtsAt w' A l ∧ l.length ≤ c ∧ c ≤ maxLen ∧ Gr w w'
end Go.Proofs.YtllhkegefinlbaaGreatDoor.Pt
