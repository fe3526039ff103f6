/- Points' cells as lists, in the order of topk or of bottomk: what stands at one place of the order. -/
import Derived.Test.YtihiklmomhhdbaaDoorPRef
import Derived.Test.YtihiklmomhhdbaaDoorFSignMath
namespace Go.Proofs.YtihiklmomhhdbaaDoor.Gs
set_option maxRecDepth 100000
variable {tp : Bool} {ca : Nat}

/-- a value's place in the order: topk has the greatest first, bottomk the least; a NaN stands behind all numbers -/
def ordK (tp : Bool) (b : Nat) : Int := if tp then -(Fv.tk b) else if Fv.nanB b then 2 ^ 80 else Fv.tk b
/-- a point's cells -/
def Po (_ : Bool) : Type := { c : Pt.Pc // c.2 < 2 ^ 64 }
instance : Inhabited (Po tp) := ⟨⟨(⟨none, 0, 0⟩, 0), by decide⟩⟩
def Po.pc (x : Po tp) : Pt.Pc := x.1
def Po.sa (x : Po tp) : Option Addr := x.pc.1.a
def Po.sn (x : Po tp) : Nat := x.pc.1.n
def Po.sc (x : Po tp) : Nat := x.pc.1.c
def Po.fb (x : Po tp) : Nat := x.pc.2
def Po.k (x : Po tp) : Int := ordK tp x.fb
theorem Po.lt (x : Po tp) : x.fb < 2 ^ 64 := x.2
/-- those of one place, in their order -/
def atT (t : Int) (l : List (Po tp)) : List (Po tp) := l.filter (fun x : Po tp => x.k == t)
/-- times do not fall -/
def AscT (l : List (Po tp)) : Prop := l.Pairwise (fun x y => x.k ≤ y.k)
/-- the same samples, those of one place in the same order -/
def EqT (l r : List (Po tp)) : Prop := ∀ t, atT t r = atT t l
theorem EqT.refl (l : List (Po tp)) : EqT l l := fun _ => rfl
theorem EqT.trans {a b c : List (Po tp)} (h : EqT a b) (g : EqT b c) : EqT a c := fun t => (g t).trans (h t)
theorem atT_app (t : Int) (a b : List (Po tp)) : atT t (a ++ b) = atT t a ++ atT t b := by unfold atT; exact List.filter_append ..
theorem EqT.app {a b c d : List (Po tp)} (h : EqT a b) (g : EqT c d) : EqT (a ++ c) (b ++ d) := fun t => by rw [atT_app, atT_app, h t, g t]
theorem atT_nil_of {t : Int} {l : List (Po tp)} (h : ∀ x ∈ l, x.k ≠ t) : atT t l = [] := List.filter_eq_nil_iff.2 fun x hx => by simpa using h x hx
/-- two parts with no time in common change places -/
theorem EqT.turn {a b : List (Po tp)} (h : ∀ x ∈ a, ∀ y ∈ b, x.k ≠ y.k) : EqT (a ++ b) (b ++ a) := fun t => by
  rw [atT_app, atT_app]
  by_cases g : ∃ x ∈ a, x.k = t
  · obtain ⟨x, hx, rfl⟩ := g
    rw [atT_nil_of (l := b) fun y hy => (h x hx y hy).symm]; simp
  · rw [atT_nil_of (l := a) fun y hy e => g ⟨y, hy, e⟩]; simp
theorem EqT.mem {a b : List (Po tp)} (h : EqT a b) {x : Po tp} : x ∈ b ↔ x ∈ a := by
  have : x ∈ atT x.k b ↔ x ∈ atT x.k a := by rw [h]
  simpa [atT] using this
theorem EqT.length {a b : List (Po tp)} (h : EqT a b) : b.length = a.length := by
  have key : ∀ (n : Nat) (a b : List (Po tp)), a.length = n → EqT a b → b.length = a.length := by
    intro n
    induction n using Nat.strongRecOn with
    | ind n ih =>
      intro a b hn h
      cases a with
      | nil =>
        cases b with
        | nil => rfl
        | cons y r => exact absurd ((EqT.mem h (x := y)).1 (List.mem_cons_self ..)) (by simp)
      | cons x r =>
        have hs : ∀ l : List (Po tp), l.length = (atT x.k l).length + (l.filter (fun y => !(y.k == x.k))).length := fun l => by
          have := List.length_eq_countP_add_countP (fun y : Po tp => y.k == x.k) (l := l)
          rw [List.countP_eq_length_filter, List.countP_eq_length_filter] at this
          unfold atT
          have e : (fun y : Po tp => !(y.k == x.k)) = fun a => decide ¬ (a.k == x.k) = true := by funext y; cases (y.k == x.k) <;> rfl
          rw [e]; exact this
        have e2 : EqT ((x :: r).filter (fun y => !(y.k == x.k))) (b.filter (fun y => !(y.k == x.k))) := fun t => by
          have ht := h t
          unfold atT at ht ⊢
          rw [List.filter_filter, List.filter_filter]
          by_cases e : t = x.k
          · subst e
            rw [List.filter_eq_nil_iff.2 (fun y _ => by cases (y.k == x.k) <;> simp), List.filter_eq_nil_iff.2 (fun y _ => by cases (y.k == x.k) <;> simp)]
          · have hp : (fun y : Po tp => y.k == t && !(y.k == x.k)) = fun y : Po tp => y.k == t := by
              funext y
              by_cases hy : y.k = t
              · subst hy; simp [e]
              · simp [hy]
            rw [hp]; exact ht
        have hlt : ((x :: r).filter (fun y => !(y.k == x.k))).length < n := by
          have := hs (x :: r)
          have h1 : 0 < (atT x.k (x :: r)).length := by unfold atT; simp
          omega
        have := ih _ hlt _ _ rfl e2
        rw [hs b, hs (x :: r), this, h x.k]
  exact key _ a b rfl h
theorem AscT.app {a b : List (Po tp)} (ha : AscT a) (hb : AscT b) (h : ∀ x ∈ a, ∀ y ∈ b, x.k ≤ y.k) : AscT (a ++ b) := List.pairwise_append.2 ⟨ha, hb, h⟩
theorem AscT.left {a b : List (Po tp)} (h : AscT (a ++ b)) : AscT a := (List.pairwise_append.1 h).1
theorem AscT.right {a b : List (Po tp)} (h : AscT (a ++ b)) : AscT b := (List.pairwise_append.1 h).2.1
theorem AscT.sep {a b : List (Po tp)} (h : AscT (a ++ b)) : ∀ x ∈ a, ∀ y ∈ b, x.k ≤ y.k := (List.pairwise_append.1 h).2.2
/-- merged: sorted, and those of one place in their order -/
def Mrg (u v r : List (Po tp)) : Prop := AscT r ∧ EqT (u ++ v) r
/-- the heart of it: what the two halves come to -/
theorem Mrg.halves {u1 u2 v1 v2 r1 r2 : List (Po tp)} (hu : AscT (u1 ++ u2)) (hv : AscT (v1 ++ v2)) (h1 : ∀ x ∈ u2, ∀ y ∈ v1, y.k < x.k) (h2 : ∀ x ∈ u1, ∀ y ∈ v2, x.k ≤ y.k) (m1 : Mrg u1 v1 r1) (m2 : Mrg u2 v2 r2) : Mrg (u1 ++ u2) (v1 ++ v2) (r1 ++ r2) := by
  refine ⟨m1.1.app m2.1 fun x hx y hy => ?_, ?_⟩
  · have hx := (m1.2.mem).1 hx
    have hy := (m2.2.mem).1 hy
    rcases List.mem_append.1 hx with a | a <;> rcases List.mem_append.1 hy with b | b
    · exact hu.sep x a y b
    · exact h2 x a y b
    · exact Int.le_of_lt (h1 y b x a)
    · exact hv.sep x a y b
  · have e1 : EqT ((u1 ++ u2) ++ (v1 ++ v2)) ((u1 ++ v1) ++ (u2 ++ v2)) := by
      have : EqT (u2 ++ v1) (v1 ++ u2) := EqT.turn fun x hx y hy => by have := h1 x hx y hy; omega
      have := ((EqT.refl u1).app this).app (EqT.refl v2)
      simpa only [List.append_assoc] using this
    exact e1.trans (m1.2.app m2.2)
theorem Mrg.nil_left {v : List (Po tp)} (h : AscT v) : Mrg [] v v := ⟨h, EqT.refl _⟩
theorem Mrg.nil_right {u : List (Po tp)} (h : AscT u) : Mrg u [] u := ⟨h, by rw [List.append_nil]; exact EqT.refl _⟩
/-- one sample ahead of a sorted row -/
theorem Mrg.one_left {x : Po tp} {v1 v2 : List (Po tp)} (hv : AscT (v1 ++ v2)) (h1 : ∀ y ∈ v1, y.k < x.k) (h2 : ∀ y ∈ v2, x.k ≤ y.k) : Mrg [x] (v1 ++ v2) (v1 ++ x :: v2) := by
  have := Mrg.halves (u1 := []) (u2 := [x]) (v1 := v1) (v2 := v2) (r1 := v1) (r2 := x :: v2) (by simp [AscT]) hv (by simpa using h1) (by simp) (Mrg.nil_left hv.left) ⟨List.pairwise_cons.2 ⟨h2, hv.right⟩, EqT.refl _⟩
  exact this
theorem Mrg.one_right {y : Po tp} {u1 u2 : List (Po tp)} (hu : AscT (u1 ++ u2)) (h1 : ∀ x ∈ u1, x.k ≤ y.k) (h2 : ∀ x ∈ u2, y.k < x.k) : Mrg (u1 ++ u2) [y] (u1 ++ y :: u2) := by
  have := Mrg.halves (u1 := u1) (u2 := u2) (v1 := [y]) (v2 := []) (r1 := u1 ++ [y]) (r2 := u2) hu (by simp [AscT]) (by simpa using h2) (by simp) ⟨hu.left.app (by simp [AscT]) (by simpa using h1), EqT.refl _⟩ (Mrg.nil_right hu.right)
  simpa using this
/-- sorted by time, stably: there is one such row alone -/
theorem asc_unique : ∀ {a b : List (Po tp)}, AscT a → AscT b → EqT a b → a = b
  | [], b, _, _, h => by
    cases b with
    | nil => rfl
    | cons y r => exact absurd ((EqT.mem h (x := y)).1 (List.mem_cons_self ..)) (by simp)
  | x :: r, b, ha, hb, h => by
    cases b with
    | nil => exact absurd ((EqT.mem h (x := x)).2 (List.mem_cons_self ..)) (by simp)
    | cons y s =>
      have h1 : x.k ≤ y.k := by
        rcases List.mem_cons.1 ((EqT.mem h (x := y)).1 (List.mem_cons_self ..)) with e | e
        · rw [e]; exact Int.le_refl _
        · exact (List.pairwise_cons.1 ha).1 y e
      have h2 : y.k ≤ x.k := by
        rcases List.mem_cons.1 ((EqT.mem h (x := x)).2 (List.mem_cons_self ..)) with e | e
        · rw [e]; exact Int.le_refl _
        · exact (List.pairwise_cons.1 hb).1 x e
      have e : y.k = x.k := Int.le_antisymm h2 h1
      have hx := h x.k
      unfold atT at hx
      rw [List.filter_cons_of_pos (by simp [e]), List.filter_cons_of_pos (by simp)] at hx
      injection hx with e1 e2
      subst e1
      have : EqT r s := fun t => by
        have ht := h t
        unfold atT at ht ⊢
        by_cases g : y.k = t
        · rw [List.filter_cons_of_pos (by simp [g]), List.filter_cons_of_pos (by simp [g])] at ht
          injection ht
        · rw [List.filter_cons_of_neg (by simp [g]), List.filter_cons_of_neg (by simp [g])] at ht
          exact ht
      rw [asc_unique (List.pairwise_cons.1 ha).2 (List.pairwise_cons.1 hb).2 this]
end Go.Proofs.YtihiklmomhhdbaaDoor.Gs
