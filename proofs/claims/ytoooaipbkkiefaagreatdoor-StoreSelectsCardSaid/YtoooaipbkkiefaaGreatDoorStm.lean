/- Samples as lists: order of times, what stands at one time. -/
import Derived.Test.YtoooaipbkkiefaaGreatDoorProg
namespace Go.Proofs.YtoooaipbkkiefaaGreatDoor
set_option maxRecDepth 100000

/-- a sample: its time and its value's bits -/
abbrev Sm := Int × Nat
/-- those of one time, in their order -/
def atT (t : Int) (l : List Sm) : List Sm := l.filter (fun x => x.1 == t)
/-- times do not fall -/
def AscT (l : List Sm) : Prop := l.Pairwise (fun x y => x.1 ≤ y.1)
/-- the same samples, those of one time in the same order -/
def EqT (l r : List Sm) : Prop := ∀ t, atT t r = atT t l
theorem EqT.refl (l : List Sm) : EqT l l := fun _ => rfl
theorem EqT.trans {a b c : List Sm} (h : EqT a b) (g : EqT b c) : EqT a c := fun t => (g t).trans (h t)
theorem atT_app (t : Int) (a b : List Sm) : atT t (a ++ b) = atT t a ++ atT t b := by unfold atT; exact List.filter_append ..
theorem EqT.app {a b c d : List Sm} (h : EqT a b) (g : EqT c d) : EqT (a ++ c) (b ++ d) := fun t => by rw [atT_app, atT_app, h t, g t]
theorem atT_nil_of {t : Int} {l : List Sm} (h : ∀ x ∈ l, x.1 ≠ t) : atT t l = [] := List.filter_eq_nil_iff.2 fun x hx => by simpa using h x hx
/-- two parts with no time in common change places -/
theorem EqT.turn {a b : List Sm} (h : ∀ x ∈ a, ∀ y ∈ b, x.1 ≠ y.1) : EqT (a ++ b) (b ++ a) := fun t => by
  rw [atT_app, atT_app]
  by_cases g : ∃ x ∈ a, x.1 = t
  · obtain ⟨x, hx, rfl⟩ := g
    rw [atT_nil_of (l := b) fun y hy => (h x hx y hy).symm]; simp
  · rw [atT_nil_of (l := a) fun y hy e => g ⟨y, hy, e⟩]; simp
theorem EqT.mem {a b : List Sm} (h : EqT a b) {x : Sm} : x ∈ b ↔ x ∈ a := by
  have : x ∈ atT x.1 b ↔ x ∈ atT x.1 a := by rw [h]
  simpa [atT] using this
theorem EqT.length {a b : List Sm} (h : EqT a b) : b.length = a.length := by
  have key : ∀ (n : Nat) (a b : List Sm), a.length = n → EqT a b → b.length = a.length := by
    intro n
    induction n using Nat.strongRecOn with
    | ind n ih =>
      intro a b hn h
      cases a with
      | nil =>
        cases b with
        | nil => rfl
        | cons y r => exact absurd ((EqT.mem h (x := y)).1 (List.mem_cons_self ..)) (by simp)
      | cons x r =>
        have hs : ∀ l : List Sm, l.length = (atT x.1 l).length + (l.filter (fun y => !(y.1 == x.1))).length := fun l => by
          have := List.length_eq_countP_add_countP (fun y : Sm => y.1 == x.1) (l := l)
          rw [List.countP_eq_length_filter, List.countP_eq_length_filter] at this
          unfold atT
          have e : (fun y : Sm => !(y.1 == x.1)) = fun a => decide ¬ (a.1 == x.1) = true := by funext y; cases (y.1 == x.1) <;> rfl
          rw [e]; exact this
        have e2 : EqT ((x :: r).filter (fun y => !(y.1 == x.1))) (b.filter (fun y => !(y.1 == x.1))) := fun t => by
          have ht := h t
          unfold atT at ht ⊢
          rw [List.filter_filter, List.filter_filter]
          by_cases e : t = x.1
          · subst e
            rw [List.filter_eq_nil_iff.2 (fun y _ => by cases (y.1 == x.1) <;> simp), List.filter_eq_nil_iff.2 (fun y _ => by cases (y.1 == x.1) <;> simp)]
          · have hp : (fun y : Sm => y.1 == t && !(y.1 == x.1)) = fun y : Sm => y.1 == t := by
              funext y
              by_cases hy : y.1 = t
              · subst hy; simp [e]
              · simp [hy]
            rw [hp]; exact ht
        have hlt : ((x :: r).filter (fun y => !(y.1 == x.1))).length < n := by
          have := hs (x :: r)
          have h1 : 0 < (atT x.1 (x :: r)).length := by unfold atT; simp
          omega
        have := ih _ hlt _ _ rfl e2
        rw [hs b, hs (x :: r), this, h x.1]
  exact key _ a b rfl h
theorem AscT.app {a b : List Sm} (ha : AscT a) (hb : AscT b) (h : ∀ x ∈ a, ∀ y ∈ b, x.1 ≤ y.1) : AscT (a ++ b) := List.pairwise_append.2 ⟨ha, hb, h⟩
theorem AscT.left {a b : List Sm} (h : AscT (a ++ b)) : AscT a := (List.pairwise_append.1 h).1
theorem AscT.right {a b : List Sm} (h : AscT (a ++ b)) : AscT b := (List.pairwise_append.1 h).2.1
theorem AscT.sep {a b : List Sm} (h : AscT (a ++ b)) : ∀ x ∈ a, ∀ y ∈ b, x.1 ≤ y.1 := (List.pairwise_append.1 h).2.2
/-- merged: sorted, and those of one time in their order -/
def Mrg (u v r : List Sm) : Prop := AscT r ∧ EqT (u ++ v) r
/-- the heart of it: what the two halves come to -/
theorem Mrg.halves {u1 u2 v1 v2 r1 r2 : List Sm} (hu : AscT (u1 ++ u2)) (hv : AscT (v1 ++ v2)) (h1 : ∀ x ∈ u2, ∀ y ∈ v1, y.1 < x.1) (h2 : ∀ x ∈ u1, ∀ y ∈ v2, x.1 ≤ y.1) (m1 : Mrg u1 v1 r1) (m2 : Mrg u2 v2 r2) : Mrg (u1 ++ u2) (v1 ++ v2) (r1 ++ r2) := by
  refine ⟨m1.1.app m2.1 fun x hx y hy => ?_, ?_⟩
  · have hx := (m1.2.mem).1 hx
    have hy := (m2.2.mem).1 hy
    rcases List.mem_append.1 hx with a | a <;> rcases List.mem_append.1 hy with b | b
    · exact hu.sep x a y b
    · exact h2 x a y b
    · exact Int.le_of_lt (h1 y b x a)
    · exact hv.sep x a y b
  · have e1 : EqT ((u1 ++ u2) ++ (v1 ++ v2)) ((u1 ++ v1) ++ (u2 ++ v2)) := by
      have : EqT (u2 ++ v1) (v1 ++ u2) := EqT.turn fun x hx y hy => by have := h1 x hx y hy; omega
      have := ((EqT.refl u1).app this).app (EqT.refl v2)
      simpa only [List.append_assoc] using this
    exact e1.trans (m1.2.app m2.2)
theorem Mrg.nil_left {v : List Sm} (h : AscT v) : Mrg [] v v := ⟨h, EqT.refl _⟩
theorem Mrg.nil_right {u : List Sm} (h : AscT u) : Mrg u [] u := ⟨h, by rw [List.append_nil]; exact EqT.refl _⟩
/-- one sample ahead of a sorted row -/
theorem Mrg.one_left {x : Sm} {v1 v2 : List Sm} (hv : AscT (v1 ++ v2)) (h1 : ∀ y ∈ v1, y.1 < x.1) (h2 : ∀ y ∈ v2, x.1 ≤ y.1) : Mrg [x] (v1 ++ v2) (v1 ++ x :: v2) := by
  have := Mrg.halves (u1 := []) (u2 := [x]) (v1 := v1) (v2 := v2) (r1 := v1) (r2 := x :: v2) (by simp [AscT]) hv (by simpa using h1) (by simp) (Mrg.nil_left hv.left) ⟨List.pairwise_cons.2 ⟨h2, hv.right⟩, EqT.refl _⟩
  exact this
theorem Mrg.one_right {y : Sm} {u1 u2 : List Sm} (hu : AscT (u1 ++ u2)) (h1 : ∀ x ∈ u1, x.1 ≤ y.1) (h2 : ∀ x ∈ u2, y.1 < x.1) : Mrg (u1 ++ u2) [y] (u1 ++ y :: u2) := by
  have := Mrg.halves (u1 := u1) (u2 := u2) (v1 := [y]) (v2 := []) (r1 := u1 ++ [y]) (r2 := u2) hu (by simp [AscT]) (by simpa using h2) (by simp) ⟨hu.left.app (by simp [AscT]) (by simpa using h1), EqT.refl _⟩ (Mrg.nil_right hu.right)
  simpa using this
/-- sorted by time, stably: there is one such row alone -/
theorem asc_unique : ∀ {a b : List Sm}, AscT a → AscT b → EqT a b → a = b
  | [], b, _, _, h => by
    cases b with
    | nil => rfl
    | cons y r => exact absurd ((EqT.mem h (x := y)).1 (List.mem_cons_self ..)) (by simp)
  | x :: r, b, ha, hb, h => by
    cases b with
    | nil => exact absurd ((EqT.mem h (x := x)).2 (List.mem_cons_self ..)) (by simp)
    | cons y s =>
      have h1 : x.1 ≤ y.1 := by
        rcases List.mem_cons.1 ((EqT.mem h (x := y)).1 (List.mem_cons_self ..)) with e | e
        · rw [e]; exact Int.le_refl _
        · exact (List.pairwise_cons.1 ha).1 y e
      have h2 : y.1 ≤ x.1 := by
        rcases List.mem_cons.1 ((EqT.mem h (x := x)).2 (List.mem_cons_self ..)) with e | e
        · rw [e]; exact Int.le_refl _
        · exact (List.pairwise_cons.1 hb).1 x e
      have e : y.1 = x.1 := Int.le_antisymm h2 h1
      have hx := h x.1
      unfold atT at hx
      rw [List.filter_cons_of_pos (by simp [e]), List.filter_cons_of_pos (by simp)] at hx
      injection hx with e1 e2
      subst e1
      have : EqT r s := fun t => by
        have ht := h t
        unfold atT at ht ⊢
        by_cases g : y.1 = t
        · rw [List.filter_cons_of_pos (by simp [g]), List.filter_cons_of_pos (by simp [g])] at ht
          injection ht
        · rw [List.filter_cons_of_neg (by simp [g]), List.filter_cons_of_neg (by simp [g])] at ht
          exact ht
      rw [asc_unique (List.pairwise_cons.1 ha).2 (List.pairwise_cons.1 hb).2 this]
end Go.Proofs.YtoooaipbkkiefaaGreatDoor
