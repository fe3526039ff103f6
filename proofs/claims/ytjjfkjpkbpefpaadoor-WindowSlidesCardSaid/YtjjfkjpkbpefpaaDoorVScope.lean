/- A scope in which the run jumps among three labels, or falls from one into the next. -/
import Derived.ScopeJumps
import Derived.WalkMore
import Derived.WalkKit
namespace Go.Proofs.YtjjfkjpkbpefpaaDoor.Vn

/-- As Q; by a goto to a label: J of that label. -/
def jumps (J : Nat → Act → World → Prop) (Q : Exit → Act → World → Prop) : Exit → Act → World → Prop
  | .goto l, a, w => J l a w
  | e, a, w => Q e a w

section
variable {P : Program} {a : Act} {w : World} {Q : Exit → Act → World → Prop}
theorem jumps_goto (J : Nat → Act → World → Prop) (l : Nat) : jumps J Q (.goto l) a w = J l a w := rfl
theorem jumps_ret (J : Nat → Act → World → Prop) : jumps J Q .ret a w = Q .ret a w := rfl
theorem jumps_normal (J : Nat → Act → World → Prop) : jumps J Q .normal a w = Q .normal a w := rfl

theorem jumps_mono {J J' : Nat → Act → World → Prop} (h : ∀ l a w, J l a w → J' l a w) : ∀ e a w, jumps J Q e a w → jumps J' Q e a w := by
  intro e a w hh
  cases e with
  | goto l => exact h _ _ _ hh
  | normal => exact hh
  | exit id => exact hh
  | ret => exact hh
  | panic ch => exact hh
  | outgrown => exact hh

theorem wp_scope_labels {c : Code} (J : Nat → Act → World → Prop) (μ : Nat → Act → World → Nat)
    (first : c.wp P (jumps J Q) a w)
    (pass : ∀ l a w, J l a w → ∃ rest, findLabel c l = some rest ∧ rest.wp P (jumps (fun l' a' w' => J l' a' w' ∧ μ l' a' w' < μ l a w) Q) a w) : (Code.scope c).wp P Q a w := by
  intro b k cs
  have key : ∀ n l a w, μ l a w = n → J l a w → ∃ rest, gotoIn l (.inScope c :: k) = some (.code rest :: .inScope c :: k) ∧ ∃ e a' w', Q e a' w' ∧ Arrives P (lone (b.at a (.code rest :: .inScope c :: k)) cs w) b k cs e a' w' := by
    intro n
    induction n using Nat.strongRecOn with
    | _ n ih =>
      intro l a w hn hJ
      obtain ⟨rest, hf, hp⟩ := pass l a w hJ
      refine ⟨rest, by simp [gotoIn, hf], ?_⟩
      obtain ⟨e, a₁, w₁, hq, harr⟩ := hp b (.inScope c :: k) cs
      cases e with
      | normal => exact ⟨.normal, a₁, w₁, hq, Steps.trans harr (.one step_inScope)⟩
      | exit id => exact ⟨.exit id, a₁, w₁, hq, fun k' hk => harr k' (by simp [exitTo, hk])⟩
      | goto l' =>
        obtain ⟨hJ', hlt⟩ := hq
        obtain ⟨rest', hg', e₂, a₂, w₂, hq₂, harr₂⟩ := ih _ (by omega) l' a₁ w₁ rfl hJ'
        exact ⟨e₂, a₂, w₂, hq₂, .of_steps (harr _ hg') harr₂⟩
      | ret => exact ⟨_, a₁, w₁, hq, harr⟩
      | panic ch => exact ⟨_, a₁, w₁, hq, harr⟩
      | outgrown => exact ⟨_, a₁, w₁, hq, harr⟩
  obtain ⟨e, a₁, w₁, hq, harr⟩ := first b (.inScope c :: k) cs
  cases e with
  | normal => exact ⟨.normal, a₁, w₁, hq, .head step_scope (Steps.trans harr (.one step_inScope))⟩
  | exit id => exact ⟨.exit id, a₁, w₁, hq, fun k' hk => .head step_scope (harr k' (by simp [exitTo, hk]))⟩
  | goto l' =>
    obtain ⟨rest', hg', e₂, a₂, w₂, hq₂, harr₂⟩ := key _ l' a₁ w₁ rfl hq
    exact ⟨e₂, a₂, w₂, hq₂, .of_steps (.head step_scope (harr _ hg')) harr₂⟩
  | ret => exact ⟨_, a₁, w₁, hq, .of_steps (.one step_scope) harr⟩
  | panic ch => exact ⟨_, a₁, w₁, hq, .of_steps (.one step_scope) harr⟩
  | outgrown => exact ⟨_, a₁, w₁, hq, .of_steps (.one step_scope) harr⟩

/-- what holds at each of five labels, told by what holds at it; n: a bound that the measure stays below -/
def Pass (P : Program) (Q : Exit → Act → World → Prop) (J : Nat → Act → World → Prop) (μ : Nat → Act → World → Nat) (l : Nat) (r : Code) : Prop :=
  ∀ n a w, J l a w → μ l a w ≤ n → r.wp P (jumps (fun l' a' w' => J l' a' w' ∧ μ l' a' w' < n) Q) a w

theorem wp_skip_seq {r : Code} (h : r.wp P Q a w) : (Code.skip.seq r).wp P Q a w := by
  go_wp2
  exact h

theorem wp_scope3 {c r0 r1 r2 : Code} (J : Nat → Act → World → Prop) (μ : Nat → Act → World → Nat) (hJ : ∀ l a w, J l a w → l < 3)
    (f0 : findLabel c 0 = some (Code.skip.seq r0)) (f1 : findLabel c 1 = some (Code.skip.seq r1)) (f2 : findLabel c 2 = some (Code.skip.seq r2))
    (p2 : Pass P Q J μ 2 r2) (p1 : Pass P Q J μ 2 r2 → Pass P Q J μ 1 r1) (p0 : Pass P Q J μ 1 r1 → Pass P Q J μ 0 r0)
    (first : Pass P Q J μ 0 r0 → ∃ n, c.wp P (jumps (fun l' a' w' => J l' a' w' ∧ μ l' a' w' < n) Q) a w) : (Code.scope c).wp P Q a w := by
  obtain ⟨n, hf⟩ := first (p0 (p1 p2))
  refine wp_scope_labels J μ ?_ fun l a w h => ?_
  · intro b k cs
    obtain ⟨e, a₁, w₁, hq, harr⟩ := hf b k cs
    refine ⟨e, a₁, w₁, ?_, harr⟩
    cases e with
    | goto l => exact hq.1
    | normal => exact hq
    | exit id => exact hq
    | ret => exact hq
    | panic ch => exact hq
    | outgrown => exact hq
  · have hl := hJ l a w h
    rcases (by omega : l = 0 ∨ l = 1 ∨ l = 2) with rfl | rfl | rfl
    · exact ⟨_, f0, wp_skip_seq (p0 (p1 p2) _ a w h (Nat.le_refl _))⟩
    · exact ⟨_, f1, wp_skip_seq (p1 p2 _ a w h (Nat.le_refl _))⟩
    · exact ⟨_, f2, wp_skip_seq (p2 _ a w h (Nat.le_refl _))⟩
end
end Go.Proofs.YtjjfkjpkbpefpaaDoor.Vn
