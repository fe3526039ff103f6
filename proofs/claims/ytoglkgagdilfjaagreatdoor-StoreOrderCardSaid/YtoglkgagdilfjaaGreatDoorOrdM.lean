/- Samples in another order make the same store. -/
import Derived.Test.YtoglkgagdilfjaaGreatDoorNewM
namespace Go.Proofs.YtoglkgagdilfjaaGreatDoor

theorem smp_app (x : List Lb) (a b : List Rwm) : smp x (a ++ b) = smp x a ++ smp x b := by unfold smp; rw [List.filter_append, List.map_append]
theorem smp_cons (x : List Lb) (r : Rwm) (b : List Rwm) : smp x (r :: b) = smp x [r] ++ smp x b := smp_app x [r] b
theorem mem_smp {x : List Lb} {l : List Rwm} {p : Sm} (h : p ∈ smp x l) : ∃ r ∈ l, setV r.l = x ∧ p = smO r := by
  unfold smp at h
  obtain ⟨r, hr, rfl⟩ := List.mem_map.1 h
  obtain ⟨h1, h2⟩ := List.mem_filter.1 hr
  exact ⟨r, h1, by simpa using h2, rfl⟩
theorem smp_turn (x : List Lb) (a b : List Rwm) (r : Rwm) (h : ∀ y ∈ b, ¬ (setV r.l = setV y.l ∧ y.t = r.t)) : EqT (smp x (a ++ r :: b)) (smp x (a ++ b ++ [r])) := by
  rw [smp_app, smp_cons, smp_app, smp_app, List.append_assoc]
  refine (EqT.refl _).app (EqT.turn fun p hp q hq e => ?_)
  obtain ⟨r', h1, h2, rfl⟩ := mem_smp hp
  obtain ⟨y, h3, h4, rfl⟩ := mem_smp hq
  obtain rfl : r' = r := by simpa using h1
  exact h y h3 ⟨h2.trans h4.symm, e.symm⟩
theorem StL.turn {gs : List Se} {a b : List Rwm} {r : Rwm} (h : StL gs (a ++ r :: b)) (hn : ∀ y ∈ b, ¬ (setV r.l = setV y.l ∧ y.t = r.t)) : StL gs (a ++ b ++ [r]) := by
  refine ⟨h.ord, fun x => ?_, fun s hs => ?_⟩
  · rw [h.mem]
    constructor
    · rintro ⟨y, hy, e⟩
      refine ⟨y, ?_, e⟩
      simp only [List.mem_append, List.mem_cons, List.not_mem_nil, or_false] at hy ⊢
      rcases hy with h | h | h
      · exact .inl (.inl h)
      · exact .inr h
      · exact .inl (.inr h)
    · rintro ⟨y, hy, e⟩
      refine ⟨y, ?_, e⟩
      simp only [List.mem_append, List.mem_cons, List.not_mem_nil, or_false] at hy ⊢
      rcases hy with (h | h) | h
      · exact .inl h
      · exact .inr (.inr h)
      · exact .inr (.inl h)
  · obtain ⟨q, h1, h2, h3⟩ := h.s s hs
    exact ⟨q, h1, (EqT.symm (smp_turn s.1 a b r hn)).trans h2, h3⟩
theorem errA_turn {a b : List Rwm} {r : Rwm} (h : errA (a ++ r :: b) = 0) : errA (a ++ b ++ [r]) = 0 :=
  errA_all fun y hy => errA_0 h y (by
    simp only [List.mem_append, List.mem_cons, List.not_mem_nil, or_false] at hy ⊢
    rcases hy with (h | h) | h
    · exact .inl h
    · exact .inr (.inr h)
    · exact .inr (.inl h))
end Go.Proofs.YtoglkgagdilfjaaGreatDoor
