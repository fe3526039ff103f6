/- What gather has put together: by labels, in the order in which they come. -/
import Derived.Test.YtoooaipbkkiefaaGreatDoorGat
namespace Go.Proofs.YtoooaipbkkiefaaGreatDoor
set_option maxRecDepth 100000

/-- the error of the first that has one -/
def errA : List Rwm → Int
  | [] => 0
  | r :: l => if rawE r = 0 then errA l else rawE r
theorem errA_all : ∀ {l : List Rwm}, (∀ r ∈ l, rawE r = 0) → errA l = 0
  | [], _ => rfl
  | r :: l, h => by
    unfold errA
    rw [if_pos (h r (by simp)), errA_all fun x hx => h x (by simp [hx])]
theorem errA_0 : ∀ {l : List Rwm}, errA l = 0 → ∀ r ∈ l, rawE r = 0
  | [], _, _, hr => by simp at hr
  | x :: l, h, r, hr => by
    unfold errA at h
    by_cases e : rawE x = 0
    · rw [if_pos e] at h
      rcases List.mem_cons.1 hr with rfl | hr
      · exact e
      · exact errA_0 h r hr
    · rw [if_neg e] at h; exact absurd h e
theorem errA_at : ∀ {l : List Rwm} {k : Nat} {r : Rwm}, l[k]? = some r → (∀ x ∈ l.take k, rawE x = 0) → rawE r ≠ 0 → errA l = rawE r
  | [], k, r, h, _, _ => by simp at h
  | x :: l, 0, r, h, _, hr => by
    obtain rfl : x = r := by simpa using h
    unfold errA; rw [if_neg hr]
  | x :: l, k + 1, r, h, hp, hr => by
    unfold errA
    rw [if_pos (hp x (by simp)), errA_at (k := k) (by simpa using h) (fun y hy => hp y (by simp [hy])) hr]
/-- a sample as it is kept -/
def smO (r : Rwm) : Sm := (r.t, cnv r.v)
/-- those of labels x, as they come -/
def smp (x : List Lb) (l : List Rwm) : List Sm := (l.filter fun r => decide (setV r.l = x)).map smO
theorem smp_snoc_same (l : List Rwm) (r : Rwm) : smp (setV r.l) (l ++ [r]) = smp (setV r.l) l ++ [smO r] := by
  simp [smp]
theorem smp_snoc_other {x : List Lb} {r : Rwm} (h : setV r.l ≠ x) (l : List Rwm) : smp x (l ++ [r]) = smp x l := by
  simp [smp, h]
theorem smp_len (x : List Lb) (l : List Rwm) : (smp x l).length ≤ l.length := by
  unfold smp; rw [List.length_map]; exact List.length_filter_le _ _
/-- put together -/
structure Gath (gs : List Se) (l : List Rwm) : Prop where
  nd : (gs.map (·.1)).Nodup
  mem : ∀ x, x ∈ gs.map (·.1) ↔ ∃ r ∈ l, setV r.l = x
  s : ∀ s ∈ gs, s.2 = smp s.1 l
theorem Gath.nil : Gath [] [] := ⟨by simp, fun x => by simp, fun s hs => by simp at hs⟩
theorem Gath.old {gs : List Se} {l : List Rwm} (h : Gath gs l) {i : Nat} {s : Se} {r : Rwm} (hs : gs[i]? = some s) (e : s.1 = setV r.l) : Gath (gs.set i (s.1, s.2 ++ [smO r])) (l ++ [r]) := by
  have hi := (List.getElem?_eq_some_iff.1 hs).1
  have hm : (gs.set i (s.1, s.2 ++ [smO r])).map (·.1) = gs.map (·.1) := by
    apply List.ext_getElem?
    intro j
    rw [List.getElem?_map, List.getElem?_map, List.getElem?_set]
    by_cases e : i = j
    · subst e; rw [if_pos rfl, if_pos hi, hs]; rfl
    · rw [if_neg e]
  refine ⟨by rw [hm]; exact h.nd, fun x => ?_, fun t ht => ?_⟩
  · rw [hm, h.mem]
    constructor
    · rintro ⟨y, hy, hx⟩; exact ⟨y, by simp [hy], hx⟩
    · rintro ⟨y, hy, hx⟩
      rcases List.mem_append.1 hy with hy | hy
      · exact ⟨y, hy, hx⟩
      · rw [List.mem_singleton] at hy
        subst hy
        exact (h.mem x).1 (by rw [← hx, ← e]; exact List.mem_map_of_mem (List.mem_of_getElem? hs))
  · obtain ⟨j, hj⟩ := List.getElem?_of_mem ht
    rw [List.getElem?_set] at hj
    by_cases ej : i = j
    · subst ej
      rw [if_pos rfl, if_pos hi] at hj
      cases hj
      simp only
      rw [h.s s (List.mem_of_getElem? hs), e, smp_snoc_same]
    · rw [if_neg ej] at hj
      rw [h.s t (List.mem_of_getElem? hj), smp_snoc_other]
      intro e2
      have h1 : (gs.map (·.1))[i]? = some s.1 := by rw [List.getElem?_map, hs]; rfl
      have h2 : (gs.map (·.1))[j]? = some t.1 := by rw [List.getElem?_map, hj]; rfl
      rw [← e2, ← e, ← h1] at h2
      exact ej ((List.getElem?_inj (by simpa using hi) h.nd).1 h2.symm)
theorem Gath.new {gs : List Se} {l : List Rwm} (h : Gath gs l) {r : Rwm} (hn : setV r.l ∉ gs.map (·.1)) : Gath (gs ++ [(setV r.l, [smO r])]) (l ++ [r]) := by
  refine ⟨?_, fun x => ?_, fun t ht => ?_⟩
  · rw [List.map_append, List.nodup_append]
    refine ⟨h.nd, by simp, fun a ha b hb e => ?_⟩
    simp at hb
    subst hb; subst e
    exact hn ha
  · rw [List.map_append, List.mem_append, h.mem]
    constructor
    · rintro (⟨y, hy, hx⟩ | hx)
      · exact ⟨y, by simp [hy], hx⟩
      · simp at hx; exact ⟨r, by simp, hx.symm⟩
    · rintro ⟨y, hy, hx⟩
      rcases List.mem_append.1 hy with hy | hy
      · exact .inl ⟨y, hy, hx⟩
      · rw [List.mem_singleton] at hy; subst hy; exact .inr (by simp [hx])
  · rcases List.mem_append.1 ht with ht | ht
    · rw [h.s t ht, smp_snoc_other]
      intro e
      exact hn (by rw [e]; exact List.mem_map_of_mem ht)
    · rw [List.mem_singleton] at ht
      subst ht
      simp only
      rw [smp_snoc_same]
      have : smp (setV r.l) l = [] := by
        unfold smp
        rw [List.filter_eq_nil_iff.2, List.map_nil]
        intro y hy e
        exact hn ((h.mem _).2 ⟨y, hy, by simpa using e⟩)
      rw [this]; rfl
end Go.Proofs.YtoooaipbkkiefaaGreatDoor
