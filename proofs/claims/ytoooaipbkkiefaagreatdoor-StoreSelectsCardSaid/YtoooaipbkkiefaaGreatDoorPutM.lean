/- What put makes of a store's series: a store of one sample more. -/
import Derived.Test.YtoooaipbkkiefaaGreatDoorPutR
namespace Go.Proofs.YtoooaipbkkiefaaGreatDoor
set_option maxRecDepth 100000

/-- behind all that are not later -/
def insT (l : List Sm) (p : Sm) : List Sm := l.takeWhile (fun q => decide (q.1 ≤ p.1)) ++ p :: l.dropWhile (fun q => decide (q.1 ≤ p.1))
theorem tw_all {α : Type} {f : α → Bool} : ∀ {l : List α}, ∀ x ∈ l.takeWhile f, f x = true
  | [], x, h => by simp at h
  | y :: r, x, h => by
    by_cases e : f y = true
    · rw [List.takeWhile_cons_of_pos e] at h
      rcases List.mem_cons.1 h with rfl | h
      · exact e
      · exact tw_all x h
    · rw [List.takeWhile_cons_of_neg e] at h; simp at h
theorem dw_head {α : Type} {f : α → Bool} : ∀ {l : List α} {x : α} {r : List α}, l.dropWhile f = x :: r → f x = false
  | [], x, r, h => by simp at h
  | y :: s, x, r, h => by
    by_cases e : f y = true
    · rw [List.dropWhile_cons_of_pos e] at h; exact dw_head h
    · rw [List.dropWhile_cons_of_neg e] at h
      injection h with h1 h2
      subst h1
      simpa using e
theorem insT_mrg {l : List Sm} (h : AscT l) (p : Sm) : Mrg l [p] (insT l p) := by
  have e := List.takeWhile_append_dropWhile (p := fun q : Sm => decide (q.1 ≤ p.1)) (l := l)
  have := Mrg.one_right (y := p) (u1 := l.takeWhile fun q => decide (q.1 ≤ p.1)) (u2 := l.dropWhile fun q => decide (q.1 ≤ p.1)) (by rw [e]; exact h) (fun x hx => by simpa using tw_all x hx) (fun x hx => by
    cases hd : l.dropWhile (fun q : Sm => decide (q.1 ≤ p.1)) with
    | nil => rw [hd] at hx; simp at hx
    | cons y r =>
      have hy : p.1 < y.1 := by have := dw_head hd; simp at this; omega
      rw [hd] at hx
      have ha : AscT (y :: r) := by rw [← hd]; rw [← e] at h; exact h.right
      rcases List.mem_cons.1 hx with rfl | hx
      · exact hy
      · have := (List.pairwise_cons.1 ha).1 x hx; omega)
  rw [e] at this
  exact this
theorem putS_far {l : List Sm} {p : Sm} (h : ∀ q ∈ l, p.1 < q.1) : putS l p = p :: l := by
  cases l with
  | nil => rfl
  | cons q r =>
    have hq := h q (by simp)
    unfold putS
    rw [List.takeWhile_cons_of_neg (by simp; omega), List.dropWhile_cons_of_neg (by simp; omega)]
    have hne : q.1 ≠ p.1 := by omega
    simp [hne]
theorem putS_lt {q : Sm} {l : List Sm} {p : Sm} (h : q.1 < p.1) : putS (q :: l) p = q :: putS l p := by
  unfold putS
  rw [List.takeWhile_cons_of_pos (by simpa using h), List.dropWhile_cons_of_pos (by simpa using h)]
  rfl
theorem putS_same {q : Sm} {l : List Sm} {p : Sm} (h : q.1 = p.1) : putS (q :: l) p = p :: l := by
  unfold putS
  rw [List.takeWhile_cons_of_neg (by simp; omega), List.dropWhile_cons_of_neg (by simp; omega)]
  simp [h]
theorem lasts_mem : ∀ {l : List Sm} {x : Sm}, x ∈ lasts l → x ∈ l
  | [], _, h => by simp [lasts] at h
  | [y], x, h => by simpa [lasts] using h
  | y :: z :: r, x, h => by
    unfold lasts at h
    split at h
    · exact List.mem_cons_of_mem _ (lasts_mem h)
    · rcases List.mem_cons.1 h with rfl | h
      · simp
      · exact List.mem_cons_of_mem _ (lasts_mem h)
theorem lasts_ne {x y : Sm} {r : List Sm} (h : x.1 ≠ y.1) : lasts (x :: y :: r) = x :: lasts (y :: r) := by
  rw [lasts, if_neg h]
theorem lasts_eq {x y : Sm} {r : List Sm} (h : x.1 = y.1) : lasts (x :: y :: r) = lasts (y :: r) := by
  rw [lasts, if_pos h]
theorem insT_pos {x p : Sm} {r : List Sm} (h : x.1 ≤ p.1) : insT (x :: r) p = x :: insT r p := by
  unfold insT
  rw [List.takeWhile_cons_of_pos (by simpa using h), List.dropWhile_cons_of_pos (by simpa using h)]
  rfl
theorem insT_neg {x p : Sm} {r : List Sm} (h : p.1 < x.1) : insT (x :: r) p = p :: x :: r := by
  unfold insT
  rw [List.takeWhile_cons_of_neg (by simp; omega), List.dropWhile_cons_of_neg (by simp; omega)]
  rfl
theorem putS_lasts (p : Sm) : ∀ {l : List Sm}, AscT l → putS (lasts l) p = lasts (insT l p)
  | [], _ => rfl
  | [x], _ => by
    rw [show lasts [x] = [x] from rfl]
    rcases Int.lt_trichotomy x.1 p.1 with h | h | h
    · rw [putS_lt h, insT_pos (by omega), show insT [] p = [p] from rfl, lasts_ne (by omega)]; rfl
    · rw [putS_same h, insT_pos (by omega), show insT [] p = [p] from rfl, lasts_eq h]; rfl
    · rw [putS_far (by simpa using h), insT_neg h, lasts_ne (by omega)]; rfl
  | x :: y :: r, ha => by
    obtain ⟨h1, h2⟩ := List.pairwise_cons.1 ha
    have hxy := h1 y (by simp)
    obtain ⟨h3, -⟩ := List.pairwise_cons.1 h2
    by_cases hx : p.1 < x.1
    · rw [insT_neg hx, lasts_ne (x := p) (y := x) (r := y :: r) (by omega), putS_far (l := lasts (x :: y :: r)) fun q hq => by
        rcases List.mem_cons.1 (lasts_mem hq) with rfl | hq
        · exact hx
        · have := h1 q hq; omega]
    · rw [insT_pos (by omega)]
      by_cases hy : y.1 ≤ p.1
      · have ih := putS_lasts p h2
        rw [insT_pos hy] at ih ⊢
        by_cases e : x.1 = y.1
        · rw [lasts_eq e, lasts_eq e, ih]
        · rw [lasts_ne e, lasts_ne e, putS_lt (by omega), ih]
      · have far : ∀ q ∈ lasts (y :: r), p.1 < q.1 := fun q hq => by
          rcases List.mem_cons.1 (lasts_mem hq) with rfl | hq
          · omega
          · have := h3 q hq; omega
        rw [insT_neg (by omega), lasts_ne (x := x) (y := y) (by omega)]
        by_cases e : x.1 = p.1
        · rw [putS_same e, lasts_eq e, lasts_ne (by omega)]
        · rw [putS_lt (by omega), putS_far far, lasts_ne e, lasts_ne (by omega)]
/-! the series -/
theorem plc_before {gs : List Se} {x : List Lb} : ∀ s ∈ gs.take (plc gs x), ltLs s.1 x := fun s hs => by
  unfold plc at hs
  rw [← take_takeW] at hs
  have := tw_all s hs
  simpa [ltB, ltLs] using this
theorem plc_behind {gs : List Se} {x : List Lb} (h : (gs.map (·.1)).Pairwise ltLs) : ∀ s ∈ gs.drop (plc gs x), ¬ ltLs s.1 x := fun s hs hlt => by
  unfold plc at hs
  rw [← drop_dropW] at hs
  have e := List.takeWhile_append_dropWhile (p := ltB x) (l := gs)
  cases hd : gs.dropWhile (ltB x) with
  | nil => rw [hd] at hs; simp at hs
  | cons y r =>
    have hy : ¬ ltLs y.1 x := by have := dw_head hd; simpa [ltB, ltLs] using this
    rw [hd] at hs
    rcases List.mem_cons.1 hs with rfl | hs
    · exact hy hlt
    · rw [← e, hd, List.map_append] at h
      have h2 := (List.pairwise_append.1 h).2.1
      rw [List.map_cons] at h2
      have h3 := (List.pairwise_cons.1 h2).1 s.1 (List.mem_map_of_mem hs)
      exact hy (cmpLs_trans h3 hlt)
theorem ord_nodup {l : List (List Lb)} (h : l.Pairwise ltLs) : l.Nodup := by
  show l.Pairwise (· ≠ ·)
  exact h.imp fun {a b} hab (e : a = b) => ltLs_irrefl a (by rw [← e] at hab; exact hab)
theorem insG_ord {gs : List Se} {x : List Lb} (h : (gs.map (·.1)).Pairwise ltLs) : ((insG gs x).map (·.1)).Pairwise ltLs ∧ ∀ y, y ∈ (insG gs x).map (·.1) ↔ y ∈ gs.map (·.1) ∨ y = x := by
  cases hB : insB gs x
  · rw [insG_f hB]
    refine ⟨h, fun y => ⟨.inl, fun hy => ?_⟩⟩
    rcases hy with hy | rfl
    · exact hy
    · unfold insB at hB
      cases e : gs[plc gs y]? with
      | none => rw [e] at hB; cases hB
      | some s =>
        rw [e] at hB
        have : s.1 = y := by simpa using hB
        rw [← this]
        exact List.mem_map_of_mem (List.mem_of_getElem? e)
  · rw [insG_t hB]
    have hspl : gs.take (plc gs x) ++ gs.drop (plc gs x) = gs := List.take_append_drop _ _
    have hne : ∀ s ∈ gs.drop (plc gs x), s.1 ≠ x := fun s hs e => by
      obtain ⟨j, hj⟩ := List.getElem?_of_mem hs
      cases hd : gs.drop (plc gs x) with
      | nil => rw [hd] at hs; simp at hs
      | cons y r =>
        have hy0 : gs[plc gs x]? = some y := by
          have h3 : (gs.drop (plc gs x))[0]? = some y := by rw [hd]; rfl
          rw [List.getElem?_drop] at h3
          simpa using h3
        have hyx : y.1 ≠ x := by
          unfold insB at hB
          rw [hy0] at hB
          simpa using hB
        have hby := plc_behind h y (by rw [hd]; simp)
        rw [hd] at hs
        rcases List.mem_cons.1 hs with rfl | hs
        · exact hyx e
        · rw [← hspl, hd, List.map_append] at h
          have h2 := (List.pairwise_append.1 h).2.1
          rw [List.map_cons] at h2
          have h3 := (List.pairwise_cons.1 h2).1 s.1 (List.mem_map_of_mem hs)
          rw [e] at h3
          exact hby h3
    have h' := h
    rw [← hspl, List.map_append] at h'
    obtain ⟨p1, p2, p3⟩ := List.pairwise_append.1 h'
    refine ⟨?_, fun y => ?_⟩
    · rw [List.map_append, List.map_cons]
      refine List.pairwise_append.2 ⟨p1, List.pairwise_cons.2 ⟨fun z hz => ?_, p2⟩, fun a ha b hb => ?_⟩
      · obtain ⟨s, hs, rfl⟩ := List.mem_map.1 hz
        rcases ltLs_tri x s.1 with g | g | g
        · exact g
        · exact absurd g.symm (hne s hs)
        · exact absurd g (plc_behind h s hs)
      · rcases List.mem_cons.1 hb with rfl | hb
        · obtain ⟨s, hs, rfl⟩ := List.mem_map.1 ha
          exact plc_before s hs
        · exact p3 a ha b hb
    · rw [List.map_append, List.map_cons]
      conv => rhs; rw [← hspl, List.map_append]
      simp only [List.mem_append, List.mem_cons]
      constructor
      · rintro (h1 | h1 | h1)
        · exact .inl (.inl h1)
        · exact .inr h1
        · exact .inl (.inr h1)
      · rintro ((h1 | h1) | h1)
        · exact .inl h1
        · exact .inr (.inr h1)
        · exact .inr (.inl h1)
theorem StL.put {gs : List Se} {l : List Rwm} (h : StL gs l) (r : Rwm) : StL (putG gs (setV r.l) (smO r)) (l ++ [r]) := by
  obtain ⟨o1, o2⟩ := insG_ord (x := setV r.l) h.ord
  obtain ⟨s, hs, hsx⟩ := insG_at gs (setV r.l)
  have hG : putG gs (setV r.l) (smO r) = (insG gs (setV r.l)).set (plc gs (setV r.l)) (s.1, putS s.2 (smO r)) := by unfold putG; rw [hs]
  rw [hG]
  have hk := (List.getElem?_eq_some_iff.1 hs).1
  have old : ∀ u ∈ insG gs (setV r.l), ∃ q, AscT q ∧ EqT (smp u.1 l) q ∧ u.2 = lasts q := fun u hu => by
    rcases insG_mem hu with hu | rfl
    · exact h.s u hu
    · by_cases e : setV r.l ∈ gs.map (·.1)
      · exfalso
        -- a new one is put in only where there is none
        cases hB : insB gs (setV r.l)
        · rw [insG_f hB] at hu
          obtain ⟨q, -, h2, h3⟩ := h.s _ hu
          have : 0 < (smp (setV r.l) l).length := by
            obtain ⟨r', hr', er⟩ := (h.mem _).1 e
            unfold smp
            rw [List.length_map]
            exact List.length_pos_of_mem (List.mem_filter.2 ⟨hr', by simpa using er⟩)
          have hq : 0 < q.length := by rw [h2.length]; exact this
          have := lasts_pos hq
          rw [← h3] at this
          simp at this
        · have hnd := ord_nodup o1
          rw [insG_t hB, List.map_append, List.map_cons] at hnd
          rw [← List.take_append_drop (plc gs (setV r.l)) gs, List.map_append, List.mem_append] at e
          rw [List.nodup_append] at hnd
          obtain ⟨-, n2, n3⟩ := hnd
          rcases e with e | e
          · exact n3 _ e _ (by simp) rfl
          · exact (List.nodup_cons.1 n2).1 e
      · refine ⟨[], List.Pairwise.nil, ?_, rfl⟩
        have : smp (setV r.l) l = [] := by
          unfold smp
          rw [List.filter_eq_nil_iff.2, List.map_nil]
          intro y hy e2
          exact e ((h.mem _).2 ⟨y, hy, by simpa using e2⟩)
        show EqT (smp (setV r.l) l) []
        rw [this]; exact EqT.refl _
  refine ⟨by rw [map_set_fst hs]; exact o1, fun x => ?_, fun u hu => ?_⟩
  · rw [map_set_fst hs, o2, h.mem]
    constructor
    · rintro (⟨y, hy, e⟩ | rfl)
      · exact ⟨y, by simp [hy], e⟩
      · exact ⟨r, by simp, rfl⟩
    · rintro ⟨y, hy, e⟩
      rcases List.mem_append.1 hy with hy | hy
      · exact .inl ⟨y, hy, e⟩
      · rw [List.mem_singleton] at hy; subst hy; exact .inr e.symm
  · obtain ⟨j, hj⟩ := List.getElem?_of_mem hu
    by_cases ej : j = plc gs (setV r.l)
    · subst ej
      rw [List.getElem?_set_self hk] at hj
      obtain rfl := Option.some.inj hj
      obtain ⟨q, h1, h2, h3⟩ := old s (List.mem_of_getElem? hs)
      obtain ⟨m1, m2⟩ := insT_mrg h1 (smO r)
      refine ⟨insT q (smO r), m1, ?_, by show putS s.2 (smO r) = _; rw [h3, putS_lasts _ h1]⟩
      show EqT (smp s.1 (l ++ [r])) _
      rw [hsx, smp_snoc_same, ← hsx]
      exact (h2.app (EqT.refl [smO r])).trans m2
    · rw [List.getElem?_set_ne (Ne.symm ej)] at hj
      obtain ⟨q, h1, h2, h3⟩ := old u (List.mem_of_getElem? hj)
      refine ⟨q, h1, ?_, h3⟩
      rw [smp_snoc_other]
      · exact h2
      · intro e
        have hnd := ord_nodup o1
        have g1 : ((insG gs (setV r.l)).map (·.1))[plc gs (setV r.l)]? = some (setV r.l) := by rw [List.getElem?_map, hs]; simp [hsx]
        have g2 : ((insG gs (setV r.l)).map (·.1))[j]? = some (setV r.l) := by rw [List.getElem?_map, hj]; simp [← e]
        exact ej ((List.getElem?_inj (by simpa using (List.getElem?_eq_some_iff.1 hj).1) hnd).1 (by rw [g1, g2]))
theorem StL.nil : StL [] [] := ⟨by simp, fun x => by simp, fun s hs => by simp at hs⟩
theorem StL.bd {gs : List Se} {l : List Rwm} (h : StL gs l) (hl : l.length ≤ 1000) (r : Rwm) : Bd gs (setV r.l) := by
  refine ⟨?_, fun s hs => ⟨?_, ?_⟩, Nat.le_trans (setV_len _) (by omega)⟩
  · have := nodup_len (b := l.map fun r => setV r.l) (ord_nodup h.ord) (fun x hx => by
      obtain ⟨r, hr, e⟩ := (h.mem x).1 hx
      exact List.mem_map.2 ⟨r, hr, e⟩)
    simp at this
    omega
  · obtain ⟨r, -, e⟩ := (h.mem s.1).1 (List.mem_map_of_mem hs)
    rw [← e]
    exact Nat.le_trans (setV_len _) (by omega)
  · obtain ⟨q, -, h2, h3⟩ := h.s s hs
    rw [h3]
    refine Nat.le_trans (lasts_len q) ?_
    rw [h2.length]
    exact Nat.le_trans (smp_len _ _) hl
end Go.Proofs.YtoooaipbkkiefaaGreatDoor
