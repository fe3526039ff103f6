/- The reference's store on the way. -/
import Derived.Test.YtoooaipbkkiefaaGreatDoorNewS
namespace Go.Proofs.YtoooaipbkkiefaaGreatDoor
open Go.RowKit
set_option maxRecDepth 100000
set_option maxHeartbeats 2000000

structure RSt (w W : World) (S : Nat) (v : Value) (cs : List Sc) (gs : List Se) : Prop where
  g : Gr w W
  hS : w.heap.size ≤ S
  s : W.heap[S]? = some (.cells #[v] 98 (0, 0))
  row : OwnC W w.heap.size v cs
  len : cs.length = gs.length
  rd : ∀ (k : Nat) (c : Sc) (s : Se), cs[k]? = some c → gs[k]? = some s → LabV W c.1 s.1 ∧ OwnP W w.heap.size c.2.v s.2
  off : ∀ (k : Nat) (c : Sc) (s : Se), cs[k]? = some c → gs[k]? = some s → 0 < s.1.length → ∀ b, c.1.v.ownBlock = some b → v.ownBlock ≠ some b
section
variable {w W W' : World} {S : Nat} {v : Value} {cs : List Sc} {gs : List Se}
theorem RSt.gr (h : RSt w W S v cs gs) (g : Gr W W') : RSt w W' S v cs gs :=
  ⟨h.g.trans g, h.hS, (g.b.block S (Array.getElem?_eq_some_iff.1 h.s).1).trans h.s, h.row.gr g, h.len, fun k c s hc hs => ⟨(h.rd k c s hc hs).1.gr g, (h.rd k c s hc hs).2.gr g⟩, h.off⟩
/-- labels do not lie in the store's own block -/
theorem LabV.notS {x : List Lb} {sl : Sl} {T : TypeId} {u : Value} (h : LabV W sl x) (hs : W.heap[S]? = some (.cells #[u] T (0, 0))) (hu : ∀ s, u ≠ .string s) (h0 : 0 < x.length) : sl.v.ownBlock ≠ some S := by
  intro e
  obtain ⟨b, o, e2, hc⟩ := h.2 h0
  have : b = S := by unfold Sl.v at e; rw [e2] at e; simpa [Value.ownBlock] using e
  subst this
  have h1 := (hc 0 _ (List.getElem?_eq_getElem h0)).1
  rw [cell_of_row W b (o + 0 * 2) _ _ _ hs] at h1
  rcases Nat.eq_zero_or_pos (o + 0 * 2) with e0 | e0
  · rw [e0] at h1
    simp at h1
    exact hu _ h1
  · obtain ⟨n, hn⟩ : ∃ n, o + 0 * 2 = n + 1 := ⟨o + 0 * 2 - 1, by omega⟩
    rw [hn] at h1
    simp at h1
theorem Own2.not_string {α : Type} {enc : α → List Value} {T : TypeId} {B : Nat} {l : List α} (h : Own2 enc T W B v l) : ∀ s, v ≠ .string s := by
  intro s e
  rcases h.2 with ⟨e2, -⟩ | ⟨g, cap, cur, e2, -⟩ <;> (rw [e] at e2; cases e2)
theorem Own2.notS {α : Type} {enc : α → List Value} {T T' : TypeId} {B : Nat} {u u' : Value} {l : List α} (h : Own2 enc T W B u l) (hs : W.heap[S]? = some (.cells #[u'] T' (0, 0))) (hT : T ≠ T') : u.ownBlock = none ∨ u.ownBlock ≠ some S := by
  by_cases e : u.ownBlock = none
  · exact .inl e
  · refine .inr fun e2 => ?_
    obtain ⟨g, cap, cur, rfl, hg⟩ := h.heap e
    simp only [Value.ownBlock, Option.some.injEq] at e2
    subst e2
    rw [hs] at hg
    injection hg with hg
    injection hg with _ h2 _
    exact hT h2.symm
/-- what is read of series i -/
theorem RSt.face (h : RSt w W S v cs gs) {i : Nat} {c : Sc} {s : Se} (hc : cs[i]? = some c) (hs : gs[i]? = some s) :
    ∃ g cap a2 c2 a1 c1, v = .slice (some ⟨g, 0, none⟩) cs.length cap ∧ cs.length ≤ cap ∧ cap ≤ maxLen ∧ c.2.v = .slice a2 s.2.length c2 ∧ s.2.length ≤ c2 ∧ c2 ≤ maxLen ∧ At2 encP W a2 s.2 ∧ c.1.v = .slice a1 s.1.length c1 ∧ LabsAt W a1 s.1 ∧
      W.cell? ⟨g, i * 2, none⟩ = some (.slice a1 s.1.length c1) ∧ W.cell? ⟨g, i * 2 + 1, none⟩ = some (.slice a2 s.2.length c2) ∧ g < W.heap.size := by
  have hi := (List.getElem?_eq_some_iff.1 hc).1
  obtain ⟨A0, c0, rfl, hat, h1, h2, hA⟩ := h.row.form (fun _ => rfl)
  obtain ⟨g, rfl, hB⟩ := hA (by omega)
  obtain ⟨hl, hp⟩ := h.rd i c s hc hs
  obtain ⟨a2, c2, e2, hat2, h3, h4, -⟩ := hp.form (fun _ => rfl)
  obtain ⟨b, o, e, hcells⟩ := hat (by omega)
  injection e with e; injection e with e1 e2'; subst e1; subst e2'
  obtain ⟨d1, d2⟩ := hcells i c hc _ _ rfl
  rw [Nat.zero_add] at d1 d2
  have el : c.1.v = .slice c.1.a s.1.length c.1.c := by unfold Sl.v; rw [hl.1]
  exact ⟨g, c0, a2, c2, c.1.a, c.1.c, rfl, h1, h2, e2, h3, h4, hat2, el, hl.2, by rw [← el]; exact d1, by rw [← e2]; exact d2, World.block_lt_of_cell? W _ d1⟩
/-- a series of new labels, in a new row -/
theorem RSt.ins (h : RSt w W S v cs gs) (i : Nat) (hi : i ≤ cs.length) {sl : Sl} {x : List Lb} (hx : LabV W sl x) (hg : Gr W W') {v' : Value} (ho : OwnC W' W.heap.size v' (cs.take i ++ (sl, ⟨none, 0, 0⟩) :: cs.drop i)) :
    RSt w (W'.setCell ⟨S, 0, none⟩ v') S v' (cs.take i ++ (sl, ⟨none, 0, 0⟩) :: cs.drop i) (gs.take i ++ (x, []) :: gs.drop i) := by
  have hSl : S < W.heap.size := (Array.getElem?_eq_some_iff.1 h.s).1
  have hs' : W'.heap[S]? = some (.cells #[v] 98 (0, 0)) := (hg.b.block S hSl).trans h.s
  have hst : W'.grownBy (W'.setCell ⟨S, 0, none⟩ v') (some S) := Only.setCell (Only.refl W' S) rfl _
  have hlen := h.len
  have hlt : ∀ {b : Nat}, v'.ownBlock = some b → W.heap.size ≤ b := fun hb => (ho.lt hb).1
  have hnS : v'.ownBlock = none ∨ v'.ownBlock ≠ some S := by
    by_cases e : v'.ownBlock = none
    · exact .inl e
    · exact .inr fun e2 => by have := hlt e2; omega
  have sp : ∀ {k : Nat} {c : Sc} {s : Se}, (cs.take i ++ (sl, (⟨none, 0, 0⟩ : Sl)) :: cs.drop i)[k]? = some c → (gs.take i ++ (x, ([] : List Sm)) :: gs.drop i)[k]? = some s → (∃ j, cs[j]? = some c ∧ gs[j]? = some s) ∨ c = (sl, ⟨none, 0, 0⟩) ∧ s = (x, []) := fun {k c s} hc hs => by
    have e1 : (cs.take i).length = i := by simp; omega
    have e2 : (gs.take i).length = i := by simp; omega
    rcases Nat.lt_trichotomy k i with hk | hk | hk
    · rw [List.getElem?_append_left (by omega), List.getElem?_take_of_lt hk] at hc hs
      exact .inl ⟨k, hc, hs⟩
    · subst hk
      rw [List.getElem?_append_right (by omega), e1] at hc
      rw [List.getElem?_append_right (by omega), e2] at hs
      simp at hc hs
      exact .inr ⟨hc.symm, hs.symm⟩
    · rw [List.getElem?_append_right (by omega), e1] at hc
      rw [List.getElem?_append_right (by omega), e2] at hs
      obtain ⟨j, hj⟩ : ∃ j, k - i = j + 1 := ⟨k - i - 1, by omega⟩
      rw [hj, List.getElem?_cons_succ, List.getElem?_drop] at hc hs
      exact .inl ⟨_, hc, hs⟩
  refine ⟨(h.g.trans hg).only hst h.hS, h.hS, ?_, (ho.mono h.g.size).kept hst hnS, ?_, fun k c s hc hs => ?_, fun k c s hc hs h0 b hb => ?_⟩
  · have := heap_setCell_same W' S 0 _ _ v' hs'
    simpa using this
  · simp; omega
  · rcases sp hc hs with ⟨j, hc, hs⟩ | ⟨rfl, rfl⟩
    · obtain ⟨a1, a2⟩ := (h.gr hg).rd j c s hc hs
      exact ⟨a1.only hst (fun h0 b hb e => a1.notS hs' h.row.not_string h0 (by rw [hb, ← e])), a2.kept hst (a2.notS hs' (by decide))⟩
    · have a1 := hx.gr hg
      exact ⟨a1.only hst (fun h0 b hb e => a1.notS hs' h.row.not_string h0 (by rw [hb, ← e])), Own2.nil _ _⟩
  · have key : b < W.heap.size := by
      rcases sp hc hs with ⟨j, hc, hs⟩ | ⟨rfl, rfl⟩
      · exact (h.rd j c s hc hs).1.lt h0 hb
      · exact hx.lt h0 hb
    intro e
    have := hlt e
    omega
/-- a series' samples are another row's -/
theorem RSt.set (h : RSt w W S v cs gs) {i : Nat} {c : Sc} {s : Se} (hc : cs[i]? = some c) (hs : gs[i]? = some s) (hg : Gr W W') {sl : Sl} {l : List Sm} (ho : OwnP W' w.heap.size sl.v l) :
    ∃ g, v.ownBlock = some g ∧ W'.cell? ⟨g, i * 2 + 1, none⟩ = some c.2.v ∧ W'.frozen? ⟨g, i * 2 + 1, none⟩ = false ∧ RSt w (W'.setCell ⟨g, i * 2 + 1, none⟩ sl.v) S v (cs.set i (c.1, sl)) (gs.set i (s.1, l)) := by
  have hi := (List.getElem?_eq_some_iff.1 hc).1
  have h' := h.gr hg
  have hlen := h.len
  rcases h'.row.2 with ⟨-, e0⟩ | ⟨g, cap, cur, rfl, hgb, hgg, hnc, hm, hcs, htk⟩
  · omega
  have hw : W'.ownsRow w.heap.size 87 2 (.slice (some ⟨g, 0, none⟩) cs.length cap) cs.length (cs.flatMap encS) := h'.row
  obtain ⟨f1, f2⟩ := flat2_get encS (fun _ => rfl) cs i c hc
  have hcell := hw.cellAt (i * 2 + 1) (by omega)
  rw [f2] at hcell
  have hst := hw.stored (i * 2 + 1) sl.v
  have hflat : (cs.flatMap encS).set (i * 2 + 1) sl.v = (cs.set i (c.1, sl)).flatMap encS := by
    have gen : ∀ (l : List Sc) (i : Nat) (c : Sc), l[i]? = some c → (l.flatMap encS).set (i * 2 + 1) sl.v = (l.set i (c.1, sl)).flatMap encS := by
      intro l
      induction l with
      | nil => intro i c hc; simp at hc
      | cons y r ih =>
        intro i c hc
        cases i with
        | zero =>
          obtain rfl : y = c := by simpa using hc
          rfl
        | succ i =>
          have := ih i c (by simpa using hc)
          rw [List.flatMap_cons, List.set_cons_succ, List.flatMap_cons, ← this, List.set_append_right _ _ (by simp [encS]; omega)]
          congr 2
          simp [encS]; omega
    exact gen cs i c hc
  have hsz : W'.grownBy (W'.setCell ⟨g, i * 2 + 1, none⟩ sl.v) (some g) := Only.setCell (Only.refl W' g) rfl _
  have hgS : g ≠ S := by
    rintro rfl
    rw [h'.s] at hgg
    injection hgg with hgg
    injection hgg with _ h2 _
    exact absurd h2 (by decide)
  have hnp : ∀ {B : Nat} {u : Value} {l : List Sm}, OwnP W' B u l → u.ownBlock = none ∨ u.ownBlock ≠ some g := fun hu => own2_ne hu h'.row (by decide)
  have sp : ∀ {j : Nat} {d : Sc} {u : Se}, (cs.set i (c.1, sl))[j]? = some d → (gs.set i (s.1, l))[j]? = some u → j ≠ i ∧ cs[j]? = some d ∧ gs[j]? = some u ∨ d = (c.1, sl) ∧ u = (s.1, l) := fun {j d u} hd hu => by
    by_cases e : j = i
    · subst e
      rw [List.getElem?_set_self (by omega)] at hd hu
      exact .inr ⟨(Option.some.inj hd).symm, (Option.some.inj hu).symm⟩
    · rw [List.getElem?_set_ne (Ne.symm e)] at hd hu
      exact .inl ⟨e, hd, hu⟩
  have lab : ∀ {j : Nat} {d : Sc} {u : Se}, cs[j]? = some d → gs[j]? = some u → LabV (W'.setCell ⟨g, i * 2 + 1, none⟩ sl.v) d.1 u.1 := fun {j d u} hd hu => (h'.rd j d u hd hu).1.only hsz (fun h0 b hb e => h.off j d u hd hu h0 b hb (by rw [← e]; rfl))
  refine ⟨g, rfl, hcell, hw.frozenAt _, ⟨h'.g.only hsz hgb, h.hS, (hsz.block S (Array.getElem?_eq_some_iff.1 h'.s).1 (by simpa using Ne.symm hgS)).trans h'.s, ?_, by simp [hlen], fun j d u hd hu => ?_, fun j d u hd hu h0 b hb => ?_⟩⟩
  · show World.ownsRow _ _ _ _ _ _ _
    rw [List.length_set, ← hflat]
    exact hst.1
  · rcases sp hd hu with ⟨-, hd, hu⟩ | ⟨rfl, rfl⟩
    · exact ⟨lab hd hu, ((h'.rd j d u hd hu).2).kept hsz (hnp (h'.rd j d u hd hu).2)⟩
    · exact ⟨lab (d := c) (u := s) hc hs, ho.kept hsz (hnp ho)⟩
  · rcases sp hd hu with ⟨-, hd, hu⟩ | ⟨rfl, rfl⟩
    · exact h.off j d u hd hu h0 b hb
    · exact h.off i c s hc hs h0 b hb
end
/-! what put makes of the series -/
def putS (l : List Sm) (p : Sm) : List Sm := l.takeWhile (fun q => decide (q.1 < p.1)) ++ p :: (l.dropWhile (fun q => decide (q.1 < p.1))).drop (match l.dropWhile (fun q => decide (q.1 < p.1)) with
  | q :: _ => if q.1 = p.1 then 1 else 0
  | [] => 0)
def ltB (x : List Lb) (s : Se) : Bool := decide (cmpLs s.1 x < 0)
/-- the place of labels x -/
def plc (gs : List Se) (x : List Lb) : Nat := (gs.takeWhile (ltB x)).length
/-- with a series of labels x -/
def insG (gs : List Se) (x : List Lb) : List Se := match gs[plc gs x]? with
  | some s => if s.1 = x then gs else gs.take (plc gs x) ++ (x, []) :: gs.drop (plc gs x)
  | none => gs.take (plc gs x) ++ (x, []) :: gs.drop (plc gs x)
def putG (gs : List Se) (x : List Lb) (p : Sm) : List Se := match (insG gs x)[plc gs x]? with
  | some s => (insG gs x).set (plc gs x) (s.1, putS s.2 p)
  | none => insG gs x
theorem takeW_at {α : Type} {p : α → Bool} : ∀ {l : List α} {k : Nat} {x : α}, l[k]? = some x → (∀ (j : Nat) y, j < k → l[j]? = some y → p y = true) → p x = false → (l.takeWhile p).length = k
  | [], k, x, h, _, _ => by simp at h
  | y :: r, 0, x, h, _, hx => by
    obtain rfl : y = x := by simpa using h
    rw [List.takeWhile_cons_of_neg (by rw [hx]; simp)]; rfl
  | y :: r, k + 1, x, h, hp, hx => by
    have hy := hp 0 y (by omega) rfl
    rw [List.takeWhile_cons_of_pos hy, List.length_cons, takeW_at (k := k) (by simpa using h) (fun j z hj hz => hp (j + 1) z (by omega) (by simpa using hz)) hx]
theorem takeW_all {α : Type} {p : α → Bool} : ∀ {l : List α}, (∀ (j : Nat) y, j < l.length → l[j]? = some y → p y = true) → (l.takeWhile p).length = l.length
  | [], _ => rfl
  | y :: r, h => by
    rw [List.takeWhile_cons_of_pos (h 0 y (by simp) rfl), List.length_cons, List.length_cons, takeW_all fun j z hj hz => h (j + 1) z (by simp; omega) (by simpa using hz)]
theorem take_takeW {α : Type} (p : α → Bool) (l : List α) : l.takeWhile p = l.take (l.takeWhile p).length := by
  have h := List.takeWhile_append_dropWhile (p := p) (l := l)
  conv => rhs; rw [← h]
  rw [List.take_left']
  simp
theorem drop_dropW {α : Type} (p : α → Bool) (l : List α) : l.dropWhile p = l.drop (l.takeWhile p).length := by
  have h := List.takeWhile_append_dropWhile (p := p) (l := l)
  conv => rhs; rw [← h]
  rw [List.drop_left']
  simp
end Go.Proofs.YtoooaipbkkiefaaGreatDoor
