/- A scope in which the run jumps among labels: what holds at each label with so much fuel left; every way between labels takes some. -/
import Derived.ScopeJumps
import Derived.WalkMore
import Derived.WalkKit
import Derived.Test.YtnlfndhgdeapeaaAddOpt
import Derived.Test.YtnlfndhgdeapeaaBuild
import Derived.Test.YtnlfndhgdeapeaaMid
namespace Go.Proofs.Ytnlfndhgdeapeaa

/-- As Q; by a goto to a label: J of that label. -/
def jumps (J : Nat → Act → World → Prop) (Q : Exit → Act → World → Prop) : Exit → Act → World → Prop
  | .goto l, a, w => J l a w
  | e, a, w => Q e a w
section
variable {P : Program} {a : Act} {w : World} {Q : Exit → Act → World → Prop}
theorem jumps_goto (J : Nat → Act → World → Prop) (l : Nat) : jumps J Q (.goto l) a w = J l a w := rfl
theorem jumps_ret (J : Nat → Act → World → Prop) : jumps J Q .ret a w = Q .ret a w := rfl
theorem jumps_normal (J : Nat → Act → World → Prop) : jumps J Q .normal a w = Q .normal a w := rfl
theorem wp_scope_ghost {c : Code} (K : Nat → Nat → Act → World → Prop)
    (first : c.wp P (jumps (fun l a w => ∃ f, K f l a w) Q) a w)
    (pass : ∀ f l a w, K f l a w → ∃ rest, findLabel c l = some rest ∧ rest.wp P (jumps (fun l' a' w' => ∃ f', f' < f ∧ K f' l' a' w') Q) a w) : (Code.scope c).wp P Q a w := by
  intro b k cs
  have key : ∀ n l a w, K n l a w → ∃ rest, gotoIn l (.inScope c :: k) = some (.code rest :: .inScope c :: k) ∧ ∃ e a' w', Q e a' w' ∧ Arrives P (lone (b.at a (.code rest :: .inScope c :: k)) cs w) b k cs e a' w' := by
    intro n
    induction n using Nat.strongRecOn with
    | _ n ih =>
      intro l a w hK
      obtain ⟨rest, hf, hp⟩ := pass n l a w hK
      refine ⟨rest, by simp [gotoIn, hf], ?_⟩
      obtain ⟨e, a₁, w₁, hq, harr⟩ := hp b (.inScope c :: k) cs
      cases e with
      | normal => exact ⟨.normal, a₁, w₁, hq, Steps.trans harr (.one step_inScope)⟩
      | exit id => exact ⟨.exit id, a₁, w₁, hq, fun k' hk => harr k' (by simp [exitTo, hk])⟩
      | goto l' =>
        obtain ⟨f', hlt, hK'⟩ := hq
        obtain ⟨rest', hg', e₂, a₂, w₂, hq₂, harr₂⟩ := ih f' hlt l' a₁ w₁ hK'
        exact ⟨e₂, a₂, w₂, hq₂, .of_steps (harr _ hg') harr₂⟩
      | ret => exact ⟨_, a₁, w₁, hq, harr⟩
      | panic ch => exact ⟨_, a₁, w₁, hq, harr⟩
      | outgrown => exact ⟨_, a₁, w₁, hq, harr⟩
  obtain ⟨e, a₁, w₁, hq, harr⟩ := first b (.inScope c :: k) cs
  cases e with
  | normal => exact ⟨.normal, a₁, w₁, hq, .head step_scope (Steps.trans harr (.one step_inScope))⟩
  | exit id => exact ⟨.exit id, a₁, w₁, hq, fun k' hk => .head step_scope (harr k' (by simp [exitTo, hk]))⟩
  | goto l' =>
    obtain ⟨f, hK⟩ := hq
    obtain ⟨rest', hg', e₂, a₂, w₂, hq₂, harr₂⟩ := key f l' a₁ w₁ hK
    exact ⟨e₂, a₂, w₂, hq₂, .of_steps (.head step_scope (harr _ hg')) harr₂⟩
  | ret => exact ⟨_, a₁, w₁, hq, .of_steps (.one step_scope) harr⟩
  | panic ch => exact ⟨_, a₁, w₁, hq, .of_steps (.one step_scope) harr⟩
  | outgrown => exact ⟨_, a₁, w₁, hq, .of_steps (.one step_scope) harr⟩
theorem wp_skip_seq {r : Code} (h : r.wp P Q a w) : (Code.skip.seq r).wp P Q a w := by
  go_wp2
  exact h
/-- two labels: 1, and 0 that is fallen into -/
theorem wp_scope_two {c r0 r1 : Code} (K : Nat → Nat → Act → World → Prop) (hK : ∀ f l a w, K f l a w → l = 0 ∨ l = 1)
    (f0 : findLabel c 0 = some (Code.skip.seq r0)) (f1 : findLabel c 1 = some (Code.skip.seq r1))
    (p0 : ∀ f g a w, f ≤ g → K f 0 a w → r0.wp P (jumps (fun l' a' w' => ∃ f', f' < g ∧ K f' l' a' w') Q) a w)
    (p1 : (∀ f g a w, f ≤ g → K f 0 a w → r0.wp P (jumps (fun l' a' w' => ∃ f', f' < g ∧ K f' l' a' w') Q) a w) → ∀ f g a w, f ≤ g → K f 1 a w → r1.wp P (jumps (fun l' a' w' => ∃ f', f' < g ∧ K f' l' a' w') Q) a w)
    (first : (∀ f g a w, f ≤ g → K f 1 a w → r1.wp P (jumps (fun l' a' w' => ∃ f', f' < g ∧ K f' l' a' w') Q) a w) → ∃ g, c.wp P (jumps (fun l' a' w' => ∃ f', f' < g ∧ K f' l' a' w') Q) a w) : (Code.scope c).wp P Q a w := by
  obtain ⟨g, hg⟩ := first (p1 p0)
  refine wp_scope_ghost K ?_ fun f l a w h => ?_
  · intro b k cs
    obtain ⟨e, a₁, w₁, hq, harr⟩ := hg b k cs
    refine ⟨e, a₁, w₁, ?_, harr⟩
    cases e with
    | goto l =>
      obtain ⟨f', -, h⟩ := hq
      exact ⟨f', h⟩
    | normal => exact hq
    | exit id => exact hq
    | ret => exact hq
    | panic ch => exact hq
    | outgrown => exact hq
  · rcases hK f l a w h with rfl | rfl
    · exact ⟨_, f0, wp_skip_seq (p0 f f a w (Nat.le_refl _) h)⟩
    · exact ⟨_, f1, wp_skip_seq (p1 p0 f f a w (Nat.le_refl _) h)⟩
end
end Go.Proofs.Ytnlfndhgdeapeaa
/- enter: a mirror of the program's own text; what memory holds. -/
namespace Go.Proofs.Ytnlfndhgdeapeaa
open Go.RowKit
set_option maxRecDepth 100000
set_option maxHeartbeats 1000000

def stAt (S : List St) (s : Nat) : St := S.getD s endSt
/-- E: of each state the turn behind that of its last entering; L: where to go on, the last one first; cur: the state at hand -/
def runF (S : List St) (T : Nat) : Nat → List Nat → List Nat → List Nat → Option Nat → List Nat × List Nat
  | 0, E, _, set, _ => (E, set)
  | f + 1, E, L, set, some s => if T < E.getD s 0 then runF S T f E L set none else if (stAt S s).fork then runF S T f (E.set s (T + 1)) (L ++ [(stAt S s).ot]) set (some (stAt S s).nx) else runF S T f (E.set s (T + 1)) L (set ++ [s]) none
  | f + 1, E, L, set, none => match L.getLast? with
    | none => (E, set)
    | some n => runF S T f E L.dropLast set (some n)
/-- how many were not entered -/
def unent (T : Nat) (E : List Nat) : Nat := (E.filter (fun x => decide (x ≤ T))).length
theorem unent_set {T : Nat} : ∀ {E : List Nat} {s : Nat}, s < E.length → E.getD s 0 ≤ T → unent T (E.set s (T + 1)) + 1 = unent T E
  | [], s, h, _ => by simp at h
  | x :: r, 0, _, h => by
    have hx : x ≤ T := by simpa using h
    unfold unent
    simp [hx]
  | x :: r, s + 1, h, hx => by
    have := unent_set (T := T) (E := r) (s := s) (by simpa using h) (by simpa using hx)
    unfold unent at this ⊢
    rw [List.set_cons_succ, List.filter_cons, List.filter_cons]
    split
    · simp only [List.length_cons]; omega
    · exact this
theorem unent_le (T : Nat) (E : List Nat) : unent T E ≤ E.length := List.length_filter_le _ _
def fuelOf (T : Nat) (E L : List Nat) (cur : Option Nat) : Nat := 4 * unent T E + 2 * L.length + (match cur with | some _ => 2 | none => 1)
theorem fuel_some (T : Nat) (E L : List Nat) (s : Nat) : fuelOf T E L (some s) = 4 * unent T E + 2 * L.length + 2 := rfl
theorem fuel_none (T : Nat) (E L : List Nat) : fuelOf T E L none = 4 * unent T E + 2 * L.length + 1 := rfl
/-- states whose ways lead to states -/
def StOk (S : List St) : Prop := ∀ s ∈ S, s.nx < S.length ∧ s.ot < S.length
theorem StOk.at {S : List St} (h : StOk S) {s : Nat} (hs : s < S.length) : (stAt S s).nx < S.length ∧ (stAt S s).ot < S.length := by
  unfold stAt
  rw [List.getD_eq_getElem?_getD, List.getElem?_eq_getElem hs]
  exact h _ (List.getElem_mem hs)
/-- a state's cells -/
theorem RowSt.cellsAt {W : World} {B : Nat} {v : Value} {S : List St} (h : RowSt W B v S) {s : Nat} (hs : s < S.length) : ∃ sb c, v = .slice (some ⟨sb, 0, none⟩) S.length c ∧ W.cell? ⟨sb, s * 7 + 4, none⟩ = some (.bool (stAt S s).fork) ∧ W.cell? ⟨sb, s * 7 + 5, none⟩ = some (.int .i64 (stAt S s).nx) ∧ W.cell? ⟨sb, s * 7 + 6, none⟩ = some (.int .i64 (stAt S s).ot) ∧ BsAt W sb (s * 7) (stAt S s).p := by
  obtain ⟨vs, h1, h2, h3⟩ := h
  rcases h2.2 with ⟨e, e2⟩ | ⟨sb, cap, cur, rfl, e2, e3, e4, e5, e6, e7⟩
  · omega
  have hx : vs[s]? = some (vs[s]'(by omega)) := List.getElem?_eq_getElem (by omega)
  have hS : S[s]? = some (stAt S s) := by
    unfold stAt
    rw [List.getD_eq_getElem?_getD, List.getElem?_eq_getElem hs]
    rfl
  have hst := h3 s _ _ hS hx
  have hc : ∀ j : Fin 7, W.cell? ⟨sb, s * 7 + j.val, none⟩ = some ((vs[s]'(by omega)) j) := fun j => by
    have h4 := cells7_get vs s _ j hx
    rw [← e7, List.getElem?_take_of_lt (by have := j.isLt; omega)] at h4
    refine (cell_of_row W sb _ cur _ (0, 0) e3).trans ?_
    simpa using h4
  have hf : ∀ j : Nat, W.frozen? ⟨sb, j, none⟩ = false := fun j => frozen_of_row W sb _ cur _ e3
  obtain ⟨u0, u1, u2, u3, ex, q0, q1, q2, q3⟩ := hst
  rw [ex] at hc
  refine ⟨sb, cap, rfl, hc 4, hc 5, hc 6, fun i hi => ?_⟩
  match i, hi with
  | 0, _ => exact ⟨u0, hc 0, hf _, q0⟩
  | 1, _ => exact ⟨u1, hc 1, hf _, q1⟩
  | 2, _ => exact ⟨u2, hc 2, hf _, q2⟩
  | 3, _ => exact ⟨u3, hc 3, hf _, q3⟩
/-- the run's block, its rows -/
structure EnSt (B R eb : Nat) (W : World) (S : List St) (T : Nat) (E L set : List Nat) (sv lv tv : Value) : Prop where
  r : W.heap[R]? = some (.cells #[sv, .slice (some ⟨eb, 0, none⟩) S.length S.length, lv, .int .i64 T] 75 (0, 0))
  s : RowSt W 0 sv S
  e : W.heap[eb]? = some (.cells (intC E).toArray 3 (0, 0))
  el : E.length = S.length
  l : RowI W B lv L
  t : RowI W B tv set
  ne : R ≠ eb
  sr : sv.ownBlock ≠ some R
  se : sv.ownBlock ≠ some eb
  sb : ∀ k, sv.ownBlock = some k → k < B
  lr : lv.ownBlock ≠ some R
  le : lv.ownBlock ≠ some eb
  tr : tv.ownBlock ≠ some R
  te : tv.ownBlock ≠ some eb
  lt : ∀ k, lv.ownBlock = some k → tv.ownBlock ≠ some k
  br : B ≤ R
  be : B ≤ eb
/-- what enter may turn -/
structure EnStep (R eb : Nat) (W : World) (lv tv : Value) (W' : World) (lv' tv' : Value) : Prop where
  os : W'.os = W.os
  tape : W'.tape = W.tape
  output : W'.output = W.output
  size : W.heap.size ≤ W'.heap.size
  block : ∀ c, c < W.heap.size → c ≠ R → c ≠ eb → lv.ownBlock ≠ some c → tv.ownBlock ≠ some c → W'.heap[c]? = W.heap[c]?
  lo : lv'.ownBlock = lv.ownBlock ∨ ∃ k, lv'.ownBlock = some k ∧ W.heap.size ≤ k
  to : tv'.ownBlock = tv.ownBlock ∨ ∃ k, tv'.ownBlock = some k ∧ W.heap.size ≤ k
theorem EnStep.refl (R eb : Nat) (W : World) (lv tv : Value) : EnStep R eb W lv tv W lv tv := ⟨rfl, rfl, rfl, Nat.le_refl _, fun _ _ _ _ _ _ => rfl, .inl rfl, .inl rfl⟩
theorem own_trans {v v' v'' : Value} {n m : Nat} (hnm : n ≤ m) (h : v'.ownBlock = v.ownBlock ∨ ∃ k, v'.ownBlock = some k ∧ n ≤ k) (g : v''.ownBlock = v'.ownBlock ∨ ∃ k, v''.ownBlock = some k ∧ m ≤ k) : v''.ownBlock = v.ownBlock ∨ ∃ k, v''.ownBlock = some k ∧ n ≤ k := by
  rcases g with e | ⟨k, e, hk⟩
  · rw [e]; exact h
  · exact .inr ⟨k, e, by omega⟩
theorem own_ne {v v' : Value} {n c : Nat} (h : v'.ownBlock = v.ownBlock ∨ ∃ k, v'.ownBlock = some k ∧ n ≤ k) (hc : c < n) (hv : v.ownBlock ≠ some c) : v'.ownBlock ≠ some c := by
  rcases h with e | ⟨k, e, hk⟩
  · rw [e]; exact hv
  · rw [e]; intro e2; have := Option.some.inj e2; omega
theorem EnStep.trans {R eb : Nat} {W W' W'' : World} {lv tv lv' tv' lv'' tv'' : Value} (h : EnStep R eb W lv tv W' lv' tv') (k : EnStep R eb W' lv' tv' W'' lv'' tv'') : EnStep R eb W lv tv W'' lv'' tv'' :=
  ⟨k.os.trans h.os, k.tape.trans h.tape, k.output.trans h.output, Nat.le_trans h.size k.size, fun c hc h1 h2 h3 h4 => (k.block c (Nat.lt_of_lt_of_le hc h.size) h1 h2 (own_ne h.lo hc h3) (own_ne h.to hc h4)).trans (h.block c hc h1 h2 h3 h4), own_trans h.size h.lo k.lo, own_trans h.size h.to k.to⟩
theorem EnStep.gr {R eb : Nat} {W W' W'' : World} {lv tv lv' tv' : Value} (h : EnStep R eb W lv tv W' lv' tv') (k : Gr W' W'') : EnStep R eb W lv tv W'' lv' tv' :=
  ⟨k.b.os.trans h.os, k.b.tape.trans h.tape, k.b.output.trans h.output, Nat.le_trans h.size k.size, fun c hc h1 h2 h3 h4 => (k.b.block c (Nat.lt_of_lt_of_le hc h.size)).trans (h.block c hc h1 h2 h3 h4), h.lo, h.to⟩
theorem EnSt.lts {B R eb : Nat} {W : World} {S : List St} {T : Nat} {E L set : List Nat} {sv lv tv : Value} (h : EnSt B R eb W S T E L set sv lv tv) : R < W.heap.size ∧ eb < W.heap.size :=
  ⟨(Array.getElem?_eq_some_iff.1 h.r).1, (Array.getElem?_eq_some_iff.1 h.e).1⟩
theorem EnSt.gr {B R eb : Nat} {W W' : World} {S : List St} {T : Nat} {E L set : List Nat} {sv lv tv : Value} (h : EnSt B R eb W S T E L set sv lv tv) (k : Gr W W') : EnSt B R eb W' S T E L set sv lv tv :=
  { h with
    r := (k.b.block _ h.lts.1).trans h.r
    s := h.s.keep fun c e => k.b.block c (h.s.lt c e).2
    e := (k.b.block _ h.lts.2).trans h.e
    l := h.l.keep fun c e => k.b.block c (h.l.lt c e).2
    t := h.t.keep fun c e => k.b.block c (h.t.lt c e).2 }
/-- a state is marked as entered -/
theorem EnSt.mark {B R eb : Nat} {W : World} {S : List St} {T : Nat} {E L set : List Nat} {sv lv tv : Value} (h : EnSt B R eb W S T E L set sv lv tv) (s m : Nat) : EnSt B R eb (W.setCell ⟨eb, s, none⟩ (.int .i64 m)) S T (E.set s m) L set sv lv tv :=
  { h with
    r := (Below.heap_setCell W _ _ R h.ne).trans h.r
    s := h.s.keep fun c e => Below.heap_setCell W _ _ c (by rintro rfl; exact h.se e)
    e := by
      have := heap_setCell_same W eb s _ _ (.int .i64 m) h.e
      rw [this]
      congr 2
      apply Array.toList_inj.1
      simp [intC]
    el := by simp [h.el]
    l := h.l.keep fun c e => Below.heap_setCell W _ _ c (by rintro rfl; exact h.le e)
    t := h.t.keep fun c e => Below.heap_setCell W _ _ c (by rintro rfl; exact h.te e) }
theorem EnStep.mark {R eb : Nat} {W : World} {lv tv : Value} (s : Nat) (u : Value) : EnStep R eb W lv tv (W.setCell ⟨eb, s, none⟩ u) lv tv :=
  ⟨rfl, rfl, rfl, by simp [World.setCell], fun c _ _ h2 _ _ => Below.heap_setCell W _ _ c h2, .inl rfl, .inl rfl⟩
/-- the row of later ones is laid anew -/
theorem EnSt.later {B R eb : Nat} {W : World} {S : List St} {T : Nat} {E L set : List Nat} {sv lv tv : Value} (h : EnSt B R eb W S T E L set sv lv tv) {L' : List Nat} {lv' : Value} (hl : RowI W B lv' L') (h1 : lv'.ownBlock ≠ some R) (h2 : lv'.ownBlock ≠ some eb) (h3 : ∀ k, lv'.ownBlock = some k → tv.ownBlock ≠ some k) :
    EnSt B R eb (W.setCell ⟨R, 2, none⟩ lv') S T E L' set sv lv' tv :=
  { h with
    r := by
      have := heap_setCell_same W R 2 _ _ lv' h.r
      simpa using this
    s := h.s.keep fun c e => Below.heap_setCell W _ _ c (by rintro rfl; exact h.sr e)
    e := (Below.heap_setCell W _ _ eb (fun e => h.ne e.symm)).trans h.e
    l := hl.keep fun c e => Below.heap_setCell W _ _ c (by rintro rfl; exact h1 e)
    t := h.t.keep fun c e => Below.heap_setCell W _ _ c (by rintro rfl; exact h.tr e)
    lr := h1
    le := h2
    lt := h3 }
theorem EnStep.later {R eb : Nat} {W : World} {lv tv : Value} (u lv' : Value) (ho : lv'.ownBlock = lv.ownBlock) : EnStep R eb W lv tv (W.setCell ⟨R, 2, none⟩ u) lv' tv :=
  ⟨rfl, rfl, rfl, by simp [World.setCell], fun c _ h1 _ _ _ => Below.heap_setCell W _ _ c h1, .inl ho, .inl rfl⟩
/-- an append to the later ones -/
theorem EnSt.push {B R eb : Nat} {W W' : World} {S : List St} {T : Nat} {E L set : List Nat} {sv lv lv' tv : Value} (h : EnSt B R eb W S T E L set sv lv tv) {L' : List Nat} (g : W.grownBy W' lv.ownBlock) (hl : RowI W' B lv' L') (ho : lv'.ownBlock = lv.ownBlock ∨ lv'.ownBlock = some W.heap.size) :
    EnSt B R eb (W'.setCell ⟨R, 2, none⟩ lv') S T E L' set sv lv' tv ∧ EnStep R eb W lv tv (W'.setCell ⟨R, 2, none⟩ lv') lv' tv ∧ W'.heap[R]? = some (.cells #[sv, .slice (some ⟨eb, 0, none⟩) S.length S.length, lv, .int .i64 T] 75 (0, 0)) := by
  have hlts := h.lts
  have ho2 : lv'.ownBlock = lv.ownBlock ∨ ∃ k, lv'.ownBlock = some k ∧ W.heap.size ≤ k := ho.imp id fun e => ⟨_, e, Nat.le_refl _⟩
  have hR := (g.block R hlts.1 (fun e => h.lr e.symm)).trans h.r
  have hlr := own_ne ho2 hlts.1 h.lr
  have key : ∀ c, c ≠ R → (W'.setCell ⟨R, 2, none⟩ lv').heap[c]? = W'.heap[c]? := fun c hc => Below.heap_setCell W' _ _ c hc
  refine ⟨{ h with
    r := by
      have := heap_setCell_same W' R 2 _ _ lv' hR
      simpa using this
    s := h.s.keep fun c e => (key c (by rintro rfl; exact h.sr e)).trans (g.block c (h.s.lt c e).2 (fun e2 => by have := h.sb c e; have := (h.l.lt c e2.symm).1; omega))
    e := ((key eb (fun e => h.ne e.symm)).trans (g.block _ hlts.2 (fun e => h.le e.symm))).trans h.e
    l := hl.keep fun c e => key c (by rintro rfl; exact hlr e)
    t := h.t.keep fun c e => (key c (by rintro rfl; exact h.tr e)).trans (g.block c (h.t.lt c e).2 (fun e2 => h.lt c e2.symm e))
    lr := hlr
    le := own_ne ho2 hlts.2 h.le
    lt := fun k e e2 => by
      rcases ho with e3 | e3
      · rw [e3] at e; exact h.lt k e e2
      · rw [e3] at e; have := Option.some.inj e; have := (h.t.lt k e2).2; omega }, ⟨g.os, g.tape, g.output, by simpa [World.setCell] using g.size, fun c hc h1 h2 h3 h4 => (key c h1).trans (g.block c hc (fun e => h3 e.symm)), ho2, .inl rfl⟩, hR⟩
/-- an append to the set -/
theorem EnSt.put {B R eb : Nat} {W W' : World} {S : List St} {T : Nat} {E L set : List Nat} {sv lv tv tv' : Value} (h : EnSt B R eb W S T E L set sv lv tv) {set' : List Nat} (g : W.grownBy W' tv.ownBlock) (hl : RowI W' B tv' set') (ho : tv'.ownBlock = tv.ownBlock ∨ tv'.ownBlock = some W.heap.size) :
    EnSt B R eb W' S T E L set' sv lv tv' ∧ EnStep R eb W lv tv W' lv tv' := by
  have hlts := h.lts
  have ho2 : tv'.ownBlock = tv.ownBlock ∨ ∃ k, tv'.ownBlock = some k ∧ W.heap.size ≤ k := ho.imp id fun e => ⟨_, e, Nat.le_refl _⟩
  refine ⟨{ h with
    r := (g.block R hlts.1 (fun e => h.tr e.symm)).trans h.r
    s := h.s.keep fun c e => g.block c (h.s.lt c e).2 (fun e2 => by have := h.sb c e; have := (h.t.lt c e2.symm).1; omega)
    e := (g.block _ hlts.2 (fun e => h.te e.symm)).trans h.e
    l := h.l.keep fun c e => g.block c (h.l.lt c e).2 (fun e2 => h.lt c e e2.symm)
    t := hl
    tr := own_ne ho2 hlts.1 h.tr
    te := own_ne ho2 hlts.2 h.te
    lt := fun k e e2 => by
      rcases ho with e3 | e3
      · rw [e3] at e2; exact h.lt k e e2
      · rw [e3] at e2; have := Option.some.inj e2; have := (h.l.lt k e).2; omega }, ⟨g.os, g.tape, g.output, g.size, fun c hc h1 h2 h3 h4 => g.block c hc (fun e => h4 e.symm), .inl rfl, ho2⟩⟩
/-- the last of the later ones is taken -/
theorem EnSt.pop {B R eb : Nat} {W : World} {S : List St} {T : Nat} {E L set : List Nat} {sv tv : Value} {A : Option Addr} {m c : Nat} (h : EnSt B R eb W S T E L set sv (.slice A m c) tv) (hL : L ≠ []) :
    EnSt B R eb (W.setCell ⟨R, 2, none⟩ (.slice A (L.length - 1) c)) S T E L.dropLast set sv (.slice A (L.length - 1) c) tv ∧ EnStep R eb W (.slice A m c) tv (W.setCell ⟨R, 2, none⟩ (.slice A (L.length - 1) c)) (.slice A (L.length - 1) c) tv := by
  have h0 : 0 < L.length := by cases L with | nil => exact absurd rfl hL | cons => simp
  have ho : (Value.slice A (L.length - 1) c).ownBlock = (Value.slice A m c).ownBlock := by cases A <;> rfl
  have ht := h.l.take (L.length - 1) (by omega) h0
  rw [← List.dropLast_eq_take] at ht
  exact ⟨h.later ht (by rw [ho]; exact h.lr) (by rw [ho]; exact h.le) (fun k e => h.lt k (by rw [← ho]; exact e)), EnStep.later _ _ ho⟩
theorem EnSt.cells {B R eb : Nat} {W : World} {S : List St} {T : Nat} {E L set : List Nat} {sv lv tv : Value} (h : EnSt B R eb W S T E L set sv lv tv) : W.cell? ⟨R, 0, none⟩ = some sv ∧ W.cell? ⟨R, 1, none⟩ = some (.slice (some ⟨eb, 0, none⟩) S.length S.length) ∧ W.cell? ⟨R, 2, none⟩ = some lv ∧ W.cell? ⟨R, 3, none⟩ = some (.int .i64 T) ∧ W.frozen? ⟨R, 2, none⟩ = false ∧ W.frozen? ⟨R, 3, none⟩ = false :=
  ⟨cell_of_row W R 0 _ _ (0, 0) h.r, cell_of_row W R 1 _ _ (0, 0) h.r, cell_of_row W R 2 _ _ (0, 0) h.r, cell_of_row W R 3 _ _ (0, 0) h.r, frozen_of_row W R 2 _ _ h.r, frozen_of_row W R 3 _ _ h.r⟩
theorem EnSt.ent {B R eb : Nat} {W : World} {S : List St} {T : Nat} {E L set : List Nat} {sv lv tv : Value} (h : EnSt B R eb W S T E L set sv lv tv) {s : Nat} (hs : s < S.length) : W.cell? ⟨eb, s, none⟩ = some (.int .i64 (E.getD s 0 : Nat)) ∧ W.frozen? ⟨eb, s, none⟩ = false := by
  refine ⟨(cell_of_row W eb s _ _ (0, 0) h.e).trans ?_, frozen_of_row W eb s _ _ h.e⟩
  have hl : s < E.length := by rw [h.el]; exact hs
  rw [List.getD_eq_getElem?_getD, List.getElem?_eq_getElem hl]
  simp [intC, hl]
end Go.Proofs.Ytnlfndhgdeapeaa
/- Match: a mirror of the program's own text. -/
namespace Go.Proofs.Ytnlfndhgdeapeaa
open Go.RowKit
set_option maxRecDepth 100000
set_option maxHeartbeats 1000000

/-- enter, with fuel enough -/
def enterS (S : List St) (T : Nat) (E set : List Nat) (s : Nat) : List Nat × List Nat := runF S T (4 * S.length + 3) E [] set (some s)
/-- one byte read in one state -/
def byteS (S : List St) (T : Nat) (c : Nat) (r : List Nat × List Nat) (s : Nat) : List Nat × List Nat := if (stAt S s).p c then enterS S T r.1 r.2 (stAt S s).nx else r
def turnS (S : List St) (T : Nat) (c : Nat) (E now : List Nat) : List Nat × List Nat := now.foldl (byteS S T c) (E, [])
def goS (S : List St) : List UInt8 → Nat → List Nat → List Nat → List Nat
  | [], _, _, now => now
  | c :: r, T, E, now => if now.isEmpty then now else goS S r (T + 1) (turnS S (T + 1) c.toNat E now).1 (turnS S (T + 1) c.toNat E now).2
def matchS (p : List St × Nat) (b : List UInt8) : Bool :=
  if p.1.isEmpty then false else (goS p.1 b 0 (enterS p.1 0 (List.replicate p.1.length 0) [] p.2).1 (enterS p.1 0 (List.replicate p.1.length 0) [] p.2).2).contains 0
theorem goS_end (S : List St) (r : List UInt8) (T : Nat) (E now : List Nat) (h : r = [] ∨ now = []) : goS S r T E now = now := by
  rcases h with rfl | rfl
  · rfl
  · cases r <;> simp [goS]
theorem goS_step (S : List St) (c : UInt8) (r : List UInt8) (T : Nat) (E now : List Nat) (h : now ≠ []) : goS S (c :: r) T E now = goS S r (T + 1) (turnS S (T + 1) c.toNat E now).1 (turnS S (T + 1) c.toNat E now).2 := by
  cases now with
  | nil => exact absurd rfl h
  | cons => simp [goS]
/-- what enter keeps -/
theorem runF_keeps (S : List St) (hok : StOk S) (T : Nat) : ∀ (f : Nat) (E L set : List Nat) (cur : Option Nat), E.length = S.length → (∀ s, cur = some s → s < S.length) → (∀ x ∈ L, x < S.length) → (∀ x ∈ set, x < S.length) → set.length + unent T E ≤ S.length →
    (runF S T f E L set cur).1.length = S.length ∧ (∀ x ∈ (runF S T f E L set cur).2, x < S.length) ∧ (runF S T f E L set cur).2.length + unent T (runF S T f E L set cur).1 ≤ S.length
  | 0, E, L, set, cur, hE, hc, hL, hs, hu => by unfold runF; exact ⟨hE, hs, hu⟩
  | f + 1, E, L, set, some s, hE, hc, hL, hs, hu => by
    unfold runF
    have hsl := hc s rfl
    split
    · exact runF_keeps S hok T f E L set none hE (fun s e => by cases e) hL hs hu
    · rename_i hT
      have hun := unent_set (T := T) (E := E) (s := s) (by omega) (by omega)
      split
      · exact runF_keeps S hok T f _ _ set _ (by simp [hE]) (fun x e => by cases e; exact (hok.at hsl).1) (fun x hx => (List.mem_append.1 hx).elim (hL x) (fun e => by simp at e; rw [e]; exact (hok.at hsl).2)) hs (by omega)
      · exact runF_keeps S hok T f _ L _ none (by simp [hE]) (fun s e => by cases e) hL (fun x hx => (List.mem_append.1 hx).elim (hs x) (fun e => by simp at e; rw [e]; exact hsl)) (by simp; omega)
  | f + 1, E, L, set, none, hE, hc, hL, hs, hu => by
    unfold runF
    split
    · exact ⟨hE, hs, hu⟩
    · rename_i n hn
      exact runF_keeps S hok T f E _ set _ hE (fun x e => by cases e; exact hL _ (List.mem_of_getLast? hn)) (fun x hx => hL x (List.dropLast_subset _ hx)) hs hu
/-- what a turn keeps -/
structure TurnOk (S : List St) (T : Nat) (r : List Nat × List Nat) : Prop where
  e : r.1.length = S.length
  s : ∀ x ∈ r.2, x < S.length
  u : r.2.length + unent T r.1 ≤ S.length
theorem enterS_ok {S : List St} (hok : StOk S) {T : Nat} {E set : List Nat} {s : Nat} (h : TurnOk S T (E, set)) (hs : s < S.length) : TurnOk S T (enterS S T E set s) := by
  obtain ⟨h1, h2, h3⟩ := runF_keeps S hok T (4 * S.length + 3) E [] set (some s) h.e (fun x e => by cases e; exact hs) (fun x hx => by cases hx) h.s h.u
  exact ⟨h1, h2, h3⟩
theorem byteS_ok {S : List St} (hok : StOk S) {T c : Nat} {r : List Nat × List Nat} {s : Nat} (h : TurnOk S T r) (hs : s < S.length) : TurnOk S T (byteS S T c r s) := by
  unfold byteS
  split
  · exact enterS_ok hok h (hok.at hs).1
  · exact h
theorem turn0_ok {S : List St} {T : Nat} {E : List Nat} (hE : E.length = S.length) : TurnOk S T (E, []) := ⟨hE, fun x hx => (by cases hx), by have := unent_le T E; simp only [List.length_nil]; omega⟩
theorem fold_ok {S : List St} (hok : StOk S) {T c : Nat} : ∀ {now : List Nat} {r : List Nat × List Nat}, TurnOk S T r → (∀ x ∈ now, x < S.length) → TurnOk S T (now.foldl (byteS S T c) r)
  | [], r, h, _ => h
  | s :: now, r, h, hn => by
    rw [List.foldl_cons]
    exact fold_ok (now := now) hok (byteS_ok hok h (hn s (by simp))) (fun x hx => hn x (by simp [hx]))
end Go.Proofs.Ytnlfndhgdeapeaa
/- Which texts a program's states accept: what a turn reaches, and what Match tells. No program in it. -/
namespace Go.Proofs.Ytnlfndhgdeapeaa
open Go.RowKit
set_option maxRecDepth 100000
set_option maxHeartbeats 1000000

/-- forks alone -/
inductive Rch (S : List St) : Nat → Nat → Prop
  | here (s : Nat) : Rch S s s
  | nx {s x : Nat} : (stAt S s).fork = true → Rch S (stAt S s).nx x → Rch S s x
  | ot {s x : Nat} : (stAt S s).fork = true → Rch S (stAt S s).ot x → Rch S s x
theorem Rch.trans {S : List St} {a b c : Nat} (h : Rch S a b) (g : Rch S b c) : Rch S a c := by
  induction h with
  | here s => exact g
  | nx hf _ ih => exact .nx hf (ih g)
  | ot hf _ ih => exact .ot hf (ih g)
/-- accepts, in so many steps -/
inductive Acc (S : List St) : Nat → List UInt8 → Nat → Prop
  | fin : Acc S 0 [] 0
  | byte {s : Nat} {c : UInt8} {r : List UInt8} {m : Nat} : (stAt S s).fork = false → (stAt S s).p c.toNat = true → Acc S (stAt S s).nx r m → Acc S s (c :: r) (m + 1)
  | nx {s : Nat} {b : List UInt8} {m : Nat} : (stAt S s).fork = true → Acc S (stAt S s).nx b m → Acc S s b (m + 1)
  | ot {s : Nat} {b : List UInt8} {m : Nat} : (stAt S s).fork = true → Acc S (stAt S s).ot b m → Acc S s b (m + 1)
theorem acc_rch {S : List St} {s x : Nat} (h : Rch S s x) {b : List UInt8} {m : Nat} (ha : Acc S x b m) : ∃ m', Acc S s b m' := by
  induction h with
  | here s => exact ⟨m, ha⟩
  | nx hf _ ih =>
    obtain ⟨m', h'⟩ := ih ha
    exact ⟨_, .nx hf h'⟩
  | ot hf _ ih =>
    obtain ⟨m', h'⟩ := ih ha
    exact ⟨_, .ot hf h'⟩
theorem acc_of {S : List St} {s : Nat} {b : List UInt8} {m : Nat} (h : Acc S s b m) (h0 : (stAt S 0).fork = false) : ∃ x, Rch S s x ∧ (stAt S x).fork = false ∧ ((b = [] ∧ x = 0) ∨ ∃ c r m', b = c :: r ∧ (stAt S x).p c.toNat = true ∧ Acc S (stAt S x).nx r m') := by
  induction h with
  | fin => exact ⟨0, .here 0, h0, .inl ⟨rfl, rfl⟩⟩
  | byte hf hp ha _ => exact ⟨_, .here _, hf, .inr ⟨_, _, _, rfl, hp, ha⟩⟩
  | nx hf _ ih =>
    obtain ⟨x, hr, h1, h2⟩ := ih
    exact ⟨x, .nx hf hr, h1, h2⟩
  | ot hf _ ih =>
    obtain ⟨x, hr, h1, h2⟩ := ih
    exact ⟨x, .ot hf hr, h1, h2⟩
/-- entered in this turn -/
def Mk (T : Nat) (E : List Nat) (x : Nat) : Prop := x < E.length ∧ T < E.getD x 0
theorem mk_set {T : Nat} {E : List Nat} {s x : Nat} (hs : s < E.length) : Mk T (E.set s (T + 1)) x ↔ Mk T E x ∨ x = s := by
  unfold Mk
  rw [List.length_set, List.getD_eq_getElem?_getD, List.getD_eq_getElem?_getD]
  by_cases e : s = x
  · subst e
    rw [List.getElem?_set_self hs]
    simp [hs]
  · rw [List.getElem?_set_ne e]
    constructor
    · exact .inl
    · rintro (h | h)
      · exact h
      · exact absurd h.symm e
/-- the set is of those that wait for a byte; forks lead to what was entered, or is to be -/
structure Turn (S : List St) (T : Nat) (E set : List Nat) (P : Nat → Prop) : Prop where
  a : ∀ x, x ∈ set ↔ Mk T E x ∧ (stAt S x).fork = false
  b : ∀ x, Mk T E x → (stAt S x).fork = true → (Mk T E (stAt S x).nx ∨ P (stAt S x).nx) ∧ (Mk T E (stAt S x).ot ∨ P (stAt S x).ot)
theorem mem_dropLast_of {L : List Nat} {n x : Nat} (h : L.getLast? = some n) (hx : x ∈ L) : x ∈ L.dropLast ∨ x = n := by
  have hne : L ≠ [] := by rintro rfl; cases h
  have e := List.dropLast_concat_getLast hne
  rw [List.getLast?_eq_some_getLast hne] at h
  obtain rfl := Option.some.inj h
  rw [← e] at hx
  simpa using hx
theorem runF_spec (S : List St) (hok : StOk S) (T : Nat) (O : Nat → Prop) (hO : ∀ x, O x → (stAt S x).fork = true → O (stAt S x).nx ∧ O (stAt S x).ot) : ∀ (f : Nat) (E L set : List Nat) (cur : Option Nat), E.length = S.length → (∀ s, cur = some s → s < S.length) → (∀ x ∈ L, x < S.length) → fuelOf T E L cur < f →
    Turn S T E set (fun x => x ∈ L ∨ cur = some x) → (∀ x, Mk T E x → O x) → (∀ x ∈ L, O x) → (∀ x, cur = some x → O x) →
    Turn S T (runF S T f E L set cur).1 (runF S T f E L set cur).2 (fun _ => False) ∧ (∀ x, Mk T E x ∨ x ∈ L ∨ cur = some x → Mk T (runF S T f E L set cur).1 x) ∧ (∀ x, Mk T (runF S T f E L set cur).1 x → O x)
  | 0, E, L, set, cur, hE, hc, hL, hf, ht, h1, h2, h3 => by omega
  | f + 1, E, L, set, some s, hE, hc, hL, hf, ht, h1, h2, h3 => by
    unfold runF
    have hsl := hc s rfl
    have hsE : s < E.length := by omega
    rw [fuel_some] at hf
    split
    · rename_i hT
      have hms : Mk T E s := ⟨hsE, hT⟩
      have key : ∀ y, (Mk T E y ∨ y ∈ L ∨ some s = some y) → (Mk T E y ∨ y ∈ L ∨ (none : Option Nat) = some y) := fun y hy => by
        rcases hy with h | h | h
        · exact .inl h
        · exact .inr (.inl h)
        · obtain rfl := Option.some.inj h; exact .inl hms
      obtain ⟨q1, q2, q3⟩ := runF_spec S hok T O hO f E L set none hE (fun s e => by cases e) hL (by rw [fuel_none]; omega)
        ⟨ht.a, fun x hx hfx => ⟨key _ ((ht.b x hx hfx).1), key _ ((ht.b x hx hfx).2)⟩⟩ h1 h2 (fun x e => by cases e)
      exact ⟨q1, fun x hx => q2 x (key x hx), q3⟩
    · rename_i hT
      have hun := unent_set (T := T) (E := E) (s := s) hsE (by omega)
      have hOs := h3 s rfl
      have hnm : ¬ Mk T E s := fun h => hT h.2
      split
      · rename_i hfk
        have hOs2 := hO s hOs hfk
        obtain ⟨q1, q2, q3⟩ := runF_spec S hok T O hO f (E.set s (T + 1)) (L ++ [(stAt S s).ot]) set (some (stAt S s).nx) (by simp [hE]) (fun x e => by cases e; exact (hok.at hsl).1) (fun x hx => (List.mem_append.1 hx).elim (hL x) (fun e => by simp at e; rw [e]; exact (hok.at hsl).2))
          (by rw [fuel_some, List.length_append]; simp; omega)
          ⟨fun x => by
            rw [ht.a x, mk_set hsE]
            constructor
            · exact fun h => ⟨.inl h.1, h.2⟩
            · rintro ⟨h | rfl, h'⟩
              · exact ⟨h, h'⟩
              · rw [hfk] at h'; exact absurd h' (by simp), fun x hx hfx => by
            rw [mk_set hsE] at hx
            have go : ∀ y, (Mk T E y ∨ y ∈ L ∨ some s = some y) → Mk T (E.set s (T + 1)) y ∨ (y ∈ L ++ [(stAt S s).ot] ∨ some (stAt S s).nx = some y) := fun y hy => by
              rw [mk_set hsE]
              rcases hy with h | h | h
              · exact .inl (.inl h)
              · exact .inr (.inl (List.mem_append.2 (.inl h)))
              · exact .inl (.inr (Option.some.inj h).symm)
            rcases hx with hx | rfl
            · exact ⟨go _ (ht.b x hx hfx).1, go _ (ht.b x hx hfx).2⟩
            · exact ⟨.inr (.inr rfl), .inr (.inl (by simp))⟩⟩
          (fun x hx => by rw [mk_set hsE] at hx; rcases hx with h | rfl; exact h1 x h; exact hOs)
          (fun x hx => (List.mem_append.1 hx).elim (h2 x) (fun e => by simp at e; rw [e]; exact hOs2.2)) (fun x e => by cases e; exact hOs2.1)
        refine ⟨q1, fun x hx => ?_, q3⟩
        rcases hx with h | h | h
        · exact q2 x (.inl ((mk_set hsE).2 (.inl h)))
        · exact q2 x (.inr (.inl (List.mem_append.2 (.inl h))))
        · exact q2 x (.inl ((mk_set hsE).2 (.inr (Option.some.inj h).symm)))
      · rename_i hfk
        have hfk : (stAt S s).fork = false := by simpa using hfk
        obtain ⟨q1, q2, q3⟩ := runF_spec S hok T O hO f (E.set s (T + 1)) L (set ++ [s]) none (by simp [hE]) (fun x e => by cases e) hL (by rw [fuel_none]; omega)
          ⟨fun x => by
            rw [List.mem_append, ht.a x, mk_set hsE]
            constructor
            · rintro (h | h)
              · exact ⟨.inl h.1, h.2⟩
              · simp at h; subst h; exact ⟨.inr rfl, hfk⟩
            · rintro ⟨h | rfl, h'⟩
              · exact .inl ⟨h, h'⟩
              · exact .inr (by simp), fun x hx hfx => by
            rw [mk_set hsE] at hx
            have go : ∀ y, (Mk T E y ∨ y ∈ L ∨ some s = some y) → Mk T (E.set s (T + 1)) y ∨ (y ∈ L ∨ (none : Option Nat) = some y) := fun y hy => by
              rw [mk_set hsE]
              rcases hy with h | h | h
              · exact .inl (.inl h)
              · exact .inr (.inl h)
              · exact .inl (.inr (Option.some.inj h).symm)
            rcases hx with hx | rfl
            · exact ⟨go _ (ht.b x hx hfx).1, go _ (ht.b x hx hfx).2⟩
            · rw [hfk] at hfx; cases hfx⟩
          (fun x hx => by rw [mk_set hsE] at hx; rcases hx with h | rfl; exact h1 x h; exact hOs) h2 (fun x e => by cases e)
        refine ⟨q1, fun x hx => ?_, q3⟩
        rcases hx with h | h | h
        · exact q2 x (.inl ((mk_set hsE).2 (.inl h)))
        · exact q2 x (.inr (.inl h))
        · exact q2 x (.inl ((mk_set hsE).2 (.inr (Option.some.inj h).symm)))
  | f + 1, E, L, set, none, hE, hc, hL, hf, ht, h1, h2, h3 => by
    unfold runF
    rw [fuel_none] at hf
    split
    · rename_i hl
      obtain rfl : L = [] := by simpa using hl
      refine ⟨⟨ht.a, fun x hx hfx => ?_⟩, fun x hx => ?_, h1⟩
      · have := ht.b x hx hfx
        simpa using this
      · simpa using hx
    · rename_i n hn
      have hnL := List.mem_of_getLast? hn
      have hne : L ≠ [] := by rintro rfl; cases hn
      have h0 : 0 < L.length := by cases L with | nil => exact absurd rfl hne | cons => simp
      have go : ∀ y, (Mk T E y ∨ y ∈ L ∨ (none : Option Nat) = some y) → Mk T E y ∨ (y ∈ L.dropLast ∨ some n = some y) := fun y hy => by
        rcases hy with h | h | h
        · exact .inl h
        · exact .inr ((mem_dropLast_of hn h).imp id (fun e => by rw [e]))
        · cases h
      obtain ⟨q1, q2, q3⟩ := runF_spec S hok T O hO f E L.dropLast set (some n) hE (fun x e => by cases e; exact hL _ hnL) (fun x hx => hL x (List.dropLast_subset _ hx)) (by rw [fuel_some, List.length_dropLast]; omega)
        ⟨ht.a, fun x hx hfx => ⟨go _ (ht.b x hx hfx).1, go _ (ht.b x hx hfx).2⟩⟩ h1 (fun x hx => h2 x (List.dropLast_subset _ hx)) (fun x e => by cases e; exact h2 _ hnL)
      exact ⟨q1, fun x hx => q2 x (go x hx), q3⟩
theorem enterS_spec {S : List St} (hok : StOk S) {T : Nat} {E set : List Nat} {s : Nat} (hE : E.length = S.length) (hs : s < S.length) (ht : Turn S T E set (fun _ => False)) :
    Turn S T (enterS S T E set s).1 (enterS S T E set s).2 (fun _ => False) ∧ ∀ x, Mk T (enterS S T E set s).1 x ↔ Mk T E x ∨ Rch S s x := by
  have hun : unent T E ≤ S.length := by have := unent_le T E; omega
  obtain ⟨q1, q2, q3⟩ := runF_spec S hok T (fun x => Mk T E x ∨ Rch S s x) (fun x hx hfx => by
      rcases hx with h | h
      · have := ht.b x h hfx
        exact ⟨.inl (this.1.elim id (fun e => e.elim)), .inl (this.2.elim id (fun e => e.elim))⟩
      · exact ⟨.inr (h.trans (.nx hfx (.here _))), .inr (h.trans (.ot hfx (.here _)))⟩)
    (4 * S.length + 3) E [] set (some s) hE (fun x e => by cases e; exact hs) (fun x hx => by cases hx) (by rw [fuel_some]; simp; omega)
    ⟨ht.a, fun x hx hfx => ⟨.inl ((ht.b x hx hfx).1.elim id (fun e => e.elim)), .inl ((ht.b x hx hfx).2.elim id (fun e => e.elim))⟩⟩
    (fun x hx => .inl hx) (fun x hx => by cases hx) (fun x e => by cases e; exact .inr (.here _))
  refine ⟨q1, fun x => ⟨q3 x, fun hx => ?_⟩⟩
  rcases hx with h | h
  · exact q2 x (.inl h)
  · have h0 : Mk T (runF S T (4 * S.length + 3) E [] set (some s)).1 s := q2 s (.inr (.inr rfl))
    have key : ∀ a b, Rch S a b → Mk T (runF S T (4 * S.length + 3) E [] set (some s)).1 a → Mk T (runF S T (4 * S.length + 3) E [] set (some s)).1 b := fun a b h => by
      induction h with
      | here s => exact id
      | nx hf _ ih => exact fun h => ih ((q1.b _ h hf).1.elim id (fun e => e.elim))
      | ot hf _ ih => exact fun h => ih ((q1.b _ h hf).2.elim id (fun e => e.elim))
    exact key _ _ h h0
theorem enterS_len {S : List St} {T : Nat} : ∀ (f : Nat) (E L set : List Nat) (cur : Option Nat), (runF S T f E L set cur).1.length = E.length
  | 0, E, L, set, cur => rfl
  | f + 1, E, L, set, some s => by
    unfold runF
    split
    · exact enterS_len f _ _ _ _
    · split
      · rw [enterS_len f]; simp
      · rw [enterS_len f]; simp
  | f + 1, E, L, set, none => by
    unfold runF
    split
    · rfl
    · exact enterS_len f _ _ _ _
/-- what is marked is no later than this turn -/
theorem runF_max {S : List St} {T : Nat} : ∀ (f : Nat) (E L set : List Nat) (cur : Option Nat), (∀ x ∈ E, x ≤ T + 1) → ∀ x ∈ (runF S T f E L set cur).1, x ≤ T + 1
  | 0, E, L, set, cur, h => h
  | f + 1, E, L, set, some s, h => by
    have h2 : ∀ x ∈ E.set s (T + 1), x ≤ T + 1 := fun x hx => (List.mem_or_eq_of_mem_set hx).elim (h x) (fun e => by omega)
    unfold runF
    split
    · exact runF_max f _ _ _ _ h
    · split
      · exact runF_max f _ _ _ _ h2
      · exact runF_max f _ _ _ _ h2
  | f + 1, E, L, set, none, h => by
    unfold runF
    split
    · exact h
    · exact runF_max f _ _ _ _ h
theorem fold_spec {S : List St} (hok : StOk S) {T c : Nat} : ∀ (now : List Nat) (E set : List Nat), E.length = S.length → (∀ x ∈ now, x < S.length) → Turn S T E set (fun _ => False) →
    Turn S T (now.foldl (byteS S T c) (E, set)).1 (now.foldl (byteS S T c) (E, set)).2 (fun _ => False) ∧ (∀ x, Mk T (now.foldl (byteS S T c) (E, set)).1 x ↔ Mk T E x ∨ ∃ s ∈ now, (stAt S s).p c = true ∧ Rch S (stAt S s).nx x) ∧ (now.foldl (byteS S T c) (E, set)).1.length = S.length ∧ ((∀ x ∈ E, x ≤ T + 1) → ∀ x ∈ (now.foldl (byteS S T c) (E, set)).1, x ≤ T + 1)
  | [], E, set, hE, hn, ht => ⟨ht, fun x => by simp, hE, id⟩
  | s :: now, E, set, hE, hn, ht => by
    rw [List.foldl_cons]
    have hs := hn s (by simp)
    unfold byteS
    cases hp : (stAt S s).p c with
    | false =>
      simp only [Bool.false_eq_true, if_false]
      obtain ⟨q1, q2, q3, q4⟩ := fold_spec hok now E set hE (fun x hx => hn x (by simp [hx])) ht
      refine ⟨q1, fun x => (q2 x).trans ?_, q3, q4⟩
      simp [hp]
    | true =>
      simp only [if_true]
      obtain ⟨p1, p2⟩ := enterS_spec hok (s := (stAt S s).nx) hE (hok.at hs).1 ht
      have hl : (enterS S T E set (stAt S s).nx).1.length = S.length := by unfold enterS; rw [enterS_len]; exact hE
      obtain ⟨q1, q2, q3, q4⟩ := fold_spec hok now _ _ hl (fun x hx => hn x (by simp [hx])) p1
      refine ⟨q1, fun x => (q2 x).trans ?_, q3, fun h => q4 (by unfold enterS; exact runF_max _ _ _ _ _ h)⟩
      rw [p2]
      simp only [List.mem_cons, exists_eq_or_imp, hp, true_and]
      constructor
      · rintro ((h | h) | h)
        · exact .inl h
        · exact .inr (.inl h)
        · exact .inr (.inr h)
      · rintro (h | h | h)
        · exact .inl (.inl h)
        · exact .inl (.inr h)
        · exact .inr h
theorem no_mk {T : Nat} {E : List Nat} (h : ∀ x ∈ E, x ≤ T) (x : Nat) : ¬ Mk T E x := fun ⟨h1, h2⟩ => by
  rw [List.getD_eq_getElem?_getD, List.getElem?_eq_getElem h1] at h2
  have := h _ (List.getElem_mem h1)
  simp at h2
  omega
theorem turn_start {S : List St} {T : Nat} {E : List Nat} (h : ∀ x ∈ E, x ≤ T) : Turn S T E [] (fun _ => False) := ⟨fun x => by simp [no_mk h x], fun x hx => absurd hx (no_mk h x)⟩
theorem acc_end {S : List St} {x : Nat} (hx : (stAt S x).fork = false) : (∃ m, Acc S x [] m) ↔ x = 0 := by
  constructor
  · rintro ⟨m, h⟩
    cases h with
    | fin => rfl
    | nx hf _ => rw [hx] at hf; cases hf
    | ot hf _ => rw [hx] at hf; cases hf
  · rintro rfl
    exact ⟨0, .fin⟩
theorem goS_spec {S : List St} (hok : StOk S) (h0 : (stAt S 0).fork = false) : ∀ (b : List UInt8) (T : Nat) (E now : List Nat), E.length = S.length → (∀ x ∈ E, x ≤ T + 1) → (∀ x ∈ now, x < S.length ∧ (stAt S x).fork = false) → (0 ∈ goS S b T E now ↔ ∃ x ∈ now, ∃ m, Acc S x b m)
  | [], T, E, now, hE, hm, hn => by
    rw [goS_end S _ _ _ _ (.inl rfl)]
    constructor
    · exact fun h => ⟨0, h, 0, .fin⟩
    · rintro ⟨x, hx, h⟩
      obtain rfl := (acc_end (hn x hx).2).1 h
      exact hx
  | c :: r, T, E, now, hE, hm, hn => by
    by_cases hne : now = []
    · subst hne
      rw [goS_end S _ _ _ _ (.inr rfl)]
      simp
    rw [goS_step S c r T E now hne]
    unfold turnS
    obtain ⟨q1, q2, q3, q4⟩ := fold_spec hok (T := T + 1) (c := c.toNat) now E [] hE (fun x hx => (hn x hx).1) (turn_start hm)
    rw [goS_spec hok h0 r (T + 1) _ _ q3 (q4 (fun x hx => by have := hm x hx; omega)) (fun x hx => ⟨by rw [← q3]; exact ((q1.a x).1 hx).1.1, ((q1.a x).1 hx).2⟩)]
    constructor
    · rintro ⟨x, hx, m, ha⟩
      obtain ⟨hmk, -⟩ := (q1.a x).1 hx
      rcases (q2 x).1 hmk with h | ⟨s, hs, hp, hr⟩
      · exact absurd h (no_mk hm x)
      · obtain ⟨m', ha'⟩ := acc_rch hr ha
        exact ⟨s, hs, m' + 1, .byte (hn s hs).2 hp ha'⟩
    · rintro ⟨s, hs, m, ha⟩
      have hfs := (hn s hs).2
      cases ha with
      | byte hf hp ha =>
        obtain ⟨x, hr, hfx, hor⟩ := acc_of ha h0
        refine ⟨x, (q1.a x).2 ⟨(q2 x).2 (.inr ⟨s, hs, hp, hr⟩), hfx⟩, ?_⟩
        rcases hor with ⟨rfl, rfl⟩ | ⟨c', r', m', rfl, hp', ha'⟩
        · exact ⟨0, .fin⟩
        · exact ⟨_, .byte hfx hp' ha'⟩
      | nx hf _ => rw [hfs] at hf; cases hf
      | ot hf _ => rw [hfs] at hf; cases hf
theorem match_acc {p : List St × Nat} (hok : StOk p.1) (h0 : (stAt p.1 0).fork = false) (hf : p.2 < p.1.length) (b : List UInt8) : matchS p b = true ↔ ∃ m, Acc p.1 p.2 b m := by
  obtain ⟨S, f⟩ := p
  simp only at hok h0 hf ⊢
  unfold matchS
  have hne : S.isEmpty = false := by cases S with | nil => simp at hf | cons => rfl
  simp only [hne, Bool.false_eq_true, if_false, List.contains_iff_mem]
  have hE : (List.replicate S.length 0).length = S.length := by simp
  have hm : ∀ x ∈ List.replicate S.length 0, x ≤ 0 := fun x hx => by simp at hx; omega
  obtain ⟨q1, q2⟩ := enterS_spec hok (T := 0) (s := f) hE hf (turn_start hm)
  have hl : (enterS S 0 (List.replicate S.length 0) [] f).1.length = S.length := by unfold enterS; rw [enterS_len]; exact hE
  rw [goS_spec hok h0 b 0 _ _ hl (by unfold enterS; exact runF_max _ _ _ _ _ (fun x hx => by have := hm x hx; omega)) (fun x hx => ⟨by rw [← hl]; exact ((q1.a x).1 hx).1.1, ((q1.a x).1 hx).2⟩)]
  constructor
  · rintro ⟨x, hx, m, ha⟩
    rcases (q2 x).1 ((q1.a x).1 hx).1 with h | h
    · exact absurd h (no_mk hm x)
    · exact acc_rch h ha
  · rintro ⟨m, ha⟩
    obtain ⟨x, hr, hfx, hor⟩ := acc_of ha h0
    refine ⟨x, (q1.a x).2 ⟨(q2 x).2 (.inr hr), hfx⟩, ?_⟩
    rcases hor with ⟨rfl, rfl⟩ | ⟨c', r', m', rfl, hp', ha'⟩
    · exact ⟨0, .fin⟩
    · exact ⟨_, .byte hfx hp' ha'⟩
end Go.Proofs.Ytnlfndhgdeapeaa
/- The texts that a pattern says; a pattern's states accept just these. No program in it. -/
namespace Go.Proofs.Ytnlfndhgdeapeaa
open Go.RowKit
set_option maxRecDepth 100000
set_option maxHeartbeats 1000000

inductive Star (P : List UInt8 → Prop) : List UInt8 → Prop
  | nil : Star P []
  | cons {x y : List UInt8} : P x → Star P y → Star P (x ++ y)
mutual
def Lg : Nd → List UInt8 → Prop
  | .one p, b => ∃ c : UInt8, b = [c] ∧ p c.toNat = true
  | .op k l, b => if k = 1 then LgTurn l b else if k = 2 then LgAlt l b else if k = 5 then b = [] ∨ LgAlt l b else if k = 4 then (∃ x y, b = x ++ y ∧ LgAlt l x ∧ Star (LgAlt l) y) else Star (LgAlt l) b
def LgTurn : List Nd → List UInt8 → Prop
  | [], b => b = []
  | n :: r, b => ∃ x y, b = x ++ y ∧ Lg n x ∧ LgTurn r y
def LgAlt : List Nd → List UInt8 → Prop
  | [], _ => False
  | n :: r, b => Lg n b ∨ LgAlt r b
end
/-- the states that have been made since are as they were made -/
def Agree (S S' T : List St) : Prop := ∀ i, S.length ≤ i → i < S'.length → stAt T i = stAt S' i
/-- a part's states, followed by what b accepts, accept the part's texts followed by those -/
def Does (n : Nd) : Prop := ∀ (b : Nat) (S T : List St), 0 < S.length → (stAt T 0).fork = false → Agree S (addS n b S).1 T →
  (∀ w m, Acc T (addS n b S).2 w m → ∃ x y m', w = x ++ y ∧ Lg n x ∧ Acc T b y m' ∧ m' ≤ m) ∧
  (∀ x y m, Lg n x → Acc T b y m → ∃ m', Acc T (addS n b S).2 (x ++ y) m')
theorem stAt_app (S : List St) (s : St) : stAt (S ++ [s]) S.length = s := by unfold stAt; simp
theorem stAt_of {S : List St} {i : Nat} {s : St} (h : S[i]? = some s) : stAt S i = s := by unfold stAt; rw [List.getD_eq_getElem?_getD, h]; rfl
theorem stAt_eq {S S' : List St} {i : Nat} (h : S[i]? = S'[i]?) : stAt S i = stAt S' i := by unfold stAt; rw [List.getD_eq_getElem?_getD, List.getD_eq_getElem?_getD, h]
theorem Agree.of {S S1 S2 T : List St} (h : Agree S S2 T) (hl : S1.length ≤ S2.length) (hk : ∀ i, S.length ≤ i → i < S1.length → S2[i]? = S1[i]?) : Agree S S1 T := fun i h1 h2 => (h i h1 (by omega)).trans (stAt_eq (hk i h1 h2))
theorem Agree.late {S S1 S2 T : List St} (h : Agree S S2 T) (hl : S.length ≤ S1.length) : Agree S1 S2 T := fun i h1 h2 => h i (by omega) h2
theorem acc_fork {T : List St} {s : Nat} (hf : (stAt T s).fork = true) (h0 : (stAt T 0).fork = false) {w : List UInt8} {m : Nat} (h : Acc T s w m) : ∃ m', m = m' + 1 ∧ (Acc T (stAt T s).nx w m' ∨ Acc T (stAt T s).ot w m') := by
  cases h with
  | fin => rw [hf] at h0; cases h0
  | byte hb _ _ => rw [hf] at hb; cases hb
  | nx _ h => exact ⟨_, rfl, .inl h⟩
  | ot _ h => exact ⟨_, rfl, .inr h⟩
theorem acc_byte {T : List St} {s b : Nat} {p : Nat → Bool} (hs : stAt T s = ⟨p, false, b, 0⟩) (h0 : 0 < s) {w : List UInt8} {m : Nat} (h : Acc T s w m) : ∃ c r m', w = c :: r ∧ p c.toNat = true ∧ Acc T b r m' ∧ m' ≤ m := by
  cases h with
  | fin => omega
  | byte hf hp h =>
    rw [hs] at hp h
    exact ⟨_, _, _, rfl, hp, h, by omega⟩
  | nx hf _ => rw [hs] at hf; cases hf
  | ot hf _ => rw [hs] at hf; cases hf
theorem does_one (p : Nat → Bool) : Does (.one p) := by
  intro b S T hS h0 hA
  unfold addS at hA ⊢
  have hs : stAt T S.length = ⟨p, false, b, 0⟩ := (hA S.length (Nat.le_refl _) (by simp)).trans (stAt_app S _)
  simp only
  refine ⟨fun w m h => ?_, fun x y m hx hy => ?_⟩
  · obtain ⟨c, r, m', rfl, hp, h, hm⟩ := acc_byte hs hS h
    refine ⟨[c], r, m', rfl, ?_, h, hm⟩
    unfold Lg
    exact ⟨c, rfl, hp⟩
  · unfold Lg at hx
    obtain ⟨c, rfl, hp⟩ := hx
    exact ⟨m + 1, .byte (by rw [hs]) (by rw [hs]; exact hp) (by rw [hs]; exact hy)⟩
theorem does_turn : ∀ (l : List Nd), (∀ n ∈ l, Does n) → ∀ (b : Nat) (S T : List St), 0 < S.length → (stAt T 0).fork = false → Agree S (addTurn l b S).1 T →
    (∀ w m, Acc T (addTurn l b S).2 w m → ∃ x y m', w = x ++ y ∧ LgTurn l x ∧ Acc T b y m' ∧ m' ≤ m) ∧
    (∀ x y m, LgTurn l x → Acc T b y m → ∃ m', Acc T (addTurn l b S).2 (x ++ y) m')
  | [], _, b, S, T, hS, h0, hA => by
    unfold addTurn LgTurn
    exact ⟨fun w m h => ⟨[], w, m, rfl, rfl, h, Nat.le_refl _⟩, fun x y m hx hy => ⟨m, by rw [hx]; exact hy⟩⟩
  | n :: r, hl, b, S, T, hS, h0, hA => by
    unfold addTurn at hA ⊢
    have h1 := (addTurn_len r b S).1
    have h2 := (addS_len n (addTurn r b S).2 (addTurn r b S).1).1
    have hA1 : Agree S (addTurn r b S).1 T := hA.of h2 (fun i _ hi => addS_keeps n _ _ i hi)
    obtain ⟨f1, b1⟩ := does_turn r (fun m hm => hl m (by simp [hm])) b S T hS h0 hA1
    obtain ⟨f2, b2⟩ := hl n (by simp) (addTurn r b S).2 (addTurn r b S).1 T (by omega) h0 (hA.late h1)
    refine ⟨fun w m h => ?_, fun x y m hx hy => ?_⟩
    · obtain ⟨x, y, m1, rfl, hx, hy, hm1⟩ := f2 w m h
      obtain ⟨x', y', m2, rfl, hx', hy', hm2⟩ := f1 y m1 hy
      refine ⟨x ++ x', y', m2, by simp, ?_, hy', by omega⟩
      unfold LgTurn
      exact ⟨x, x', rfl, hx, hx'⟩
    · unfold LgTurn at hx
      obtain ⟨x1, x2, rfl, h3, h4⟩ := hx
      obtain ⟨m1, hy1⟩ := b1 x2 y m h4 hy
      rw [List.append_assoc]
      exact b2 x1 (x2 ++ y) m1 h3 hy1
theorem fork_last {S S2 T : List St} {a o : Nat} (hA : Agree S (S2 ++ [⟨noB, true, a, o⟩]) T) (hl : S.length ≤ S2.length) : stAt T S2.length = ⟨noB, true, a, o⟩ :=
  (hA S2.length hl (by simp)).trans (stAt_app S2 _)
theorem does_alt : ∀ (l : List Nd), l ≠ [] → (∀ n ∈ l, Does n) → ∀ (b : Nat) (S T : List St), 0 < S.length → (stAt T 0).fork = false → Agree S (addAlt l b S).1 T →
    (∀ w m, Acc T (addAlt l b S).2 w m → ∃ x y m', w = x ++ y ∧ LgAlt l x ∧ Acc T b y m' ∧ m' ≤ m) ∧
    (∀ x y m, LgAlt l x → Acc T b y m → ∃ m', Acc T (addAlt l b S).2 (x ++ y) m')
  | [], h, _, b, S, T, hS, h0, hA => absurd rfl h
  | n :: r, _, hl, b, S, T, hS, h0, hA => by
    unfold addAlt at hA ⊢
    by_cases hr : r.isEmpty = true
    · obtain rfl : r = [] := by simpa using hr
      simp only [List.isEmpty_nil, if_true] at hA ⊢
      obtain ⟨f2, b2⟩ := hl n (by simp) b S T hS h0 hA
      refine ⟨fun w m h => ?_, fun x y m hx hy => ?_⟩
      · obtain ⟨x, y, m1, e, hx, hy, hm1⟩ := f2 w m h
        refine ⟨x, y, m1, e, ?_, hy, hm1⟩
        unfold LgAlt
        exact .inl hx
      · unfold LgAlt LgAlt at hx
        exact b2 x y m (hx.elim id (fun h => h.elim)) hy
    · rw [if_neg hr] at hA ⊢
      have h1 := (addAlt_len r b S).1
      have h2 := (addS_len n b (addAlt r b S).1).1
      unfold forkOn at hA ⊢
      have hs := fork_last hA (by omega)
      have hA2 : Agree S (addS n b (addAlt r b S).1).1 T := hA.of (by simp) (fun i _ hi => by rw [List.getElem?_append_left hi])
      have hA1 : Agree S (addAlt r b S).1 T := hA2.of h2 (fun i _ hi => addS_keeps n _ _ i hi)
      obtain ⟨f1, b1⟩ := does_alt r (by rintro rfl; simp at hr) (fun m hm => hl m (by simp [hm])) b S T hS h0 hA1
      obtain ⟨f2, b2⟩ := hl n (by simp) b (addAlt r b S).1 T (by omega) h0 (hA2.late h1)
      simp only
      refine ⟨fun w m h => ?_, fun x y m hx hy => ?_⟩
      · obtain ⟨m1, rfl, h | h⟩ := acc_fork (by rw [hs]) h0 h
        · rw [hs] at h
          obtain ⟨x, y, m2, e, hx, hy, hm⟩ := f2 w m1 h
          refine ⟨x, y, m2, e, ?_, hy, by omega⟩
          unfold LgAlt
          exact .inl hx
        · rw [hs] at h
          obtain ⟨x, y, m2, e, hx, hy, hm⟩ := f1 w m1 h
          refine ⟨x, y, m2, e, ?_, hy, by omega⟩
          unfold LgAlt
          exact .inr hx
      · unfold LgAlt at hx
        rcases hx with hx | hx
        · obtain ⟨m1, h⟩ := b2 x y m hx hy
          exact ⟨m1 + 1, .nx (by rw [hs]) (by rw [hs]; exact h)⟩
        · obtain ⟨m1, h⟩ := b1 x y m hx hy
          exact ⟨m1 + 1, .ot (by rw [hs]) (by rw [hs]; exact h)⟩
theorem lgAlt_one (n : Nd) : LgAlt [n] = Lg n := by
  funext b
  unfold LgAlt LgAlt
  simp
theorem does_loop (k : Nat) (n : Nd) (hn : Does n) (b : Nat) (S T : List St) (_hS : 0 < S.length) (h0 : (stAt T 0).fork = false) (hA : Agree S (loopEnd k S.length b (addS n S.length (S ++ [⟨noB, true, 0, b⟩]))).1 T) :
    (∀ w m, Acc T S.length w m → ∃ x y m', w = x ++ y ∧ Star (Lg n) x ∧ Acc T b y m' ∧ m' ≤ m) ∧
    (∀ x y m, Star (Lg n) x → Acc T b y m → ∃ m', Acc T S.length (x ++ y) m') ∧
    (∀ w m, Acc T (addS n S.length (S ++ [⟨noB, true, 0, b⟩])).2 w m → ∃ x y m', w = x ++ y ∧ Lg n x ∧ Acc T S.length y m' ∧ m' ≤ m) ∧
    (∀ x y m, Lg n x → Acc T S.length y m → ∃ m', Acc T (addS n S.length (S ++ [⟨noB, true, 0, b⟩])).2 (x ++ y) m') := by
  have h1 := (addS_len n S.length (S ++ [⟨noB, true, 0, b⟩])).1
  simp only [List.length_append, List.length_cons, List.length_nil] at h1
  obtain ⟨r, hr⟩ : ∃ r, addS n S.length (S ++ [⟨noB, true, 0, b⟩]) = r := ⟨_, rfl⟩
  have hd := hn S.length (S ++ [⟨noB, true, 0, b⟩]) T (by simp) h0
  rw [hr] at hA h1 hd ⊢
  unfold loopEnd at hA
  have hs : stAt T S.length = ⟨noB, true, r.2, b⟩ := (hA S.length (Nat.le_refl _) (by rw [List.length_set]; omega)).trans (stAt_of (by rw [List.getElem?_set_self (by omega)]))
  obtain ⟨f2, b2⟩ := hd (fun i hi hi2 => by
    simp only [List.length_append, List.length_cons, List.length_nil] at hi
    exact (hA i (by omega) (by simpa using hi2)).trans (stAt_eq (by rw [List.getElem?_set_ne (by omega)])))
  refine ⟨fun w m => ?_, fun x y m hx => ?_, f2, b2⟩
  · induction m using Nat.strongRecOn generalizing w with
    | _ m ih =>
      intro h
      obtain ⟨m1, rfl, h | h⟩ := acc_fork (by rw [hs]) h0 h
      · rw [hs] at h
        obtain ⟨x, y, m2, rfl, hx, hy, hm⟩ := f2 w m1 h
        obtain ⟨x', y', m3, rfl, hx', hy', hm'⟩ := ih m2 (by omega) y hy
        exact ⟨x ++ x', y', m3, by simp, .cons hx hx', hy', by omega⟩
      · rw [hs] at h
        exact ⟨[], w, m1, rfl, .nil, h, by omega⟩
  · induction hx with
    | nil => exact fun hy => ⟨m + 1, .ot (by rw [hs]) (by rw [hs]; exact hy)⟩
    | cons hx _ ih =>
      intro hy
      obtain ⟨m1, h⟩ := ih hy
      obtain ⟨m2, h2⟩ := b2 _ _ m1 hx h
      rw [List.append_assoc]
      exact ⟨m2 + 1, .nx (by rw [hs]) (by rw [hs]; exact h2)⟩
theorem does_any : ∀ n, Wf n → Does n := Nd.all (C := fun n => Wf n → Does n) (fun p _ => does_one p) fun k l ih hw => by
  unfold Wf at hw
  have hl : ∀ n ∈ l, Does n := fun n hn => ih n hn (hw.1.mem n hn)
  intro b S T hS h0 hA
  unfold addS at hA ⊢
  by_cases h1 : k = 1
  · rw [if_pos h1] at hA ⊢
    obtain ⟨f, g⟩ := does_turn l hl b S T hS h0 hA
    unfold Lg
    simp only [if_pos h1]
    exact ⟨f, g⟩
  rw [if_neg h1] at hA ⊢
  by_cases h2 : k = 2
  · rw [if_pos h2] at hA ⊢
    obtain ⟨f, g⟩ := does_alt l (by rcases hw.2 with e | ⟨-, e⟩ | ⟨e, -⟩; omega; exact e; omega) hl b S T hS h0 hA
    unfold Lg
    simp only [if_neg h1, if_pos h2]
    exact ⟨f, g⟩
  rw [if_neg h2] at hA ⊢
  obtain ⟨n, rfl⟩ : ∃ n, l = [n] := List.length_eq_one_iff.1 (by rcases hw.2 with e | ⟨e, -⟩ | ⟨-, e⟩; omega; omega; exact e)
  have hn := hl n (by simp)
  unfold addHead at hA ⊢
  unfold Lg
  simp only [if_neg h1, if_neg h2, lgAlt_one]
  by_cases h5 : k = 5
  · simp only [if_pos h5] at hA ⊢
    unfold forkOn at hA ⊢
    have hl1 := (addS_len n b S).1
    have hs := fork_last hA hl1
    have hA1 : Agree S (addS n b S).1 T := hA.of (by simp) (fun i _ hi => by rw [List.getElem?_append_left hi])
    obtain ⟨f2, b2⟩ := hn b S T hS h0 hA1
    simp only
    refine ⟨fun w m h => ?_, fun x y m hx hy => ?_⟩
    · obtain ⟨m1, rfl, h | h⟩ := acc_fork (by rw [hs]) h0 h
      · rw [hs] at h
        obtain ⟨x, y, m2, e, hx, hy, hm⟩ := f2 w m1 h
        exact ⟨x, y, m2, e, .inr hx, hy, by omega⟩
      · rw [hs] at h
        exact ⟨[], w, m1, rfl, .inl rfl, h, by omega⟩
    · rcases hx with rfl | hx
      · exact ⟨m + 1, .ot (by rw [hs]) (by rw [hs]; exact hy)⟩
      · obtain ⟨m1, h⟩ := b2 x y m hx hy
        exact ⟨m1 + 1, .nx (by rw [hs]) (by rw [hs]; exact h)⟩
  · simp only [if_neg h5] at hA ⊢
    obtain ⟨f1, b1, f2, b2⟩ := does_loop k n hn b S T hS h0 hA
    unfold loopEnd
    by_cases h4 : k = 4
    · simp only [if_pos h4]
      refine ⟨fun w m h => ?_, fun x y m hx hy => ?_⟩
      · obtain ⟨x, y, m1, rfl, hx, hy, hm⟩ := f2 w m h
        obtain ⟨x', y', m2, rfl, hx', hy', hm'⟩ := f1 y m1 hy
        exact ⟨x ++ x', y', m2, by simp, ⟨x, x', rfl, hx, hx'⟩, hy', by omega⟩
      · obtain ⟨x1, x2, rfl, h3, h6⟩ := hx
        obtain ⟨m1, h⟩ := b1 x2 y m h6 hy
        rw [List.append_assoc]
        exact b2 x1 (x2 ++ y) m1 h3 h
    · simp only [if_neg h4]
      exact ⟨f1, b1⟩
theorem stOk_mono {S S' : List St} (h : ∀ s ∈ S, s.nx < S.length ∧ s.ot < S.length) (hl : S.length ≤ S'.length) : ∀ s ∈ S, s.nx < S'.length ∧ s.ot < S'.length := fun s hs => by have := h s hs; omega
end Go.Proofs.Ytnlfndhgdeapeaa
/- What is built may be run, and matches just what the pattern says. No program in it. -/
namespace Go.Proofs.Ytnlfndhgdeapeaa
open Go.RowKit
set_option maxRecDepth 100000
set_option maxHeartbeats 1000000

/-- states that lead to states; the first is one -/
def Fit (r : List St × Nat) : Prop := StOk r.1 ∧ r.2 < r.1.length
theorem StOk.snoc {S : List St} (h : StOk S) {s : St} (h1 : s.nx < S.length + 1) (h2 : s.ot < S.length + 1) : StOk (S ++ [s]) := fun t ht => by
  simp only [List.length_append, List.length_cons, List.length_nil]
  rcases List.mem_append.1 ht with e | e
  · have := h t e; omega
  · obtain rfl : t = s := by simpa using e
    omega
theorem StOk.set {S : List St} (h : StOk S) {s : St} (i : Nat) (h1 : s.nx < S.length) (h2 : s.ot < S.length) : StOk (S.set i s) := fun t ht => by
  rw [List.length_set]
  rcases List.mem_or_eq_of_mem_set ht with e | rfl
  · exact h t e
  · exact ⟨h1, h2⟩
theorem Fit.forkOn {r : List St × Nat} (h : Fit r) {o : Nat} (ho : o < r.1.length) : Fit (forkOn r o) := by
  unfold Go.Proofs.Ytnlfndhgdeapeaa.forkOn
  exact ⟨h.1.snoc (by have := h.2; show r.2 < _; omega) (by show o < _; omega), by simp⟩
theorem Fit.loopEnd {r : List St × Nat} (h : Fit r) {k s b : Nat} (hb : b < r.1.length) (hs : s < r.1.length) : Fit (loopEnd k s b r) := by
  unfold Go.Proofs.Ytnlfndhgdeapeaa.loopEnd
  refine ⟨h.1.set s h.2 hb, ?_⟩
  show (if k = 4 then r.2 else s) < (r.1.set s _).length
  rw [List.length_set]
  split
  · exact h.2
  · exact hs
theorem addS_fit : ∀ n, ∀ (b : Nat) (S : List St), StOk S → b < S.length → Fit (addS n b S) := by
  have hd : ∀ (l : List Nd), (∀ n ∈ l, ∀ (b : Nat) (S : List St), StOk S → b < S.length → Fit (addS n b S)) → ∀ (b : Nat) (S : List St), StOk S → b < S.length → Fit (addHead l b S) := fun l hl b S hS hb => by
    cases l with
    | nil => unfold addHead; exact ⟨hS, hb⟩
    | cons n r => unfold addHead; exact hl n (by simp) b S hS hb
  refine Nd.all (fun p b S hS hb => ?_) (fun k l hl b S hS hb => ?_)
  · unfold addS
    exact ⟨hS.snoc (by show b < _; omega) (by show 0 < _; omega), by simp⟩
  · unfold addS
    split
    · clear hd
      induction l generalizing b S with
      | nil => unfold addTurn; exact ⟨hS, hb⟩
      | cons n r ih =>
        unfold addTurn
        have h1 := ih (fun m hm => hl m (by simp [hm])) b S hS hb
        exact hl n (by simp) _ _ h1.1 h1.2
    split
    · clear hd
      induction l generalizing b S with
      | nil => unfold addAlt; exact ⟨hS, hb⟩
      | cons n r ih =>
        unfold addAlt
        split
        · exact hl n (by simp) b S hS hb
        · have h1 := ih (fun m hm => hl m (by simp [hm])) b S hS hb
          have hl1 := (addAlt_len r b S).1
          have h2 := hl n (by simp) b (addAlt r b S).1 h1.1 (by omega)
          have hl2 := (addS_len n b (addAlt r b S).1).1
          exact h2.forkOn (by have := h1.2; omega)
    split
    · have hl1 := (addHead_len l b S).1
      exact (hd l hl b S hS hb).forkOn (by omega)
    · have hl1 := (addHead_len l S.length (S ++ [⟨noB, true, 0, b⟩])).1
      simp only [List.length_append, List.length_cons, List.length_nil] at hl1
      exact (hd l hl S.length _ (hS.snoc (by show 0 < _; omega) (by show b < _; omega)) (by simp)).loopEnd (by omega) (by omega)
theorem build_fit (n : Nd) : Fit (buildS n) := addS_fit n 0 [endSt] (fun s hs => by
  obtain rfl : s = endSt := by simpa using hs
  exact ⟨by decide, by decide⟩) (by simp)
theorem build_end (n : Nd) : stAt (buildS n).1 0 = endSt := stAt_of (by
  unfold buildS
  rw [addS_keeps n 0 [endSt] 0 (by simp)]
  rfl)
theorem acc_finS {T : List St} (h : stAt T 0 = endSt) {y : List UInt8} {m : Nat} (ha : Acc T 0 y m) : y = [] := by
  cases ha with
  | fin => rfl
  | byte _ hp _ => rw [h] at hp; cases hp
  | nx hf _ => rw [h] at hf; cases hf
  | ot hf _ => rw [h] at hf; cases hf
theorem match_lang {n : Nd} (hw : Wf n) (b : List UInt8) : matchS (buildS n) b = true ↔ Lg n b := by
  have he := build_end n
  rw [match_acc (build_fit n).1 (by rw [he]; rfl) (build_fit n).2]
  obtain ⟨f, g⟩ := does_any n hw 0 [endSt] (buildS n).1 (by simp) (by rw [he]; rfl) (fun i _ _ => rfl)
  constructor
  · rintro ⟨m, h⟩
    obtain ⟨x, y, m', rfl, hx, hy, -⟩ := f b m h
    rw [acc_finS he hy, List.append_nil]
    exact hx
  · intro h
    obtain ⟨m, hm⟩ := g b [] 0 h .fin
    rw [List.append_nil] at hm
    exact ⟨m, hm⟩
theorem build_len {n : Nd} (hw : Wf n) : (buildS n).1.length ≤ 1 + wt n := by
  have := (addS_len n 0 [endSt]).2 hw
  unfold buildS
  simpa using this
end Go.Proofs.Ytnlfndhgdeapeaa
