/- Between two rounds of a range over a pattern's parts. -/
import Derived.Test.YtnlfndhgdeapeaaAddLoopW
namespace Go.Proofs.Ytnlfndhgdeapeaa
open Go.RowKit
set_option maxRecDepth 100000
set_option maxHeartbeats 1000000

/-- the builder's block, its row, and a variable N alone have turned -/
structure BMid (g N : Nat) (W : World) (v : Value) (W' : World) (v' : Value) : Prop where
  os : W'.os = W.os
  tape : W'.tape = W.tape
  output : W'.output = W.output
  size : W.heap.size ≤ W'.heap.size
  block : ∀ c, c < W.heap.size → c ≠ g → c ≠ N → v.ownBlock ≠ some c → W'.heap[c]? = W.heap[c]?
  own : v'.ownBlock = v.ownBlock ∨ ∃ k, v'.ownBlock = some k ∧ W.heap.size ≤ k
theorem BMid.refl (g N : Nat) (W : World) (v : Value) : BMid g N W v W v := ⟨rfl, rfl, rfl, Nat.le_refl _, fun _ _ _ _ _ => rfl, .inl rfl⟩
theorem BMid.step {g N : Nat} {W W' W'' : World} {v v' v'' : Value} (h : BMid g N W v W' v') (k : BStep g W' v' W'' v'') : BMid g N W v W'' v'' :=
  ⟨k.os.trans h.os, k.tape.trans h.tape, k.output.trans h.output, Nat.le_trans h.size k.size, fun c hc hg hN hv => (k.block c (Nat.lt_of_lt_of_le hc h.size) hg (by
      rcases h.own with e | ⟨j, e, hj⟩
      · rw [e]; exact hv
      · rw [e]; intro e2; have := Option.some.inj e2; omega)).trans (h.block c hc hg hN hv), by
    rcases k.own with e | ⟨j, e, hj⟩
    · rw [e]; exact h.own
    · exact .inr ⟨j, e, Nat.le_trans h.size hj⟩⟩
theorem BMid.set {g N : Nat} {W W' : World} {v v' : Value} (h : BMid g N W v W' v') (u : Value) : BMid g N W v (W'.setCell ⟨N, 0, none⟩ u) v' :=
  ⟨h.os, h.tape, h.output, by simpa [World.setCell] using h.size, fun c hc hg hN hv => (Below.heap_setCell W' _ _ c (by show c ≠ N; exact hN)).trans (h.block c hc hg hN hv), h.own⟩
theorem BMid.gr {g N : Nat} {W W' W'' : World} {v v' : Value} (h : BMid g N W v W' v') (k : Gr W' W'') : BMid g N W v W'' v' :=
  ⟨k.b.os.trans h.os, k.b.tape.trans h.tape, k.b.output.trans h.output, Nat.le_trans h.size k.size, fun c hc hg hN hv => (k.b.block c (Nat.lt_of_lt_of_le hc h.size)).trans (h.block c hc hg hN hv), h.own⟩
/-- a block that is no cells is turned -/
theorem BMid.turn {g N : Nat} {W X Y : World} {v v' : Value} {row : Option Nat} (h : BMid g N W v X v') (hg : X.grownBy Y row) (hr : ∀ r, row = some r → W.heap.size ≤ r) : BMid g N W v Y v' :=
  ⟨hg.os.trans h.os, hg.tape.trans h.tape, hg.output.trans h.output, Nat.le_trans h.size hg.size, fun c hc h1 h2 hv => (hg.block c (Nat.lt_of_lt_of_le hc h.size) (fun e => by have := hr c e.symm; omega)).trans (h.block c hc h1 h2 hv), h.own⟩
theorem BMid.bstep {g N : Nat} {w W W' : World} {v v' : Value} (h : BMid g N W v W' v') (k : Gr w W) (hN : w.heap.size ≤ N) : BStep g w v W' v' :=
  ⟨h.os.trans k.b.os, h.tape.trans k.b.tape, h.output.trans k.b.output, Nat.le_trans k.size h.size, fun c hc hg hv => (h.block c (Nat.lt_of_lt_of_le hc k.size) hg (by omega) hv).trans (k.b.block c hc), by
    rcases h.own with e | ⟨j, e, hj⟩
    · exact .inl e
    · exact .inr ⟨j, e, Nat.le_trans k.size hj⟩⟩
theorem BMid.blk {g N : Nat} {W W' : World} {v v' : Value} (h : BMid g N W v W' v') {c : Nat} (hc : c < W.heap.size) (hg : c ≠ g) (hN : c ≠ N) (hv : v.ownBlock ≠ some c) {o : Obj} (ho : W.heap[c]? = some o) : W'.heap[c]? = some o := (h.block c hc hg hN hv).trans ho
theorem BMid.below {B g N : Nat} {W W' : World} {v v' : Value} (h : BMid g N W v W' v') (hg : B ≤ g) (hN : B ≤ N) (hv : ∀ k, v.ownBlock = some k → B ≤ k) (hB : B ≤ W.heap.size) : Below B W W' :=
  ⟨h.os, h.tape, h.output, h.size, fun c hc => h.block c (by omega) (by omega) (by omega) (fun e => by have := hv c e; omega)⟩
theorem BMid.other {g N : Nat} {W W' : World} {v v' : Value} (k : BMid g N W v W' v') {c : Nat} (hc : c < W.heap.size) (hv : v.ownBlock ≠ some c) : v'.ownBlock ≠ some c := by
  rcases k.own with e | ⟨j, e, hj⟩
  · rw [e]; exact hv
  · rw [e]; intro e2; have := Option.some.inj e2; omega
theorem RowSt.cellsOf {W : World} {B : Nat} {v : Value} {l : List St} (h : RowSt W B v l) {k : Nat} (e : v.ownBlock = some k) : ∃ o : Obj, W.heap[k]? = some o ∧ o.isCells = true := by
  obtain ⟨vs, h1, h2, h3⟩ := h
  rcases h2.2 with ⟨rfl, -⟩ | ⟨g, cap, cur, rfl, e2, e3, -⟩
  · cases e
  · have : g = k := by simpa [Value.ownBlock] using e
    subst this
    exact ⟨_, e3, rfl⟩
theorem Bld.turn {B g : Nat} {X Y : World} {S : List St} {v : Value} {row : Option Nat} (h : Bld B g X S v) (hg : X.grownBy Y row) (hr : ∀ r, row = some r → ∃ o : Obj, X.heap[r]? = some o ∧ o.isCells = false) : Bld B g Y S v := by
  have key : ∀ (k : Nat) (o : Obj), X.heap[k]? = some o → o.isCells = true → Y.heap[k]? = X.heap[k]? := fun k o ho hc => hg.block k (Array.getElem?_eq_some_iff.1 ho).1 (fun e => by
    obtain ⟨o', ho', hc'⟩ := hr k e.symm
    rw [ho] at ho'
    obtain rfl := Option.some.inj ho'
    rw [hc] at hc'
    cases hc')
  refine ⟨(key g _ h.c rfl).trans h.c, h.r.keep fun c e => ?_, h.n, h.b⟩
  obtain ⟨o, ho, hc⟩ := h.r.cellsOf e
  exact key c o ho hc
theorem cells_turn {X Y : World} {row : Option Nat} (hg : X.grownBy Y row) (hr : ∀ r, row = some r → ∃ o : Obj, X.heap[r]? = some o ∧ o.isCells = false) {k : Nat} {c : Array Value} {t : TypeId} {fz : Nat × Nat} (h : X.heap[k]? = some (.cells c t fz)) : Y.heap[k]? = some (.cells c t fz) :=
  (hg.block k (Array.getElem?_eq_some_iff.1 h).1 (fun e => by
    obtain ⟨o', ho', hc'⟩ := hr k e.symm
    rw [h] at ho'
    obtain rfl := Option.some.inj ho'
    cases hc')).trans h
/-- whatever is no cells stays over a step of the builder's -/
theorem BStep.keepsFrom {B g : Nat} {W W' : World} {S : List St} {v v' : Value} (k : BStep g W v W' v') (h : Bld B g W S v) (D : Nat) : KeepsFrom D W W' :=
  ⟨k.size, fun c o _ ho hc => (k.block c (Array.getElem?_eq_some_iff.1 ho).1 (fun e => by
      subst e
      rw [h.c] at ho
      obtain rfl := Option.some.inj ho
      cases hc) (fun e => by
      obtain ⟨o', ho', hc'⟩ := h.r.cellsOf e
      rw [ho] at ho'
      obtain rfl := Option.some.inj ho'
      rw [hc] at hc'
      cases hc')).trans ho⟩
theorem two_t {a b : Nat} {A B C : World} (h : Two a b A B) (k : Two a b B C) : Two a b A C := h.trans k
theorem two_b {a b : Nat} {w : World} (ha : a < w.heap.size) (hb : b < w.heap.size) (W : World) (l : Nat) (o o' : Obj) (hl : w.heap.size ≤ l) (_ : W.heap[l]? = some o) (_ : o.isCells = false) (_ : o.isWalk = false) : Two a b W (W.putObj l o') :=
  ⟨World.putObj_heap_other (by omega), World.putObj_heap_other (by omega)⟩
theorem Bld.setFar {B g : Nat} {W : World} {S : List St} {v : Value} (h : Bld B g W S v) {N o : Nat} (u : Value) (hN : N ≠ g) (hv : v.ownBlock ≠ some N) : Bld B g (W.setCell ⟨N, o, none⟩ u) S v :=
  ⟨(Below.heap_setCell W _ _ g (by show g ≠ N; omega)).trans h.c, h.r.keep (fun c e => Below.heap_setCell W _ _ c (by show c ≠ N; rintro rfl; exact hv e)), h.n, h.b⟩
end Go.Proofs.Ytnlfndhgdeapeaa
