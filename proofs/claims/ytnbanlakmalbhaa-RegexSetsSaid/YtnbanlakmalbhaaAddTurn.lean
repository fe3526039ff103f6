/- add at parts one behind the other. -/
import Derived.Test.YtnbanlakmalbhaaMid
namespace Go.Proofs.Ytnbanlakmalbhaa
open Go.RowKit
set_option maxRecDepth 100000
set_option maxHeartbeats 4000000
attribute [local go_sem] Oper.semAt_some

/-- the states when some parts have been added -/
def turnF (l : List Nd) (b : Nat) (S : List St) (pre : List (Fin l.length)) : List St × Nat := pre.foldl (fun s i => addS l[i.val] s.2 s.1) (S, b)
theorem turnF_snoc (l : List Nd) (b : Nat) (S : List St) (pre : List (Fin l.length)) (x : Fin l.length) : turnF l b S (pre ++ [x]) = addS l[x.val] (turnF l b S pre).2 (turnF l b S pre).1 := by
  unfold turnF
  rw [List.foldl_append]
  rfl
theorem turnF_all (l : List Nd) (b : Nat) (S : List St) : turnF l b S (revs l.length) = addTurn l b S := by
  rw [addTurn_foldr]
  exact revs_fold l (fun s n => addS n s.2 s.1) (S, b)
theorem turnF_len (l : List Nd) (hw : WfL l) (b : Nat) (S : List St) : ∀ pre, (turnF l b S pre).1.length ≤ S.length + pre.length * (wts l) := by
  intro pre
  have key : ∀ (r : List (Fin l.length)), (turnF l b S r.reverse).1.length ≤ S.length + r.length * (wts l) := fun r => by
    induction r with
    | nil => simp [turnF]
    | cons x r ih =>
      rw [List.reverse_cons, turnF_snoc]
      have h1 := (addS_len l[x.val] (turnF l b S r.reverse).2 (turnF l b S r.reverse).1).2 (hw.mem _ (List.getElem_mem _))
      have h2 := wts_mem (List.getElem_mem x.isLt : l[x.val] ∈ l)
      rw [List.length_cons, Nat.succ_mul]
      omega
  have := key pre.reverse
  simpa using this
/-- a pattern's parts in memory -/
theorem NodeV.parts {W : World} {X : Nat → Prop} {k : Nat} {l : List Nd} {nv : Value} (h : NodeV W X (.op k l) nv) : ∃ (A : Option Addr) (pb c : Nat) (val : Nat → Fin 6 → Value), nv = .agg #[.int .i64 k, .int .u64 0, .int .u64 0, .int .u64 0, .int .u64 0, .slice A l.length c] ∧ l.length ≤ c ∧ c ≤ maxLen ∧ PartsAt W A pb l.length val ∧ (0 < l.length → X pb) ∧ ∀ (i : Nat) (hi : i < l.length), NodeV W X l[i] (aggOf (val i)) := by
  unfold NodeV at h
  obtain ⟨A, c, e, h1, h2, h3⟩ := h
  by_cases h0 : 0 < l.length
  · obtain ⟨pb, rfl, hX, hn⟩ := h3 h0
    have key : ∀ i : Nat, ∃ v : Fin 6 → Value, ∀ hi : i < l.length, sixAt W pb i v ∧ NodeV W X l[i] (aggOf v) := fun i => by
      by_cases hi : i < l.length
      · obtain ⟨v, a, b⟩ := NodesFrom.get l 0 i l[i] hn (List.getElem?_eq_getElem hi)
        exact ⟨v, fun _ => ⟨by rwa [Nat.zero_add] at a, b⟩⟩
      · exact ⟨fun _ => undef, fun h => absurd h hi⟩
    obtain ⟨val, hval⟩ := Classical.axiomOfChoice key
    exact ⟨_, pb, c, val, e, h1, h2, fun _ => ⟨rfl, fun j hj => (hval j hj).1⟩, fun _ => hX, fun i hi => (hval i hi).2⟩
  · exact ⟨A, 0, c, fun _ _ => undef, e, h1, h2, fun h => absurd h h0, fun h => absurd h h0, fun i hi => by omega⟩
/-- between two rounds: what the builder, the variable N hold -/
def TurnI (B g N : Nat) (w0 : World) (v : Value) (r : List St × Nat) (W : World) : Prop := ∃ v', Bld B g W r.1 v' ∧ BMid g N w0 v W v' ∧ W.heap[N]? = some (.cells #[.int .i64 r.2] 3 (0, 0))
theorem turnI_own {β : Type} (B g N : Nat) (w0 : World) (v : Value) (f : β → List St × Nat) : OwnFrom w0.heap.size (fun s W => TurnI B g N w0 v (f s) W) := fun s X Y row hs hg hr => by
  obtain ⟨v', h1, h2, h3⟩ := hs
  exact ⟨v', h1.turn hg (fun r e => (hr r e).2), h2.turn hg (fun r e => (hr r e).1), cells_turn hg (fun r e => (hr r e).2) h3⟩
end Go.Proofs.Ytnbanlakmalbhaa
