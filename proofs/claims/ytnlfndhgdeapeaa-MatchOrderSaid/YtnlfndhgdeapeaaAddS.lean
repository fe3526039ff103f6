/- The states of a pattern: a mirror of the program's own text. -/
import Derived.Test.YtnlfndhgdeapeaaNode
import Derived.Test.YtnlfndhgdeapeaaPut
import Derived.Test.YtnlfndhgdeapeaaBackw
namespace Go.Proofs.Ytnlfndhgdeapeaa
open Go.RowKit
set_option maxRecDepth 100000
set_option maxHeartbeats 1000000

def noB : Nat → Bool := fun _ => false
/-- a loop's fork is laid ahead of what it leads to -/
def loopEnd (k s b : Nat) (r : List St × Nat) : List St × Nat := (r.1.set s ⟨noB, true, r.2, b⟩, if k = 4 then r.2 else s)
def forkOn (r : List St × Nat) (other : Nat) : List St × Nat := (r.1 ++ [⟨noB, true, r.2, other⟩], r.1.length)
mutual
def addS : Nd → Nat → List St → List St × Nat
  | .one p, b, S => (S ++ [⟨p, false, b, 0⟩], S.length)
  | .op k l, b, S => if k = 1 then addTurn l b S else if k = 2 then addAlt l b S else if k = 5 then forkOn (addHead l b S) b else loopEnd k S.length b (addHead l S.length (S ++ [⟨noB, true, 0, b⟩]))
def addTurn : List Nd → Nat → List St → List St × Nat
  | [], b, S => (S, b)
  | n :: r, b, S => addS n (addTurn r b S).2 (addTurn r b S).1
def addAlt : List Nd → Nat → List St → List St × Nat
  | [], b, S => (S, b)
  | n :: r, b, S => if r.isEmpty then addS n b S else forkOn (addS n b (addAlt r b S).1) (addAlt r b S).2
def addHead : List Nd → Nat → List St → List St × Nat
  | [], b, S => (S, b)
  | n :: _, b, S => addS n b S
end
mutual
def Wf : Nd → Prop
  | .one _ => True
  | .op k l => WfL l ∧ (k = 1 ∨ (k = 2 ∧ l ≠ []) ∨ ((k = 3 ∨ k = 4 ∨ k = 5) ∧ l.length = 1))
def WfL : List Nd → Prop
  | [] => True
  | n :: r => Wf n ∧ WfL r
end
mutual
/-- no more states than these -/
def wt : Nd → Nat
  | .one _ => 1
  | .op k l => wts l + (if k = 1 then 0 else if k = 2 then l.length - 1 else 1)
def wts : List Nd → Nat
  | [] => 0
  | n :: r => wt n + wts r
end
mutual
/-- room that the building asks for -/
def bd : Nd → Nat
  | .one _ => 1
  | .op _ l => (l.length + 1) * (wts l + 1) + 1 + bdm l
def bdm : List Nd → Nat
  | [] => 0
  | n :: r => max (bd n) (bdm r)
end
theorem WfL.mem {l : List Nd} (h : WfL l) : ∀ n ∈ l, Wf n := by
  induction l with
  | nil => intro n hn; cases hn
  | cons a r ih =>
    unfold WfL at h
    intro n hn
    rcases List.mem_cons.1 hn with rfl | hn
    · exact h.1
    · exact ih h.2 n hn
theorem wts_mem {l : List Nd} {n : Nd} (h : n ∈ l) : wt n ≤ wts l := by
  induction l with
  | nil => cases h
  | cons a r ih =>
    unfold wts
    rcases List.mem_cons.1 h with rfl | h
    · omega
    · have := ih h; omega
theorem bdm_mem {l : List Nd} {n : Nd} (h : n ∈ l) : bd n ≤ bdm l := by
  induction l with
  | nil => cases h
  | cons a r ih =>
    unfold bdm
    rcases List.mem_cons.1 h with rfl | h
    · omega
    · have := ih h; omega
mutual
theorem Nd.all {C : Nd → Prop} (h1 : ∀ p, C (.one p)) (h2 : ∀ k l, (∀ n ∈ l, C n) → C (.op k l)) : ∀ n, C n
  | .one p => h1 p
  | .op k l => h2 k l (Nd.allL h1 h2 l)
theorem Nd.allL {C : Nd → Prop} (h1 : ∀ p, C (.one p)) (h2 : ∀ k l, (∀ n ∈ l, C n) → C (.op k l)) : ∀ (l : List Nd), ∀ n ∈ l, C n
  | [], n, h => by cases h
  | m :: r, n, h => by
    rcases List.mem_cons.1 h with e | h
    · rw [e]; exact Nd.all h1 h2 m
    · exact Nd.allL h1 h2 r n h
end
theorem addTurn_foldr (l : List Nd) (b : Nat) (S : List St) : addTurn l b S = l.foldr (fun n s => addS n s.2 s.1) (S, b) := by
  induction l with
  | nil => unfold addTurn; rfl
  | cons n r ih => unfold addTurn; rw [ih]; rfl
theorem addAlt_foldr (l : List Nd) (n : Nd) (b : Nat) (S : List St) : addAlt (l ++ [n]) b S = l.foldr (fun m s => forkOn (addS m b s.1) s.2) (addS n b S) := by
  induction l with
  | nil => simp [addAlt]
  | cons m r ih =>
    rw [List.cons_append]
    unfold addAlt
    rw [ih]
    cases r <;> simp
/-- the parts by their places, the last one first -/
theorem revs_fold {β : Type} (l : List Nd) (f : β → Nd → β) (x : β) : (revs l.length).foldl (fun s i => f s l[i.val]) x = l.foldr (fun n s => f s n) x := by
  unfold revs
  rw [List.foldl_reverse]
  have h : (List.finRange l.length).map (fun i => l[i.val]) = l := by
    apply List.ext_getElem
    · simp
    · intro i h1 h2; simp
  have := List.foldr_map (f := fun i : Fin l.length => l[i.val]) (g := fun n s => f s n) (l := List.finRange l.length) (init := x)
  rw [h] at this
  exact this.symm
mutual
theorem addS_len : ∀ (n : Nd) (b : Nat) (S : List St), S.length ≤ (addS n b S).1.length ∧ (Wf n → (addS n b S).1.length ≤ S.length + wt n)
  | .one p, b, S => by unfold addS wt; simp
  | .op k l, b, S => by
    unfold addS wt
    have h1 := addTurn_len l b S
    have h2 := addAlt_len l b S
    have h3 := addHead_len l b S
    have h4 := addHead_len l S.length (S ++ [⟨noB, true, 0, b⟩])
    simp only [List.length_append, List.length_cons, List.length_nil] at h4
    split
    · exact ⟨h1.1, fun hw => by unfold Wf at hw; have := h1.2 hw.1; omega⟩
    split
    · exact ⟨h2.1, fun hw => by unfold Wf at hw; have := h2.2 hw.1; omega⟩
    rename_i e1 e2
    split
    · unfold forkOn
      refine ⟨by simp; omega, fun hw => ?_⟩
      unfold Wf at hw
      have := h3.2 hw.1
      simp
      omega
    · unfold loopEnd
      refine ⟨by simp; omega, fun hw => ?_⟩
      unfold Wf at hw
      have := h4.2 hw.1
      simp
      omega
theorem addTurn_len : ∀ (l : List Nd) (b : Nat) (S : List St), S.length ≤ (addTurn l b S).1.length ∧ (WfL l → (addTurn l b S).1.length ≤ S.length + wts l)
  | [], b, S => by unfold addTurn wts; simp
  | n :: r, b, S => by
    unfold addTurn wts WfL
    have h1 := addTurn_len r b S
    have h2 := addS_len n (addTurn r b S).2 (addTurn r b S).1
    exact ⟨by omega, fun hw => by have := h1.2 hw.2; have := h2.2 hw.1; omega⟩
theorem addAlt_len : ∀ (l : List Nd) (b : Nat) (S : List St), S.length ≤ (addAlt l b S).1.length ∧ (WfL l → (addAlt l b S).1.length ≤ S.length + wts l + (l.length - 1))
  | [], b, S => by unfold addAlt wts; simp
  | n :: r, b, S => by
    unfold addAlt wts WfL
    have h1 := addAlt_len r b S
    have h2 := addS_len n b (addAlt r b S).1
    have h3 := addS_len n b S
    split
    · exact ⟨h3.1, fun hw => by have := h3.2 hw.1; simp; omega⟩
    · rename_i hr
      have h0 : 1 ≤ r.length := by
        cases r with
        | nil => simp at hr
        | cons => simp
      unfold forkOn
      exact ⟨by simp; omega, fun hw => by have := h1.2 hw.2; have := h2.2 hw.1; simp; omega⟩
theorem addHead_len : ∀ (l : List Nd) (b : Nat) (S : List St), S.length ≤ (addHead l b S).1.length ∧ (WfL l → (addHead l b S).1.length ≤ S.length + wts l)
  | [], b, S => by unfold addHead wts; simp
  | n :: r, b, S => by
    unfold addHead wts WfL
    have h2 := addS_len n b S
    exact ⟨h2.1, fun hw => by have := h2.2 hw.1; omega⟩
end
def AddPost (B g : Nat) (r : List St × Nat) (w : World) (v : Value) (e : Ending) (w' : World) : Prop :=
  e = .returned (.int .i64 r.2) ∧ ∃ v', Bld B g w' r.1 v' ∧ BStep g w v w' v'
def AddC (n : Nd) : Prop := ∀ (B g b : Nat) (X : Nat → Prop) (S : List St) (nv v : Value) (w : World), Bld B g w S v → B ≤ w.heap.size → (∀ c, X c → c < B) → NodeV w X n nv → Wf n → S.length + bd n ≤ 1000000000000 →
  Calls Try.prog 43 #[.pointer (some ⟨g, 0, none⟩), nv, .int .i64 b] w (AddPost B g (addS n b S) w v)
end Go.Proofs.Ytnlfndhgdeapeaa
