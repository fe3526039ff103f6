/- addEither: what is read, what is kept. -/
import Derived.OrdersIn
import Derived.OrdersHeld
import Derived.RangeFuncCalls
import Derived.OwnWalkIn
import Derived.Test.YtnlfndhgdeapeaaAddTurnW
namespace Go.Proofs.Ytnlfndhgdeapeaa
open Go.RowKit
set_option maxHeartbeats 1000000

section
variable {P : Program} {ops : Array Oper} {Q : Exit → Act → World → Prop} {md : Region.Mode} {S : World → Prop} {l n : Nat}
theorem wpOpIn_of {i : Nat} {a : Act} {w : World} {K K' : Act → World → Prop} (hK : ∀ a w, K a w → K' a w) (hQ : ¬ LetsOut Q) (hd : ∀ o ∈ ops.toList, (∀ c, o.op ≠ .defer c)) (h : wpOp P ops Q i K a w) : wpOpIn (Fence.wide.inRound l) n P ops Q i K' a w := by
  unfold wpOp at h
  unfold wpOpIn
  split
  · rename_i ho
    simp only [ho] at h
    exact hK _ _ h
  · rename_i o ho
    simp only [ho] at h
    have hab : ∀ f, o.about P w a.eval = some f → (Fence.wide.inRound l).fn f := fun f _ => trivial
    split
    · rename_i hw
      simp only [hw, if_true] at h
      rcases h with h | ⟨-, h⟩
      · refine ⟨hab, ?_⟩
        rw [Fence.inRound_round, Oper.semAt_some l _ _ (hd o (List.mem_of_getElem? (l := ops.toList) (i := i) (by rw [Array.getElem?_toList]; exact ho)))]
        unfold Oper.wp at h
        generalize (execOp a.eval o).run P w = r at *
        cases r with
        | ok x w' =>
          cases x <;> simp only [Oper.upon, Oper.uponIn] at h ⊢ <;>
            first
              | exact hK _ _ h
              | exact ⟨fun e => (by cases e), CallsIn.inRound l (callsIn_wide.2 (Calls.mono h (fun e w'' he => by cases e <;> first | exact hK _ _ he | exact he)))⟩
              | exact ⟨fun e => (by cases e), fun c cs _ => (h c cs).elim fun v h => h.elim fun w' h => ⟨v, w', hK _ _ h.1, stepsIn_wide.2 h.2⟩⟩
        | halt x w' => cases x <;> simp only [Oper.upon, Oper.uponIn] at h ⊢ <;> exact h
      · exact absurd h hQ
    · rename_i hw
      simp only [hw] at h
      exact ⟨hab, hK _ _ h⟩
theorem wpAnyIn_of_held (hQ : ¬ LetsOut Q) (hd : ∀ o ∈ ops.toList, (∀ c, o.op ≠ .defer c)) : ∀ (fuel : Nat) (listed : Array Bool) (a : Act) (w : World), wpAnyH P md ops Q S fuel listed a w → wpAnyIn (Fence.wide.inRound l) n P md ops Q fuel listed a w
  | 0, _, _, _, h => h
  | fuel + 1, _, _, _, h => ⟨h.1, fun i hi => wpOpIn_of (fun a' w' h' => wpAnyIn_of_held hQ hd fuel _ a' w' h'.2) hQ hd (h.2 i hi)⟩
/-- the held walk of a region serves in a round, too -/
theorem region_in_round {id : Nat} {a : Act} {w : World} (hm : P.follows .mixedOrders = true) (hQ : ¬ LetsOut Q) (hd : ∀ o ∈ ops.toList, (∀ c, o.op ≠ .defer c))
    (h : wpAnyH P .any ops Q S ops.size (Array.replicate ops.size false) a w.drew) : (Code.region id ops true).wpIn (Fence.wide.inRound l) n P Q a w :=
  wpIn_region_any hm (wpAnyIn_of_held hQ hd _ _ _ _ h)
end
end Go.Proofs.Ytnlfndhgdeapeaa
namespace Go.Proofs.Ytnlfndhgdeapeaa
open Go.RowKit
set_option maxRecDepth 100000
set_option maxHeartbeats 4000000
attribute [local go_sem] Oper.semAt_some

def eitF (l : List Nd) (b : Nat) (r : List St × Nat) (pre : List (Fin l.length)) : List St × Nat := pre.foldl (fun s i => forkOn (addS l[i.val] b s.1) s.2) r
theorem eitF_snoc (l : List Nd) (b : Nat) (r : List St × Nat) (pre : List (Fin l.length)) (x : Fin l.length) : eitF l b r (pre ++ [x]) = forkOn (addS l[x.val] b (eitF l b r pre).1) (eitF l b r pre).2 := by
  unfold eitF
  rw [List.foldl_append]
  rfl
theorem eitF_all (l : List Nd) (n : Nd) (b : Nat) (S : List St) : eitF l b (addS n b S) (revs l.length) = addAlt (l ++ [n]) b S := by
  rw [addAlt_foldr]
  exact revs_fold l (fun s m => forkOn (addS m b s.1) s.2) (addS n b S)
theorem eitF_len (l : List Nd) (hw : WfL l) (b : Nat) (r : List St × Nat) : ∀ pre, (eitF l b r pre).1.length ≤ r.1.length + pre.length * (wts l + 1) := by
  intro pre
  have key : ∀ (q : List (Fin l.length)), (eitF l b r q.reverse).1.length ≤ r.1.length + q.length * (wts l + 1) := fun q => by
    induction q with
    | nil => simp [eitF]
    | cons x q ih =>
      rw [List.reverse_cons, eitF_snoc]
      have h1 := (addS_len l[x.val] b (eitF l b r q.reverse).1).2 (hw.mem _ (List.getElem_mem _))
      have h2 := wts_mem (List.getElem_mem x.isLt : l[x.val] ∈ l)
      unfold forkOn
      rw [List.length_cons, Nat.succ_mul]
      simp
      omega
  have := key pre.reverse
  simpa using this
theorem wts_app (l : List Nd) (n : Nd) : wts (l ++ [n]) = wts l + wt n := by
  induction l with
  | nil => simp [wts]
  | cons m r ih => rw [List.cons_append]; unfold wts; rw [ih]; omega
theorem bdm_app (l : List Nd) (n : Nd) : bdm l ≤ bdm (l ++ [n]) ∧ bd n ≤ bdm (l ++ [n]) := by
  induction l with
  | nil => simp [bdm]
  | cons m r ih => rw [List.cons_append]; unfold bdm; omega
theorem WfL.app {l : List Nd} {n : Nd} (h : WfL (l ++ [n])) : WfL l ∧ Wf n := by
  refine ⟨?_, h.mem n (by simp)⟩
  induction l with
  | nil => unfold WfL; trivial
  | cons m r ih =>
    rw [List.cons_append] at h
    unfold WfL at h ⊢
    exact ⟨h.1, ih h.2⟩
def Eit8 (W : World) (N pb o g b : Nat) (x : Fin 6 → Value) : Prop := W.cell? ⟨N, 0, none⟩ = some (.pointer (some ⟨g, 0, none⟩)) ∧ W.cell? ⟨N + 1, 0, none⟩ = some (.int .i64 b) ∧ W.cell? ⟨pb, o, none⟩ = some (x 0) ∧ W.cell? ⟨pb, o + 1, none⟩ = some (x 1) ∧ W.cell? ⟨pb, o + 2, none⟩ = some (x 2) ∧ W.cell? ⟨pb, o + 3, none⟩ = some (x 3) ∧ W.cell? ⟨pb, o + 4, none⟩ = some (x 4) ∧ W.cell? ⟨pb, o + 5, none⟩ = some (x 5)
theorem Eit8.same {W W' : World} {N pb o g b : Nat} {x : Fin 6 → Value} (h : Eit8 W N pb o g b x) (k0 : W'.heap[N]? = W.heap[N]?) (k1 : W'.heap[N + 1]? = W.heap[N + 1]?) (k2 : W'.heap[pb]? = W.heap[pb]?) : Eit8 W' N pb o g b x := by
  have key : ∀ c : Nat, W'.heap[c]? = W.heap[c]? → ∀ (i : Nat) (v : Value), W.cell? ⟨c, i, none⟩ = some v → W'.cell? ⟨c, i, none⟩ = some v := fun c e i v hv => (World.cell?_of_block (a := ⟨c, i, none⟩) e).trans hv
  obtain ⟨h0, h1, h2, h3, h4, h5, h6, h7⟩ := h
  exact ⟨key _ k0 _ _ h0, key _ k1 _ _ h1, key _ k2 _ _ h2, key _ k2 _ _ h3, key _ k2 _ _ h4, key _ k2 _ _ h5, key _ k2 _ _ h6, key _ k2 _ _ h7⟩
theorem Eit8.lt {W : World} {N pb o g b : Nat} {x : Fin 6 → Value} (h : Eit8 W N pb o g b x) : N < W.heap.size ∧ N + 1 < W.heap.size ∧ pb < W.heap.size :=
  ⟨World.block_lt_of_cell? W _ h.1, World.block_lt_of_cell? W _ h.2.1, World.block_lt_of_cell? W _ h.2.2.1⟩
theorem Eit8.gr {W W' : World} {N pb o g b : Nat} {x : Fin 6 → Value} (h : Eit8 W N pb o g b x) (k : Gr W W') : Eit8 W' N pb o g b x :=
  h.same (k.b.block _ h.lt.1) (k.b.block _ h.lt.2.1) (k.b.block _ h.lt.2.2)
theorem Eit8.step {W W' : World} {N pb o g b : Nat} {x : Fin 6 → Value} {v v' : Value} (h : Eit8 W N pb o g b x) (k : BStep g W v W' v') (h0 : N ≠ g ∧ v.ownBlock ≠ some N) (h1 : N + 1 ≠ g ∧ v.ownBlock ≠ some (N + 1)) (h2 : pb ≠ g ∧ v.ownBlock ≠ some pb) : Eit8 W' N pb o g b x :=
  h.same (k.block _ h.lt.1 h0.1 h0.2) (k.block _ h.lt.2.1 h1.1 h1.2) (k.block _ h.lt.2.2 h2.1 h2.2)
theorem Eit8.set {W : World} {N pb o g b : Nat} {x : Fin 6 → Value} (h : Eit8 W N pb o g b x) {M : Nat} (u : Value) (h0 : N ≠ M) (h1 : N + 1 ≠ M) (h2 : pb ≠ M) : Eit8 (W.setCell ⟨M, 0, none⟩ u) N pb o g b x :=
  h.same (Below.heap_setCell W _ _ _ h0) (Below.heap_setCell W _ _ _ h1) (Below.heap_setCell W _ _ _ h2)
theorem room_alt {l : List Nd} {n : Nd} {S p : Nat} (h : S + (((l ++ [n]).length + 1) * (wts (l ++ [n]) + 1) + 1 + bdm (l ++ [n])) ≤ 1000000000000) (hp : p < l.length) : S + wt n + p * (wts l + 1) + bdm l ≤ 1000000000000 := by
  have h1 := bdm_app l n
  rw [wts_app] at h
  have : p * (wts l + 1) + (wts l + wt n + 1) ≤ ((l ++ [n]).length + 1) * (wts l + wt n + 1) := by
    have h2 : p * (wts l + 1) ≤ p * (wts l + wt n + 1) := Nat.mul_le_mul (Nat.le_refl _) (by omega)
    have h3 : (p + 1) * (wts l + wt n + 1) ≤ ((l ++ [n]).length + 1) * (wts l + wt n + 1) := Nat.mul_le_mul (by simp; omega) (Nat.le_refl _)
    rw [Nat.succ_mul] at h3
    omega
  omega
/-- behind the last part: the builder, the frame's three variables -/
structure EitSt (B g b : Nat) (w : World) (v : Value) (S0 : List St) (f0 N : Nat) (W : World) (v1 : Value) : Prop where
  bld : Bld B g W S0 v1
  step : BStep g w v W v1
  c0 : W.cell? ⟨w.heap.size, 0, none⟩ = some (.pointer (some ⟨g, 0, none⟩))
  c1 : W.cell? ⟨w.heap.size + 1, 0, none⟩ = some (.int .i64 b)
  c2 : W.heap[N]? = some (.cells #[.int .i64 f0] 3 (0, 0))
  lo : w.heap.size + 2 ≤ N
  own : ∀ k, (k = w.heap.size ∨ k = w.heap.size + 1 ∨ k = N) → v1.ownBlock ≠ some k
theorem BStep.setFar {g : Nat} {w W : World} {v v' : Value} (h : BStep g w v W v') {N o : Nat} (hN : w.heap.size ≤ N) (u : Value) : BStep g w v (W.setCell ⟨N, o, none⟩ u) v' :=
  ⟨h.os, h.tape, h.output, by simpa [World.setCell] using h.size, fun c hc hg hv => (Below.heap_setCell W _ _ c (by show c ≠ N; omega)).trans (h.block c hc hg hv), h.own⟩
theorem eitSt_late {B g b pb o f0 : Nat} {w w1 : World} {v v1 : Value} {S0 : List St} {x : Fin 6 → Value} (h : Bld B g w1 S0 v1) (k : BStep g w v w1 v1) (e : Eit8 w1 w.heap.size pb o g b x) (hz : w.heap.size + 2 ≤ w1.heap.size) (h0 : v1.ownBlock ≠ some w.heap.size) (h1 : v1.ownBlock ≠ some (w.heap.size + 1)) :
    EitSt B g b w v S0 f0 w1.heap.size (w1.alloc (.cells #[.int .i64 f0] 3)) v1 :=
  have g1 : Gr w1 (w1.alloc (.cells #[.int .i64 f0] 3)) := (Gr.refl w1).alloc _ _
  ⟨h.gr g1, k.gr g1, (e.gr g1).1, (e.gr g1).2.1, heap_alloc_new w1 _, hz, fun c hc e => by
    rcases hc with rfl | rfl | rfl
    · exact h0 e
    · exact h1 e
    · have := h.r.lt _ e; omega⟩
theorem eitSt_early {B g b pb o f0 N : Nat} {w w1 : World} {v v1 : Value} {S0 : List St} {x : Fin 6 → Value} (h : Bld B g w1 S0 v1) (k : BStep g w v w1 v1) (e : Eit8 w1 w.heap.size pb o g b x) (hz : w.heap.size + 2 ≤ N) (hg : g < w.heap.size) (hp : pb < w.heap.size) (h0 : v1.ownBlock ≠ some w.heap.size) (h1 : v1.ownBlock ≠ some (w.heap.size + 1)) (h2 : v1.ownBlock ≠ some N) (u : Value) (hN : w1.heap[N]? = some (.cells #[u] 3 (0, 0))) :
    EitSt B g b w v S0 f0 N (w1.setCell ⟨N, 0, none⟩ (.int .i64 f0)) v1 :=
  have e2 := e.set (M := N) (.int .i64 f0) (by omega) (by omega) (by omega)
  ⟨h.setFar _ (by omega) h2, k.setFar (by omega) _, e2.1, e2.2.1, by have := heap_setCell_same w1 N 0 _ _ (.int .i64 f0) hN; simpa using this, hz, fun c hc e => by
    rcases hc with rfl | rfl | rfl
    · exact h0 e
    · exact h1 e
    · exact h2 e⟩
theorem BStep.mid {g N : Nat} {w W W' : World} {v v1 v' : Value} (h : BStep g w v W v1) (k : BMid g N W v1 W' v') (hN : w.heap.size ≤ N) : BStep g w v W' v' :=
  ⟨k.os.trans h.os, k.tape.trans h.tape, k.output.trans h.output, Nat.le_trans h.size k.size, fun c hc hg hv => (k.block c (Nat.lt_of_lt_of_le hc h.size) hg (by omega) (h.other hc hv)).trans (h.block c hc hg hv), by
    rcases k.own with e | ⟨j, e, hj⟩
    · rw [e]; exact h.own
    · exact .inr ⟨j, e, Nat.le_trans h.size hj⟩⟩
theorem RowSt.typeOf {W : World} {B : Nat} {v : Value} {l : List St} (h : RowSt W B v l) {k : Nat} (e : v.ownBlock = some k) : ∃ cur, W.heap[k]? = some (.cells cur 78 (0, 0)) := by
  obtain ⟨vs, h1, h2, h3⟩ := h
  rcases h2.2 with ⟨rfl, -⟩ | ⟨g, cap, cur, rfl, e2, e3, -⟩
  · cases e
  · have : g = k := by simpa [Value.ownBlock] using e
    subst this
    exact ⟨_, e3⟩
theorem wt_bd (n : Nd) : wt n ≤ bd n := by
  cases n with
  | one p => unfold wt bd; omega
  | op k l =>
    unfold wt bd
    have : l.length * 1 + (wts l + 1) ≤ (l.length + 1) * (wts l + 1) := by
      rw [Nat.succ_mul]
      have : l.length * 1 ≤ l.length * (wts l + 1) := Nat.mul_le_mul (Nat.le_refl _) (by omega)
      omega
    split
    · omega
    split <;> omega
end Go.Proofs.Ytnlfndhgdeapeaa
