/- A region that draws its order, within a round of a range over a function: by the held walk of a plain frame. -/
import Derived.OrdersIn
import Derived.OrdersHeld
import Derived.RangeFuncCalls
import Derived.OwnWalkIn
namespace Go.Proofs.Ytnlfndhgdeapeaa
open Go.RowKit
set_option maxHeartbeats 1000000

section
variable {P : Program} {ops : Array Oper} {Q : Exit → Act → World → Prop} {md : Region.Mode} {S : World → Prop} {l n : Nat}
theorem wpOpIn_of {i : Nat} {a : Act} {w : World} {K K' : Act → World → Prop} (hK : ∀ a w, K a w → K' a w) (hQ : ¬ LetsOut Q) (hd : ∀ o ∈ ops.toList, (∀ c, o.op ≠ .defer c)) (h : wpOp P ops Q i K a w) : wpOpIn (Fence.wide.inRound l) n P ops Q i K' a w := by
  unfold wpOp at h
  unfold wpOpIn
  split
  · rename_i ho
    simp only [ho] at h
    exact hK _ _ h
  · rename_i o ho
    simp only [ho] at h
    have hab : ∀ f, o.about P w a.eval = some f → (Fence.wide.inRound l).fn f := fun f _ => trivial
    split
    · rename_i hw
      simp only [hw, if_true] at h
      rcases h with h | ⟨-, h⟩
      · refine ⟨hab, ?_⟩
        rw [Fence.inRound_round, Oper.semAt_some l _ _ (hd o (List.mem_of_getElem? (l := ops.toList) (i := i) (by rw [Array.getElem?_toList]; exact ho)))]
        unfold Oper.wp at h
        generalize (execOp a.eval o).run P w = r at *
        cases r with
        | ok x w' =>
          cases x <;> simp only [Oper.upon, Oper.uponIn] at h ⊢ <;>
            first
              | exact hK _ _ h
              | exact ⟨fun e => (by cases e), CallsIn.inRound l (callsIn_wide.2 (Calls.mono h (fun e w'' he => by cases e <;> first | exact hK _ _ he | exact he)))⟩
              | exact ⟨fun e => (by cases e), fun c cs _ => (h c cs).elim fun v h => h.elim fun w' h => ⟨v, w', hK _ _ h.1, stepsIn_wide.2 h.2⟩⟩
        | halt x w' => cases x <;> simp only [Oper.upon, Oper.uponIn] at h ⊢ <;> exact h
      · exact absurd h hQ
    · rename_i hw
      simp only [hw] at h
      exact ⟨hab, hK _ _ h⟩
theorem wpAnyIn_of_held (hQ : ¬ LetsOut Q) (hd : ∀ o ∈ ops.toList, (∀ c, o.op ≠ .defer c)) : ∀ (fuel : Nat) (listed : Array Bool) (a : Act) (w : World), wpAnyH P md ops Q S fuel listed a w → wpAnyIn (Fence.wide.inRound l) n P md ops Q fuel listed a w
  | 0, _, _, _, h => h
  | fuel + 1, _, _, _, h => ⟨h.1, fun i hi => wpOpIn_of (fun a' w' h' => wpAnyIn_of_held hQ hd fuel _ a' w' h'.2) hQ hd (h.2 i hi)⟩
/-- the held walk of a region serves in a round, too -/
theorem region_in_round {id : Nat} {a : Act} {w : World} (hm : P.follows .mixedOrders = true) (hQ : ¬ LetsOut Q) (hd : ∀ o ∈ ops.toList, (∀ c, o.op ≠ .defer c))
    (h : wpAnyH P .any ops Q S ops.size (Array.replicate ops.size false) a w.drew) : (Code.region id ops true).wpIn (Fence.wide.inRound l) n P Q a w :=
  wpIn_region_any hm (wpAnyIn_of_held hQ hd _ _ _ _ h)
end
end Go.Proofs.Ytnlfndhgdeapeaa
