/- names, of the laws; Group, the program's; With, the reference's. -/
import Derived.Test.YtoooaipbkkiefaaDoorRefParts
import Derived.Test.YtoooaipbkkiefaaDoorText
import Derived.Test.YtoooaipbkkiefaaDoorRefSet
namespace Go.Proofs.YtoooaipbkkiefaaDoor
open Go.RowKit Go.Sort
set_option maxRecDepth 100000
set_option maxHeartbeats 4000000

def nmsB (ns : List ByteArray) : Bool := ns.all fun x => decide (x.size ≤ 400)
theorem nms_not {ns : List ByteArray} {k : Nat} (h : k < ns.length) (g : 400 < (ns[k]).size) : nmsB ns = false := by
  unfold nmsB
  rw [List.all_eq_false]
  exact ⟨_, List.getElem_mem h, by simpa using g⟩
theorem nms_all {ns : List ByteArray} (h : ∀ i x, i < ns.length → ns[i]? = some x → x.size ≤ 400) : nmsB ns = true := by
  unfold nmsB
  rw [List.all_eq_true]
  intro x hx
  obtain ⟨i, hi, rfl⟩ := List.getElem_of_mem hx
  simpa using h i _ hi (List.getElem?_eq_getElem hi)
def nmsTo (ns : List ByteArray) (k : Nat) : Prop := ∀ i x, i < k → ns[i]? = some x → x.size ≤ 400
theorem nmsTo_s {ns : List ByteArray} {k : Nat} (hk : k < ns.length) (h : nmsTo ns k) (g : (ns[k]).size ≤ 400) : nmsTo ns (k + 1) := fun i x hi hx => by
  by_cases e : i = k
  · subst e; rw [List.getElem?_eq_getElem hk] at hx; cases hx; exact g
  · exact h i x (by omega) hx
end Go.Proofs.YtoooaipbkkiefaaDoor
