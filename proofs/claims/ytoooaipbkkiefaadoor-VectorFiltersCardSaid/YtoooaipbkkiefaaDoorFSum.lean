/- The contracts of Sum, the program's and the reference's. -/
import Derived.Test.YtoooaipbkkiefaaDoorFFn
import Derived.Deep.DeepMust
namespace Go.Proofs.YtoooaipbkkiefaaDoor.Fv
open Go.RowKit
set_option maxHeartbeats 400000
set_option maxRecDepth 100000

theorem nanB_key (b : Nat) : nanB b = Flo.isNan b := by
  have e := Flo.order_key b b
  show (Ieee.double.order b b != some .eq) = _
  rw [e]
  cases h : Flo.isNan b
  · have c : compare (Flo.key b) (Flo.key b) = .eq := by simp
    rw [c]; rfl
  · simp

theorem add_nan {b : Nat} (v : Nat) (h : nanB b = true) : Ieee.double.add b v = none := by
  rw [nanB_key] at h
  have hr : 0x7FF0000000000000 < Flo.rung b := by simpa [Flo.isNan] using h
  rcases Flo.shape b with ⟨m, p, _, hx, _⟩ | ⟨hx, _⟩ | ⟨_, hrx⟩
  · omega
  · omega
  · unfold Ieee.Format.add
    rw [hrx]
    rfl

theorem kNaN_nan : nanB kNaN.toNat = true := by decide +kernel

def addC (c v : Nat) : Nat := canonO (Ieee.double.add c v)
theorem addC_canon {b c : Nat} (v : Nat) (h : canon b = c) : canonO (Ieee.double.add b v) = addC c v := by
  unfold addC
  cases hb : nanB b
  · have : canon b = b := by simp [canon, hb]
    rw [← h, this]
  · have h1 := add_nan v hb
    have h2 : c = kNaN.toNat := by rw [← h]; simp [canon, hb]
    have h3 := add_nan v (h2 ▸ kNaN_nan : nanB c = true)
    rw [h1, h3]
theorem addC_some {b c v r : Nat} (h : canon b = c) (ha : Ieee.double.add b v = some r) : canon r = addC c v := by
  rw [← addC_canon v h, ha]; rfl
theorem addC_none {b c v : Nat} (w : World) (h : canon b = c) (ha : Ieee.double.add b v = none) : canon (nanAt w b v) = addC c v := by
  rw [← addC_canon v h, ha, nanAt_canon]; rfl

/-- the sum from the left, of the first k + 1 -/
def sumF (x : Nat → Nat) : Nat → Nat
  | 0 => canon (x 0)
  | k + 1 => addC (sumF x k) (x (k + 1))

end Go.Proofs.YtoooaipbkkiefaaDoor.Fv
