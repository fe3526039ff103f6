/- The reference's Fn: what its ways ask; where it tells nothing. -/
import Derived.Test.YtjjfkjpkbpefpaaDoorVRinc
import Derived.Test.YtjjfkjpkbpefpaaDoorVRcut
import Derived.Test.YtjjfkjpkbpefpaaDoorVRchg
import Derived.Test.YtjjfkjpkbpefpaaDoorVOut
namespace Go.Proofs.YtjjfkjpkbpefpaaDoor.Vn
open Go.RowKit
set_option maxRecDepth 100000
set_option maxHeartbeats 4000000

structure RFnH (A : Option Addr) (c : Nat) (l : List Sm) (f t : Int) (x : Nat) (r : List Nat) (w : World) : Prop where
  at_ : At2 encP w A l
  hl : l.length ≤ 1000000
  hft : f < t
  b1 : -4611686018427387904 ≤ f
  b2 : t ≤ 4611686018427387903
  hv : vals (strL l f t) = x :: r
def RFnC (fn : Nat) (A : Option Addr) (c : Nat) (l : List Sm) (f t : Int) (x : Nat) (r : List Nat) (w : World) : Prop :=
  Calls Tryd.prog 13 #[.int .i64 fn, .slice A l.length c, .int .i64 f, .int .i64 t] w fun e w' => e = .returned (.tuple #[.float .f64 (valF fn (x :: r) (Flo.ofI (t - f))), .bool true]) ∧ Gr w w'
theorem rFn_no (fn : Int) (A : Option Addr) (c n : Nat) (f t : Int) (w : World) (h : isFn fn = false ∨ t ≤ f) :
    Calls Tryd.prog 13 #[.int .i64 fn, .slice A n c, .int .i64 f, .int .i64 t] w fun e w' => e = .returned (.tuple #[.float .f64 0, .bool false]) ∧ w = w' := by
  by_cases h1 : fn < 1
  · have q1 : decide (fn < 1) = true := decide_eq_true h1
    clear h
    go_enter Tryd.func13, Tryd.ntmps13
    go_wp2_with fail
    go_ret2
    exact ⟨rfl, rfl⟩
  · have q1 : decide (fn < 1) = false := decide_eq_false h1
    by_cases h2 : 14 < fn
    · have q2 : decide (fn > 14) = true := decide_eq_true h2
      clear h
      go_enter Tryd.func13, Tryd.ntmps13
      go_wp2_with fail
      go_ret2
      exact ⟨rfl, rfl⟩
    · have q2 : decide (fn > 14) = false := decide_eq_false h2
      have q3 : t ≤ f := by
        rcases h with h | h
        · unfold isFn at h
          rw [decide_eq_true (by omega : 1 ≤ fn), decide_eq_true (by omega : fn ≤ 14)] at h
          cases h
        · exact h
      have q4 : decide (f ≥ t) = true := decide_eq_true q3
      clear h
      go_enter Tryd.func13, Tryd.ntmps13
      go_wp2_with fail
      go_ret2
      exact ⟨rfl, rfl⟩
end Go.Proofs.YtjjfkjpkbpefpaaDoor.Vn
