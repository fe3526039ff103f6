/- s[a:b] of a string. -/
import Derived.Test.YtegbenbhiadnbaaDoorRefKey
namespace Go.Proofs.YtegbenbhiadnbaaDoor
open Go.RowKit Go.Sort
set_option maxRecDepth 100000
set_option maxHeartbeats 1000000

theorem run_str2 (s : ByteArray) (a b : Nat) (h1 : a ≤ b) (h2 : b ≤ s.size) (w : World) :
    (Instr.slice 9 (.string s) (some (.int .i64 a)) (some (.int .i64 b)) none).run Tryd.prog w = .ok (.string (s.extract a b)) w := by
  have e1 : (a : Int) ≤ (b : Int) := by omega
  have e2 : (b : Int) ≤ (s.size : Int) := by omega
  simp [Instr.slice, run_underlying Tryd.underlying9, Instr.sliceBounds, run_sliceBound, *]
/-- spelt as the walk does -/
theorem run_str3 (s : ByteArray) (k m : Nat) (h : k + 1 + m ≤ s.size) (w : World) :
    (Instr.slice 9 (.string s) (some (.int .i64 ((k : Int) + 1))) (some (.int .i64 ((k : Int) + 1 + (m : Int)))) none).run Tryd.prog w = .ok (.string (s.extract (k + 1) (k + 1 + m))) w := by
  have := run_str2 s (k + 1) (k + 1 + m) (by omega) h w
  rw [show ((k : Int) + 1) = ((k + 1 : Nat) : Int) by omega, show ((k + 1 : Nat) : Int) + (m : Int) = ((k + 1 + m : Nat) : Int) by omega]
  exact this
end Go.Proofs.YtegbenbhiadnbaaDoor
