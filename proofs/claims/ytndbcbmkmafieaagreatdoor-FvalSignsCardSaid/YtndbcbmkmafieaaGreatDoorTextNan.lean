/- The text of a NaN. -/
import Derived.Test.YtndbcbmkmafieaaGreatDoorKnownTwo
namespace Go.Proofs.YtndbcbmkmafieaaGreatDoor
open Go.RowKit
set_option maxHeartbeats 1000000
set_option maxRecDepth 100000
attribute [local go_sem] bits IntKind.bits IntKind.wrap_u64 IntKind.wrap_u32'

theorem conv3n (W : World) (b : Nat) (h0 : W.cell? ⟨b, 0, none⟩ = some (.int .u8 78)) (h1 : W.cell? ⟨b, 1, none⟩ = some (.int .u8 97)) (h2 : W.cell? ⟨b, 2, none⟩ = some (.int .u8 78)) :
    (convert 64 9 (.slice (some ⟨b, 0, none⟩) 3 24)).run Tryz.prog W = .ok (.string ⟨#[78, 97, 78]⟩) W := by
  have h := run_convert_bytes_arg (P := Tryz.prog) W 64 5 Tryz.underlying64 Tryz.underlying5 b 0 3 24 [78, 97, 78] rfl (fun i hi => by
    rcases (by omega : i = 0 ∨ i = 1 ∨ i = 2) with rfl | rfl | rfl
    · exact h0
    · exact h1
    · exact h2) 9 Tryz.underlying9
  exact h
theorem ftoaNan_at (w : World) :
    Calls Tryz.prog 58 #[.slice (some ⟨w.heap.size, 0, none⟩) 0 24, .float .f64 9221120237041090561, .int .u8 103, .int .i64 (-1)] (w.alloc (.cells #[.int .u8 0, .int .u8 0, .int .u8 0, .int .u8 0, .int .u8 0, .int .u8 0, .int .u8 0, .int .u8 0, .int .u8 0, .int .u8 0, .int .u8 0, .int .u8 0, .int .u8 0, .int .u8 0, .int .u8 0, .int .u8 0, .int .u8 0, .int .u8 0, .int .u8 0, .int .u8 0, .int .u8 0, .int .u8 0, .int .u8 0, .int .u8 0] 5)) fun e w' => e = .returned (.slice (some ⟨w.heap.size, 0, none⟩) 3 24) ∧ w'.cell? ⟨w.heap.size, 0, none⟩ = some (.int .u8 78) ∧ w'.cell? ⟨w.heap.size, 1, none⟩ = some (.int .u8 97) ∧ w'.cell? ⟨w.heap.size, 2, none⟩ = some (.int .u8 78) ∧ Grown w w' := by
  go_enter Tryz.func58, Tryz.ntmps58
  go_wp2
  go_quiet (fail)
  go_wp2
  go_ret
  refine ⟨rfl, ?_, ?_, ?_, ?_⟩
  · go_simp
  · go_simp
  · go_simp
  · repeat (first | (with_reducible refine Grown.alloc ?_ _ _) | (with_reducible refine grown_drewN ?_ _) | (with_reducible refine Grown.setCell ?_ (Nat.le_refl _) _) | (with_reducible exact Grown.refl _))
theorem textNan_at (w : World) :
    Calls Tryz.prog 50 #[.float .f64 9221120237041090561, .int .u8 103, .int .i64 (-1), .int .i64 64] w fun e w' => e = .returned (.string ⟨#[78, 97, 78]⟩) ∧ Grown w w' := by
  have hm := hmk
  have hcv := conv3n
  go_enter Tryz.func50, Tryz.ntmps50
  go_wp2_with (first | (go_at_call 58; go_must (refine (ftoaNan_at _).mono ?_); go_must (rintro e w1 ⟨rfl, hc0, hc1, hc2, hg⟩)) | go_in)
  go_ret
  exact ⟨rfl, hg⟩
theorem textOfNan_at (w : World) :
    Calls Tryz.prog 31 #[.float .f64 9221120237041090561] w fun e w' => e = .returned (.string ⟨#[78, 97, 78]⟩) ∧ Grown w w' := by
  go_enter Tryz.func31, Tryz.ntmps31
  go_wp2_with (first | (go_at_call 50; go_must (refine (textNan_at _).mono ?_); rintro e w1 ⟨rfl, hg⟩) | go_in)
  go_ret
  exact ⟨rfl, hg⟩
end Go.Proofs.YtndbcbmkmafieaaGreatDoor
