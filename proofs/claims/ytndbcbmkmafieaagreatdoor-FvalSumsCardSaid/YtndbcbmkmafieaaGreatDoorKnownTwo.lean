/- What the laws' first test runs, the second part: Text of 2.5, Parse of 1e3, the whole test. -/
import Derived.Test.YtndbcbmkmafieaaGreatDoorKnown
import Derived.Deep.DeepMust
namespace Go.Proofs.YtndbcbmkmafieaaGreatDoor
open Go.RowKit
set_option maxHeartbeats 1000000
set_option maxRecDepth 100000
attribute [local go_sem] bits IntKind.bits IntKind.wrap_u64 IntKind.wrap_u32'
theorem drew_drewN (w : World) (n : Nat) : w.drew.drewN n = w.drewN (n + 1) := by
  show ({ w with drawn := w.drawn + 1 + n } : World) = { w with drawn := w.drawn + (n + 1) }
  rw [Nat.add_assoc, Nat.add_comm 1 n]
theorem setdig_drew (W : World) (o : Obj) (B : Nat) (hB : B = W.heap.size) :
    Calls Tryz.prog 71 #[.slice (some ⟨B, 0, none⟩) 32 32, .int .u64 2500000000000000, .int .i64 (-15), .int .i64 16] ((W.alloc (.cells #[.int .u8 0, .int .u8 0, .int .u8 0, .int .u8 0, .int .u8 0, .int .u8 0, .int .u8 0, .int .u8 0, .int .u8 0, .int .u8 0, .int .u8 0, .int .u8 0, .int .u8 0, .int .u8 0, .int .u8 0, .int .u8 0, .int .u8 0, .int .u8 0, .int .u8 0, .int .u8 0, .int .u8 0, .int .u8 0, .int .u8 0, .int .u8 0, .int .u8 0, .int .u8 0, .int .u8 0, .int .u8 0, .int .u8 0, .int .u8 0, .int .u8 0, .int .u8 0] 81)).alloc o).drew fun e w' => e = .returned (.tuple #[.int .i64 1, .int .i64 2]) ∧ ∃ n, w' = ((W.alloc (.cells #[.int .u8 50, .int .u8 53, .int .u8 48, .int .u8 48, .int .u8 48, .int .u8 48, .int .u8 48, .int .u8 48, .int .u8 48, .int .u8 48, .int .u8 48, .int .u8 48, .int .u8 48, .int .u8 48, .int .u8 48, .int .u8 48, .int .u8 0, .int .u8 0, .int .u8 0, .int .u8 0, .int .u8 0, .int .u8 0, .int .u8 0, .int .u8 0, .int .u8 0, .int .u8 0, .int .u8 0, .int .u8 0, .int .u8 0, .int .u8 0, .int .u8 0, .int .u8 0] 81)).alloc o).drewN n :=
  (setdig_at W.drew o B hB).mono fun _ _ ⟨h, n, hn⟩ => ⟨h, n + 1, hn.trans (drew_drewN ((W.alloc (.cells #[.int .u8 50, .int .u8 53, .int .u8 48, .int .u8 48, .int .u8 48, .int .u8 48, .int .u8 48, .int .u8 48, .int .u8 48, .int .u8 48, .int .u8 48, .int .u8 48, .int .u8 48, .int .u8 48, .int .u8 48, .int .u8 48, .int .u8 0, .int .u8 0, .int .u8 0, .int .u8 0, .int .u8 0, .int .u8 0, .int .u8 0, .int .u8 0, .int .u8 0, .int .u8 0, .int .u8 0, .int .u8 0, .int .u8 0, .int .u8 0, .int .u8 0, .int .u8 0] 81)).alloc o) n)⟩
theorem conv3 (W : World) (b : Nat) (h0 : W.cell? ⟨b, 0, none⟩ = some (.int .u8 50)) (h1 : W.cell? ⟨b, 1, none⟩ = some (.int .u8 46)) (h2 : W.cell? ⟨b, 2, none⟩ = some (.int .u8 53)) :
    (convert 64 9 (.slice (some ⟨b, 0, none⟩) 3 24)).run Tryz.prog W = .ok (.string ⟨#[50, 46, 53]⟩) W := by
  have h := run_convert_bytes_arg (P := Tryz.prog) W 64 5 Tryz.underlying64 Tryz.underlying5 b 0 3 24 [50, 46, 53] rfl (fun i hi => by
    rcases (by omega : i = 0 ∨ i = 1 ∨ i = 2) with rfl | rfl | rfl
    · exact h0
    · exact h1
    · exact h2) 9 Tryz.underlying9
  exact h
theorem grown_drewN {W w : World} (h : Grown W w) (n : Nat) : Grown W (w.drewN n) := h
theorem efg_at (w : World) (q n : Nat) :
    Calls Tryz.prog 68 #[.slice (some ⟨w.heap.size, 0, none⟩) 0 24, .bool false, .slice (some ⟨w.heap.size + 1, 0, none⟩) 32 32, .int .i64 1, .int .i64 2, .int .i64 2, .int .u8 103, .bool true] (((((w.alloc (.cells #[.int .u8 0, .int .u8 0, .int .u8 0, .int .u8 0, .int .u8 0, .int .u8 0, .int .u8 0, .int .u8 0, .int .u8 0, .int .u8 0, .int .u8 0, .int .u8 0, .int .u8 0, .int .u8 0, .int .u8 0, .int .u8 0, .int .u8 0, .int .u8 0, .int .u8 0, .int .u8 0, .int .u8 0, .int .u8 0, .int .u8 0, .int .u8 0] 5)).drewN q).alloc (.cells #[.int .u8 50, .int .u8 53, .int .u8 48, .int .u8 48, .int .u8 48, .int .u8 48, .int .u8 48, .int .u8 48, .int .u8 48, .int .u8 48, .int .u8 48, .int .u8 48, .int .u8 48, .int .u8 48, .int .u8 48, .int .u8 48, .int .u8 0, .int .u8 0, .int .u8 0, .int .u8 0, .int .u8 0, .int .u8 0, .int .u8 0, .int .u8 0, .int .u8 0, .int .u8 0, .int .u8 0, .int .u8 0, .int .u8 0, .int .u8 0, .int .u8 0, .int .u8 0] 81)).alloc (.cells #[.int .u64 10240000000000000000, .int .u64 0, .int .i64 6] 123)).drewN n) fun e w' => e = .returned (.slice (some ⟨w.heap.size, 0, none⟩) 3 24) ∧ w'.cell? ⟨w.heap.size, 0, none⟩ = some (.int .u8 50) ∧ w'.cell? ⟨w.heap.size, 1, none⟩ = some (.int .u8 46) ∧ w'.cell? ⟨w.heap.size, 2, none⟩ = some (.int .u8 53) ∧ Gr w w' := by
  go_enter Tryz.func68, Tryz.ntmps68
  go_wp2
  go_rounds 2
  go_rounds 2
  go_rounds 1
  refine wp_loop_rounds 2 ?_
  rw [rounds_succ]
  go_wp2
  rw [rounds_succ]
  go_wp2_with fail
  refine wp_loop_rounds 1 ?_
  rw [rounds_succ]
  go_wp2_with fail
  go_ret
  refine ⟨rfl, ?_, ?_, ?_, ?_⟩
  · go_simp
    exact World.cell?_setCell_same' _ _ _ (by go_simp)
  · go_simp
    exact World.cell?_setCell_same' _ _ _ (by go_simp)
  · go_simp
    exact World.cell?_setCell_same' _ _ _ (by go_simp)
  · repeat (first | (with_reducible refine Gr.alloc ?_ _ _) | (with_reducible refine Gr.drewN ?_ _) | (with_reducible refine Gr.setCell ?_ (Nat.le_refl _) _) | (with_reducible exact Gr.refl _))
theorem text_at {b : Nat × Nat × Nat} (w : World) (hk : Kn b w) :
    Calls Tryz.prog 50 #[.float .f64 4612811918334230528, .int .u8 103, .int .i64 (-1), .int .i64 64] w fun e w' => e = .returned (.string ⟨#[50, 46, 53]⟩) ∧ Gr w w' := by
  have hm := hmk
  have hcv := conv3
  go_enter Tryz.func50, Tryz.ntmps50
  go_wp2
  go_quiet (fail)
  go_wp2_with (first | (go_at_call 72; refine (num_at _ (by exact (((hk.alloc _).drewN _).alloc _).alloc _)).mono ?_; rintro e w' ⟨rfl, rfl⟩) | (go_at_call 69; refine (len_at1 _).mono ?_; rintro e w' ⟨rfl, rfl⟩) | (go_at_call 78; refine (short_at _ (by exact ((hk.alloc _).drewN _).alloc _)).mono ?_; rintro e w' ⟨rfl, rfl⟩) | (go_in))
  go_region_with (first | (go_at_call 72; go_must (refine (num_at (b := b) _ ?_).mono ?_); go_must (repeat (first | exact hk | refine Kn.alloc ?_ _ | refine Kn.drewN ?_ _ | refine Kn.drew ?_)); go_must (rintro e w' ⟨rfl, rfl⟩)) | (go_at_call 71; go_must (refine (setdig_drew _ _ _ ?_).mono ?_); go_must (simp); go_must (rintro e w' ⟨rfl, n, rfl⟩)))
  go_wp2_with (first | (go_at_call 68; go_must (refine (efg_at _ _ _).mono ?_); go_must (rintro e w1 ⟨rfl, hc0, hc1, hc2, hg⟩)) | go_in)
  go_ret
  exact ⟨rfl, hg⟩
end Go.Proofs.YtndbcbmkmafieaaGreatDoor
