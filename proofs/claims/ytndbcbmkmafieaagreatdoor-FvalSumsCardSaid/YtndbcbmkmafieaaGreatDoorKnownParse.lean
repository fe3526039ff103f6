/- What the laws' first test runs, the third part: Parse of 1e3. -/
import Derived.Test.YtndbcbmkmafieaaGreatDoorKnown
import Derived.Deep.DeepMust
namespace Go.Proofs.YtndbcbmkmafieaaGreatDoor
open Go.RowKit
set_option maxHeartbeats 1000000
set_option maxRecDepth 100000
attribute [local go_sem] bits IntKind.bits IntKind.wrap_u64 IntKind.wrap_u32'

theorem ex1 : (⟨#[49, 101, 51]⟩ : ByteArray).extract 1 3 = ⟨#[101, 51]⟩ := by decide +kernel
theorem ex2 : (⟨#[101, 51]⟩ : ByteArray).extract 1 2 = ⟨#[51]⟩ := by decide +kernel
theorem ex3 : (⟨#[101, 51]⟩ : ByteArray).extract 0 1 = ⟨#[101]⟩ := by decide +kernel
theorem ex4 : (⟨#[51]⟩ : ByteArray).extract 0 1 = ⟨#[51]⟩ := by decide +kernel
attribute [local go_sem] ex1 ex2 ex3 ex4

theorem digits_at1 (w : World) : Calls Tryz.prog 45 #[.string ⟨#[49, 101, 51]⟩] w fun e w' => e = .returned (.int .i64 1) ∧ w = w' := by
  go_enter Tryz.func45, Tryz.ntmps45
  go_wp2
  go_rounds 3
  go_ret
  exact ⟨rfl, rfl⟩
theorem digits_at2 (w : World) : Calls Tryz.prog 45 #[.string ⟨#[51]⟩] w fun e w' => e = .returned (.int .i64 1) ∧ w = w' := by
  go_enter Tryz.func45, Tryz.ntmps45
  go_wp2
  go_rounds 3
  go_ret
  exact ⟨rfl, rfl⟩
theorem decimal_at (w : World) : Calls Tryz.prog 40 #[.string ⟨#[49, 101, 51]⟩] w fun e w' => e = .returned (.bool true) ∧ w = w' := by
  go_enter Tryz.func40, Tryz.ntmps40
  go_wp2_with (first | (go_at_call_of 45 (Value.string ⟨#[49, 101, 51]⟩); go_must (refine (digits_at1 _).mono ?_); rintro e w' ⟨rfl, rfl⟩) | (go_at_call_of 45 (Value.string ⟨#[51]⟩); go_must (refine (digits_at2 _).mono ?_); rintro e w' ⟨rfl, rfl⟩) | go_in)
  go_ret
  exact ⟨rfl, rfl⟩
theorem special_at (w : World) : Calls Tryz.prog 79 #[.string ⟨#[49, 101, 51]⟩] w fun e w' => e = .returned (.tuple #[.float .f64 0, .int .i64 0, .bool false]) ∧ w = w' := by
  go_enter Tryz.func79, Tryz.ntmps79
  go_wp2
  go_ret3
  exact ⟨rfl, rfl⟩
theorem readf_at (w : World) : Calls Tryz.prog 80 #[.string ⟨#[49, 101, 51]⟩] w fun e w' => e = .returned (.tuple #[.int .u64 1, .int .i64 3, .bool false, .bool false, .bool false, .int .i64 3, .bool true]) ∧ w = w' := by
  go_enter Tryz.func80, Tryz.ntmps80
  go_wp2
  go_step3
  go_wp2
  go_step3
  go_wp2
  go_rounds 4
  go_rounds 2
  try rw [Exit.noGoto_ret]
  refine bodyPost_ret (v := .tuple #[.int .u64 1, .int .i64 3, .bool false, .bool false, .bool false, .int .i64 3, .bool true]) (by simp [results, Tryz.results80, go_sem]; exact ⟨by decide +kernel, by decide +kernel⟩) rfl ⟨rfl, rfl⟩
theorem exact_at {b : Nat × Nat × Nat} (w : World) (hk : Kn b w) : Calls Tryz.prog 90 #[.int .u64 1, .int .i64 3, .bool false] w fun e w' => e = .returned (.tuple #[.float .f64 4652007308841189376, .bool true]) ∧ Gr w w' := by
  have h2 := hk.mb
  have h3 := hk.f10
  have h4 := hk.f3
  have e1 : floatOfInt .f64 1 = 4607182418800017408 := by decide +kernel
  have e2 : (FloatKind.f64.format.order 4607182418800017408 4831355200913801216 == some .gt) = false := by decide +kernel
  have e3 : (FloatKind.f64.format.order 4607182418800017408 14054727237768577024 == some .lt) = false := by decide +kernel
  have e4 : Ieee.double.mul 4607182418800017408 4652007308841189376 = some 4652007308841189376 := by decide +kernel
  have hr := fun t w => run_mul_some (P := Tryz.prog) e4 t w
  clear e4
  go_enter Tryz.func90, Tryz.ntmps90
  go_wp2
  go_ret2
  exact ⟨rfl, Gr.refl _⟩
theorem parsef_at {b : Nat × Nat × Nat} (w : World) (hk : Kn b w) : Calls Tryz.prog 48 #[.string ⟨#[49, 101, 51]⟩, .int .i64 64] w fun e w' => e = .returned (.tuple #[.float .f64 4652007308841189376, .nilIface]) ∧ Gr w w' := by
  have h1 := hk.opt
  have h2 := hk.mb
  have h3 := hk.f10
  have h4 := hk.f3
  go_enter Tryz.func48, Tryz.ntmps48
  go_wp2_with (first | (go_at_call 79; go_must (refine (special_at _).mono ?_); rintro e w' ⟨rfl, rfl⟩) | (go_at_call 80; go_must (refine (readf_at _).mono ?_); rintro e w' ⟨rfl, rfl⟩) | (go_at_call 90; go_must (refine (exact_at (b := b) _ ?_).mono ?_); exact hk; rintro e w1 ⟨rfl, hg⟩) | go_in)
  go_ret2
  exact ⟨rfl, hg⟩
theorem parse_at {b : Nat × Nat × Nat} (w : World) (hk : Kn b w) : Calls Tryz.prog 29 #[.string ⟨#[49, 101, 51]⟩] w fun e w' => e = .returned (.tuple #[.float .f64 4652007308841189376, .bool true]) ∧ Gr w w' := by
  go_enter Tryz.func29, Tryz.ntmps29
  go_wp2_with (first | (go_at_call 40; go_must (refine (decimal_at _).mono ?_); rintro e w' ⟨rfl, rfl⟩) | (go_at_call 48; go_must (refine (parsef_at (b := b) _ ?_).mono ?_); exact hk; rintro e w1 ⟨rfl, hg⟩) | go_in)
  go_ret2
  exact ⟨rfl, hg⟩
end Go.Proofs.YtndbcbmkmafieaaGreatDoor
