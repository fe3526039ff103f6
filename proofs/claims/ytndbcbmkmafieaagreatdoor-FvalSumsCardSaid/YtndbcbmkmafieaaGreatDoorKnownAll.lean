/- The laws' first test: it answers true. -/
import Derived.Test.YtndbcbmkmafieaaGreatDoorKnownTwo
import Derived.Test.YtndbcbmkmafieaaGreatDoorKnownParse
import Derived.Test.YtndbcbmkmafieaaGreatDoorSum
namespace Go.Proofs.YtndbcbmkmafieaaGreatDoor
open Go.RowKit
set_option maxHeartbeats 1000000
set_option maxRecDepth 100000

theorem grown_trans {a b c : World} (h : Grown a b) (g : Grown b c) : Grown a c :=
  ⟨World.keptBut_trans h.1 (World.keptBut_mono (fun _ f => f.elim) g.1), fun x => (g.2.1 x).trans (h.2.1 x), Nat.le_trans h.2.2 g.2.2⟩

theorem k_stale (w : World) (ht : Tab w) : Calls Tryz.prog 33 #[] w fun e w' => e = .returned (.float .f64 9218868437227405314) ∧ w = w' :=
  (stale_any w ht).mono fun _ _ ⟨h, g⟩ => ⟨h.trans (by rfl), g⟩
theorem k_op {b : Nat × Nat × Nat} (w : World) (hk : Kn b w) : Calls Tryz.prog 11 #[.int .i64 4, .float .f64 4607182418800017408, .float .f64 4616189618054758400] w fun e w' => e = .returned (.tuple #[.float .f64 4598175219545276416, .bool true]) ∧ ∃ n, w' = w.drewN n := by
  have h1 : opV 4 4607182418800017408 4616189618054758400 = 4598175219545276416 := by decide +kernel
  have h2 : opOk 4 = true := by decide
  refine (op_any 4 _ _ w hk.tab).mono fun e w' ⟨h, g⟩ => ⟨?_, g⟩
  rw [h, h1, h2]
theorem k_bits (w : World) (ht : Tab w) : Calls Tryz.prog 18 #[.float .f64 9218868437227405314] w fun e w' => e = .returned (.int .u64 9221120237041090561) ∧ w = w' := by
  have h1 : canon 9218868437227405314 = 9221120237041090561 := by decide +kernel
  refine (bits_any _ w ht).mono fun e w' ⟨h, g⟩ => ⟨?_, g⟩
  rw [h, h1]; rfl
theorem k_canon (w : World) (ht : Tab w) : Calls Tryz.prog 26 #[.float .f64 9218868437227405314] w fun e w' => e = .returned (.float .f64 9221120237041090561) ∧ w = w' := by
  have h1 : canon 9218868437227405314 = 9221120237041090561 := by decide +kernel
  refine (canon_any _ w ht).mono fun e w' ⟨h, g⟩ => ⟨?_, g⟩
  rw [h, h1]
theorem k_is1 (w : World) (ht : Tab w) : Calls Tryz.prog 20 #[.float .f64 9218868437227405314] w fun e w' => e = .returned (.bool true) ∧ ∃ n, w' = w.drewN n := by
  have h1 : staleB 9218868437227405314 = true := by decide +kernel
  refine (isStale_any _ w ht).mono fun e w' ⟨h, g⟩ => ⟨?_, g⟩
  rw [h, h1]
theorem k_is2 (w : World) (ht : Tab w) : Calls Tryz.prog 20 #[.float .f64 9221120237041090561] w fun e w' => e = .returned (.bool false) ∧ ∃ n, w' = w.drewN n := by
  have h1 : staleB 9221120237041090561 = false := by decide +kernel
  refine (isStale_any _ w ht).mono fun e w' ⟨h, g⟩ => ⟨?_, g⟩
  rw [h, h1]
theorem k_sum (b : Nat) (w : World) (ht : Tab w) (c0 : w.cell? ⟨b, 0, none⟩ = some (.float .f64 4607182418800017408)) (c1 : w.cell? ⟨b, 1, none⟩ = some (.float .f64 4611686018427387904)) (c2 : w.cell? ⟨b, 2, none⟩ = some (.float .f64 4613937818241073152)) :
    Calls Tryz.prog 27 #[.slice (some ⟨b, 0, none⟩) 3 3] w fun e w' => e = .returned (.float .f64 4618441417868443648) ∧ ∃ n, w' = w.drewN n := by
  have h := sum_any b 0 2 3 (fun i => if i = 0 then 4607182418800017408 else if i = 1 then 4611686018427387904 else 4613937818241073152) w ht (by omega) (by omega) (by decide) (fun i hi => by
    rcases (by omega : i = 0 ∨ i = 1 ∨ i = 2) with rfl | rfl | rfl
    · exact c0
    · exact c1
    · exact c2)
  have h1 : sumF (fun i => if i = 0 then 4607182418800017408 else if i = 1 then 4611686018427387904 else 4613937818241073152) 2 = 4618441417868443648 := by decide +kernel
  refine h.mono fun e w' ⟨h, g⟩ => ⟨?_, g⟩
  rw [h, h1]
theorem textOf_at {b : Nat × Nat × Nat} (w : World) (hk : Kn b w) :
    Calls Tryz.prog 31 #[.float .f64 4612811918334230528] w fun e w' => e = .returned (.string ⟨#[50, 46, 53]⟩) ∧ Gr w w' := by
  go_enter Tryz.func31, Tryz.ntmps31
  go_wp2_with (first | (go_at_call 50; go_must (refine (text_at (b := b) _ ?_).mono ?_); exact hk; rintro e w1 ⟨rfl, hg⟩) | go_in)
  go_ret
  exact ⟨rfl, hg⟩

theorem known_gr {b : Nat × Nat × Nat} (w : World) (hk : Kn b w) :
    Calls Tryz.prog 9 #[] w fun e w' => e = .returned (.bool true) ∧ Gr w w' := by
  have f1 : (FloatKind.f64.format.order 4598175219545276416 4598175219545276416 == some .eq) = true := by decide +kernel
  have f2 : (FloatKind.f64.format.order 4652007308841189376 4652007308841189376 == some .eq) = true := by decide +kernel
  have f3 : (FloatKind.f64.format.order 4618441417868443648 4618441417868443648 == some .eq) = true := by decide +kernel
  go_enter Tryz.func9, Tryz.ntmps9
  go_wp2_with (first | (go_at_call 33; go_must (refine (k_stale _ hk.tab).mono ?_); rintro e w' ⟨rfl, rfl⟩) | (go_at_call 11; go_must (refine (k_op _ hk).mono ?_); rintro e w' ⟨rfl, n, rfl⟩))
  go_at_call 29
  refine (parse_at (b := b) _ (hk.drewN _)).mono ?_
  rintro e w1 ⟨rfl, hg1⟩
  have hk1 := (hk.drewN _).keep (Keep.gr hg1)
  have ht1 := hk1.tab
  go_wp2_with (first | (go_at_call 18; go_must (refine (k_bits _ ht1).mono ?_); rintro e w' ⟨rfl, rfl⟩) | (go_at_call 26; go_must (refine (k_canon _ (by exact ht1.drewN _)).mono ?_); rintro e w' ⟨rfl, rfl⟩) | (go_at_call_of 20 (Value.float .f64 9218868437227405314); go_must (refine (k_is1 _ ht1).mono ?_); rintro e w' ⟨rfl, n1, rfl⟩) | (go_at_call_of 20 (Value.float .f64 9221120237041090561); go_must (refine (k_is2 _ (by exact ht1.drewN _)).mono ?_); rintro e w' ⟨rfl, n2, rfl⟩))
  go_at_call 31
  refine (textOf_at (b := b) _ (hk1.drewN _)).mono ?_
  rintro e w2 ⟨rfl, hg2⟩
  have hk2 := (hk1.drewN (n1 + n2)).keep (Keep.gr hg2)
  have ht2 := hk2.tab
  go_wp2_with (go_at_call 27; go_must (refine (k_sum _ _ ?_ ?_ ?_ ?_).mono ?_); exact ht2.keep (Keep.alloc _ _); go_simp; go_simp; go_simp; rintro e w' ⟨rfl, n3, rfl⟩)
  go_ret
  exact ⟨rfl, Gr.trans ((Gr.refl _).drewN _) (Gr.trans hg1 (Gr.trans ((Gr.refl _).drewN _) (Gr.trans hg2 (((Gr.refl _).alloc _ _).drewN _))))⟩
theorem known_any {b : Nat × Nat × Nat} (w : World) (hk : Kn b w) :
    Calls Tryz.prog 9 #[] w fun e w' => e = .returned (.bool true) ∧ Grown w w' := (known_gr w hk).mono fun _ _ ⟨h, g⟩ => ⟨h, g.g⟩
end Go.Proofs.YtndbcbmkmafieaaGreatDoor
