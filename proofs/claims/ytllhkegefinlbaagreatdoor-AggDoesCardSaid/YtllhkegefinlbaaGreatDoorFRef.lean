/- The contracts of the reference's functions of values: they answer as the program's. -/
import Derived.Test.YtllhkegefinlbaaGreatDoorFSignMath
import Derived.BigRegion
import Derived.Deep.DeepMust
namespace Go.Proofs.YtllhkegefinlbaaGreatDoor.Fv
open Go.RowKit
set_option maxHeartbeats 1000000
set_option maxRecDepth 100000

/-- every cell that was known is so still -/
def Keep (w w' : World) : Prop := ∀ b o v, w.cell? ⟨b, o, none⟩ = some v → w'.cell? ⟨b, o, none⟩ = some v
theorem Keep.alloc (w : World) (o : Obj) : Keep w (w.alloc o) := fun _ _ _ h => (World.cell?_alloc_lt _ _ _ (World.block_lt_of_cell? w _ h)).trans h
theorem Keep.drewN (w : World) (n : Nat) : Keep w (w.drewN n) := fun _ _ _ h => h
theorem Keep.drew (w : World) : Keep w w.drew := fun _ _ _ h => h
theorem Keep.grown {w w' : World} (g : Grown w w') : Keep w w' := fun _ _ _ h => (g.1.cell (World.block_lt_of_cell? w _ h) (fun f => f)).trans h
/-- nothing that was there has changed; and what is new is not frozen -/
structure Gr (w w' : World) : Prop where
  b : Below w.heap.size w w'
  g : Grown w w'
theorem Gr.refl (w : World) : Gr w w := ⟨Below.refl _ _, Grown.refl _⟩
theorem Gr.alloc {w w' : World} (h : Gr w w') (c : Array Value) (t : TypeId) : Gr w (w'.alloc (.cells c t)) := ⟨h.b.alloc h.b.size _, h.g.alloc c t⟩
theorem Gr.setCell {w w' : World} (h : Gr w w') {a : Addr} (ha : w.heap.size ≤ a.block) (v : Value) : Gr w (w'.setCell a v) := ⟨h.b.setCell ha v, h.g.setCell ha v⟩
theorem Gr.drewN {w w' : World} (h : Gr w w') (n : Nat) : Gr w (w'.drewN n) := ⟨below_drewN h.b n, h.g⟩
theorem Gr.trans {a b c : World} (h : Gr a b) (g : Gr b c) : Gr a c :=
  ⟨h.b.trans (g.b.mono h.b.size), ⟨World.keptBut_trans h.g.1 (World.keptBut_mono (fun _ f => f.elim) g.g.1), fun x => (g.g.2.1 x).trans (h.g.2.1 x), Nat.le_trans h.g.2.2 g.g.2.2⟩⟩
theorem Keep.gr {w w' : World} (g : Gr w w') : Keep w w' := Keep.grown g.g
theorem Keep.trans {a b c : World} (h : Keep a b) (g : Keep b c) : Keep a c := fun x y v e => g x y v (h x y v e)
theorem Tab.keep {w w' : World} (h : Tab w) (k : Keep w w') : Tab w' := ⟨k _ _ _ h.c0, k _ _ _ h.c1, k _ _ _ h.c2, k _ _ _ h.c3⟩

attribute [local go_sem] bits IntKind.bits IntKind.wrap_u64 IntKind.wrap_u32'

theorem hmk : ∀ w : World, (Instr.makeSlice 97 (.int .i64 0) (.int .i64 24)).run Tryz.prog w = .ok (.slice (some ⟨w.heap.size, 0, none⟩) 0 24) (w.alloc (.cells #[.int .u8 0, .int .u8 0, .int .u8 0, .int .u8 0, .int .u8 0, .int .u8 0, .int .u8 0, .int .u8 0, .int .u8 0, .int .u8 0, .int .u8 0, .int .u8 0, .int .u8 0, .int .u8 0, .int .u8 0, .int .u8 0, .int .u8 0, .int .u8 0, .int .u8 0, .int .u8 0, .int .u8 0, .int .u8 0, .int .u8 0, .int .u8 0] 5)) := fun _ => by kernel_rfl

theorem len_at1 (w : World) : Calls Tryz.prog 91 #[.int .u64 5629499534213120] w fun e w' => e = .returned (.int .i64 53) ∧ w = w' := by
  go_enter Tryz.func91, Tryz.ntmps91
  go_wp2
  go_ret
  exact ⟨by kernel_rfl, rfl⟩
theorem len_at2 (w : World) : Calls Tryz.prog 91 #[.int .u64 2500000000000000] w fun e w' => e = .returned (.int .i64 52) ∧ w = w' := by
  go_enter Tryz.func91, Tryz.ntmps91
  go_wp2
  go_ret
  exact ⟨by kernel_rfl, rfl⟩
theorem fmt10_at (W : World) (o : Obj) (B : Nat) (hB : B = W.heap.size) :
    Calls Tryz.prog 110 #[.slice (some ⟨B, 0, none⟩) 16 32, .int .u64 2500000000000000] ((W.alloc (.cells #[.int .u8 0, .int .u8 0, .int .u8 0, .int .u8 0, .int .u8 0, .int .u8 0, .int .u8 0, .int .u8 0, .int .u8 0, .int .u8 0, .int .u8 0, .int .u8 0, .int .u8 0, .int .u8 0, .int .u8 0, .int .u8 0, .int .u8 0, .int .u8 0, .int .u8 0, .int .u8 0, .int .u8 0, .int .u8 0, .int .u8 0, .int .u8 0, .int .u8 0, .int .u8 0, .int .u8 0, .int .u8 0, .int .u8 0, .int .u8 0, .int .u8 0, .int .u8 0] 131)).alloc o) fun e w' => e = .returned (.tuple #[]) ∧ ∃ n, w' = ((W.alloc (.cells #[.int .u8 50, .int .u8 53, .int .u8 48, .int .u8 48, .int .u8 48, .int .u8 48, .int .u8 48, .int .u8 48, .int .u8 48, .int .u8 48, .int .u8 48, .int .u8 48, .int .u8 48, .int .u8 48, .int .u8 48, .int .u8 48, .int .u8 0, .int .u8 0, .int .u8 0, .int .u8 0, .int .u8 0, .int .u8 0, .int .u8 0, .int .u8 0, .int .u8 0, .int .u8 0, .int .u8 0, .int .u8 0, .int .u8 0, .int .u8 0, .int .u8 0, .int .u8 0] 131)).alloc o).drewN n := by
  subst hB
  go_enter Tryz.func110, Tryz.ntmps110
  go_wp2
  refine wp_loop_rounds 3 ?_
  rw [rounds_succ]
  go_wp2
  go_region
  go_wp2
  go_region
  go_wp2
  go_region
  go_wp2
  go_region
  go_wp2
  rw [rounds_succ]
  go_wp2
  go_region
  go_wp2
  go_region
  go_wp2
  go_region
  go_wp2
  go_region
  go_wp2
  rw [rounds_succ]
  go_wp2
  go_end0
  exact ⟨rfl, 8, by kernel_rfl⟩

end Go.Proofs.YtllhkegefinlbaaGreatDoor.Fv
namespace Go.Proofs.YtllhkegefinlbaaGreatDoor.Fv
open Go.RowKit
set_option maxHeartbeats 1000000
set_option maxRecDepth 100000
attribute [local go_sem] bits IntKind.bits IntKind.wrap_u64 IntKind.wrap_u32'
theorem drew_drewN (w : World) (n : Nat) : w.drew.drewN n = w.drewN (n + 1) := by
  show ({ w with drawn := w.drawn + 1 + n } : World) = { w with drawn := w.drawn + (n + 1) }
  rw [Nat.add_assoc, Nat.add_comm 1 n]
theorem conv3 (W : World) (b : Nat) (h0 : W.cell? ⟨b, 0, none⟩ = some (.int .u8 50)) (h1 : W.cell? ⟨b, 1, none⟩ = some (.int .u8 46)) (h2 : W.cell? ⟨b, 2, none⟩ = some (.int .u8 53)) :
    (convert 97 9 (.slice (some ⟨b, 0, none⟩) 3 24)).run Tryz.prog W = .ok (.string ⟨#[50, 46, 53]⟩) W := by
  have h := run_convert_bytes_arg (P := Tryz.prog) W 97 5 Tryz.underlying97 Tryz.underlying5 b 0 3 24 [50, 46, 53] rfl (fun i hi => by
    rcases (by omega : i = 0 ∨ i = 1 ∨ i = 2) with rfl | rfl | rfl
    · exact h0
    · exact h1
    · exact h2) 9 Tryz.underlying9
  exact h
theorem grown_drewN {W w : World} (h : Grown W w) (n : Nat) : Grown W (w.drewN n) := h
end Go.Proofs.YtllhkegefinlbaaGreatDoor.Fv
namespace Go.Proofs.YtllhkegefinlbaaGreatDoor.Fv
open Go.RowKit
set_option maxHeartbeats 1000000
set_option maxRecDepth 100000

theorem grown_trans {a b c : World} (h : Grown a b) (g : Grown b c) : Grown a c :=
  ⟨World.keptBut_trans h.1 (World.keptBut_mono (fun _ f => f.elim) g.1), fun x => (g.2.1 x).trans (h.2.1 x), Nat.le_trans h.2.2 g.2.2⟩

theorem k_canon (w : World) (ht : Tab w) : Calls Tryz.prog 35 #[.float .f64 9218868437227405314] w fun e w' => e = .returned (.float .f64 9221120237041090561) ∧ w = w' := by
  have h1 : canon 9218868437227405314 = 9221120237041090561 := by decide +kernel
  refine (canon_any _ w ht).mono fun e w' ⟨h, g⟩ => ⟨?_, g⟩
  rw [h, h1]
theorem k_sum (b : Nat) (w : World) (ht : Tab w) (c0 : w.cell? ⟨b, 0, none⟩ = some (.float .f64 4607182418800017408)) (c1 : w.cell? ⟨b, 1, none⟩ = some (.float .f64 4611686018427387904)) (c2 : w.cell? ⟨b, 2, none⟩ = some (.float .f64 4613937818241073152)) :
    Calls Tryz.prog 49 #[.slice (some ⟨b, 0, none⟩) 3 3] w fun e w' => e = .returned (.float .f64 4618441417868443648) ∧ ∃ n, w' = w.drewN n := by
  have h := sum_any b 0 2 3 (fun i => if i = 0 then 4607182418800017408 else if i = 1 then 4611686018427387904 else 4613937818241073152) w ht (by omega) (by omega) (by decide) (fun i hi => by
    rcases (by omega : i = 0 ∨ i = 1 ∨ i = 2) with rfl | rfl | rfl
    · exact c0
    · exact c1
    · exact c2)
  have h1 : sumF (fun i => if i = 0 then 4607182418800017408 else if i = 1 then 4611686018427387904 else 4613937818241073152) 2 = 4618441417868443648 := by decide +kernel
  refine h.mono fun e w' ⟨h, g⟩ => ⟨?_, g⟩
  rw [h, h1]
end Go.Proofs.YtllhkegefinlbaaGreatDoor.Fv
namespace Go.Proofs.YtllhkegefinlbaaGreatDoor.Fv
open Go.RowKit
set_option maxHeartbeats 1000000
set_option maxRecDepth 100000

theorem nan_walk {a : Nat} {c : Bool} (h : nanB a = c) : (FloatKind.f64.format.order a a != some .eq) = c := h
end Go.Proofs.YtllhkegefinlbaaGreatDoor.Fv
namespace Go.Proofs.YtllhkegefinlbaaGreatDoor.Fv
open Go.RowKit
set_option maxHeartbeats 1000000
set_option maxRecDepth 100000

theorem add_nan_right {b : Nat} (v : Nat) (h : nanB b = true) : Ieee.double.add v b = none := by
  rw [nanB_key] at h
  have hr : 0x7FF0000000000000 < Flo.rung b := by simpa [Flo.isNan] using h
  rcases Flo.shape b with ⟨m, p, _, hx, _⟩ | ⟨hx, _⟩ | ⟨_, hrx⟩
  · omega
  · omega
  · unfold Ieee.Format.add
    rw [hrx]
    cases Ieee.double.read v <;> rfl
theorem rcanon_any (b : Nat) (w : World) :
    Calls Tryz.prog 58 #[.float .f64 b] w fun e w' => e = .returned (.float .f64 (canon b)) ∧ w = w' := by
  cases hn : nanB b
  all_goals
    have hn' := nan_walk hn
    have hv : canon b = canon b := rfl
    conv at hv => rhs; simp only [canon, hn, Bool.false_eq_true, if_false, if_true]
    have Hv := Lib.hid hv; clear hv hn
    go_enter Tryz.func58, Tryz.ntmps58
    go_wp2
    go_ret
    exact ⟨by rw [Hv.out]; rfl, rfl⟩
theorem rbits_any (b : Nat) (w : World) :
    Calls Tryz.prog 59 #[.float .f64 b] w fun e w' => e = .returned (.int .u64 (canon b)) ∧ w = w' := by
  go_enter Tryz.func59, Tryz.ntmps59
  go_wp2_with (go_at_call 58; refine (rcanon_any _ _).mono ?_; rintro e w' ⟨rfl, rfl⟩)
  go_ret
  exact ⟨rfl, rfl⟩
theorem rsame_any (a b : Nat) (w : World) :
    Calls Tryz.prog 28 #[.float .f64 a, .float .f64 b] w fun e w' => e = .returned (.bool (sameB a b)) ∧ w = w' := by
  go_enter Tryz.func28, Tryz.ntmps28
  go_wp2_with (go_at_call 59; refine (rbits_any _ _).mono ?_; rintro e w' ⟨rfl, rfl⟩)
  go_ret
  exact ⟨rfl, rfl⟩
theorem sgn_shift (b : Nat) (h : b < 2 ^ 64) : ((b : Int) / 9223372036854775808 == 1) = Flo.sgn b := by
  unfold Flo.sgn
  rw [Bool.eq_iff_iff, beq_iff_eq, beq_iff_eq]
  omega
theorem rminus_any (b : Nat) (w : World) (h : b < 2 ^ 64) :
    Calls Tryz.prog 97 #[.float .f64 b] w fun e w' => e = .returned (.bool (Flo.sgn b)) ∧ w = w' := by
  go_enter Tryz.func97, Tryz.ntmps97
  go_wp2
  go_ret
  exact ⟨by rw [← sgn_shift b h]; rfl, rfl⟩
theorem rbefore_any (a b : Nat) (w : World) (ha : a < 2 ^ 64) (hb : b < 2 ^ 64) :
    Calls Tryz.prog 80 #[.float .f64 a, .float .f64 b] w fun e w' => e = .returned (.bool (befB a b)) ∧ w = w' := by
  cases na : nanB a <;> cases nb : nanB b
  case false.false =>
    have na' := nan_walk na
    have nb' := nan_walk nb
    have z1 : eqB a 0 = decide (Flo.key a = 0) := by rw [eqB_key, na, show nanB 0 = false by decide +kernel, show Flo.key 0 = 0 by decide +kernel]; rfl
    have z2 : eqB b 0 = decide (Flo.key b = 0) := by rw [eqB_key, nb, show nanB 0 = false by decide +kernel, show Flo.key 0 = 0 by decide +kernel]; rfl
    by_cases ka : Flo.key a = 0 <;> by_cases kb : Flo.key b = 0
    · rw [decide_eq_true ka] at z1
      rw [decide_eq_true kb] at z2
      have q1 := eq_walk z1
      have q2 := eq_walk z2
      have hl : befB a b = (Flo.sgn a && !Flo.sgn b) := by
        unfold befB
        rw [na, nb, eqB_key, na, nb, ka, kb, sgnB_key a ha, sgnB_key b hb]; rfl
      have Hl := Lib.hid hl; clear hl z1 z2 ka kb na nb
      have HA := Lib.hid ha; have HB := Lib.hid hb; clear ha hb
      cases hs : Flo.sgn a
      all_goals
        go_enter Tryz.func80, Tryz.ntmps80
        go_wp2_with (first | (go_at_call_of 97 (Value.float .f64 a); refine (rminus_any _ _ HA.out).mono ?_; rintro e w' ⟨rfl, rfl⟩) | (go_at_call_of 97 (Value.float .f64 b); refine (rminus_any _ _ HB.out).mono ?_; rintro e w' ⟨rfl, rfl⟩))
        go_ret
        exact ⟨by rw [Hl.out, hs]; rfl, rfl⟩
    all_goals
      have hl : befB a b = ltB a b := by
        rw [befB_tk a b ha hb, ltB_key, na, nb, tk_num na, tk_num nb]
        simp only [Bool.not_false, Bool.true_and]
        congr 1
        apply propext
        have k1 := key_sgn a
        have k2 := key_sgn b
        cases sa : Flo.sgn a <;> cases sb : Flo.sgn b
        all_goals
          rw [sa] at k1
          rw [sb] at k2
          simp only [reduceCtorEq, false_implies, true_implies, true_and, and_true, Bool.false_eq_true, and_false, if_false] at k1 k2 ⊢
          (repeat' split) <;> omega
      have q1 := eq_walk z1
      have q2 := eq_walk z2
      have Hl := Lib.hid hl; clear hl z1 z2 na nb
      have HA := Lib.hid ha; have HB := Lib.hid hb; clear ha hb
      first | rw [decide_eq_true ka] at q1 | rw [decide_eq_false ka] at q1
      first | rw [decide_eq_true kb] at q2 | rw [decide_eq_false kb] at q2
      clear ka kb
      go_enter Tryz.func80, Tryz.ntmps80
      go_wp2
      go_ret
      exact ⟨by rw [Hl.out]; rfl, rfl⟩
  all_goals
    have hl : befB a b = (nanB a && !nanB b) := by simp [befB, na, nb]
    rw [na, nb] at hl
    have na' := nan_walk na
    have nb' := nan_walk nb
    have e1 : (FloatKind.f64.format.order b b == some .eq) = !nanB b := (Bool.not_not _).symm
    rw [nb] at e1
    have Hl := Lib.hid hl; clear hl na nb
    have HA := Lib.hid ha; have HB := Lib.hid hb; clear ha hb
    go_enter Tryz.func80, Tryz.ntmps80
    go_wp2
    go_ret
    exact ⟨by rw [Hl.out]; first | rfl | (simp [e1]; done), rfl⟩

end Go.Proofs.YtllhkegefinlbaaGreatDoor.Fv
