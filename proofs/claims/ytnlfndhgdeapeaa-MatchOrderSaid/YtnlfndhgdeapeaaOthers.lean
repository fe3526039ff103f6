/- others: the bytes that a set has not. -/
import Derived.Test.YtnlfndhgdeapeaaBset
namespace Go.Proofs.Ytnlfndhgdeapeaa
open Go.RowKit
set_option maxRecDepth 100000
set_option maxHeartbeats 2000000

theorem xor_all (v : Nat) (h : v < 18446744073709551616) : bits BinOp.xor IntKind.u64 (if IntKind.u64.signed = true then -1 else IntKind.u64.max) (v : Int) = ((18446744073709551615 ^^^ v : Nat) : Int) := by
  have e : (if IntKind.u64.signed = true then -1 else IntKind.u64.max) = ((18446744073709551615 : Nat) : Int) := by decide
  rw [e, bits_xor_u64_nat _ v (by omega) h]
theorem Wd64.compl {v : Nat} {p : Nat → Bool} {i : Nat} (h : Wd64 v p i) : Wd64 (18446744073709551615 ^^^ v) (fun x => !p x) i := by
  have e : 18446744073709551615 = 2 ^ 64 - 1 := by decide
  refine ⟨Nat.xor_lt_two_pow (n := 64) (by omega) h.1, fun j hj => ?_⟩
  rw [Nat.testBit_xor, h.2 j hj, e, Nat.testBit_two_pow_sub_one, decide_eq_true hj, Bool.true_xor]
theorem Wd64.congr {v : Nat} {p q : Nat → Bool} {i : Nat} (h : Wd64 v p i) (e : ∀ j, j < 64 → p (64 * i + j) = q (64 * i + j)) : Wd64 v q i := ⟨h.1, fun j hj => by rw [h.2 j hj, e j hj]⟩
/-- the first k words are turned -/
def turned (p : Nat → Bool) (k x : Nat) : Bool := if x < 64 * k then !p x else p x
theorem BsAt.turn {W : World} {b k v : Nat} {p : Nat → Bool} (h : BsAt W b 0 (turned p k)) (hv : W.cell? ⟨b, k, none⟩ = some (.int .u64 v)) (hw : Wd64 v (turned p k) k) :
    BsAt (W.setCell ⟨b, k, none⟩ (.int .u64 ((18446744073709551615 ^^^ v : Nat) : Int))) b 0 (turned p (k + 1)) := fun i hi => by
  obtain ⟨v', hv', hf', hw'⟩ := h i hi
  rw [Nat.zero_add] at hv' hf' ⊢
  by_cases e : k = i
  · subst e
    refine ⟨_, World.cell?_setCell_same _ _ _ hv, by rw [World.frozen?_setCell]; exact hf', hw.compl.congr fun j hj => ?_⟩
    unfold turned
    rw [if_neg (by omega), if_pos (by omega)]
  · refine ⟨v', (World.cell?_setCell_other _ _ _ _ (by simp <;> omega)).trans hv', by rw [World.frozen?_setCell]; exact hf', hw'.congr fun j hj => ?_⟩
    unfold turned
    by_cases g : 64 * i + j < 64 * k
    · rw [if_pos g, if_pos (by omega)]
    · rw [if_neg g, if_neg (by omega)]
theorem others_any (v0 v1 v2 v3 : Nat) (p : Nat → Bool) (w : World) (h0 : Wd64 v0 p 0) (h1 : Wd64 v1 p 1) (h2 : Wd64 v2 p 2) (h3 : Wd64 v3 p 3) :
    Calls Try.prog 68 #[.agg #[.int .u64 v0, .int .u64 v1, .int .u64 v2, .int .u64 v3]] w fun e w' =>
      (∃ u0 u1 u2 u3 : Nat, e = .returned (.agg #[.int .u64 u0, .int .u64 u1, .int .u64 u2, .int .u64 u3]) ∧ Wd64 u0 (fun x => !p x) 0 ∧ Wd64 u1 (fun x => !p x) 1 ∧ Wd64 u2 (fun x => !p x) 2 ∧ Wd64 u3 (fun x => !p x) 3) ∧ Gr w w' := by
  go_enter Try.func68, Try.ntmps68
  go_wp2
  go_loopw [4] (fun v wr => ∃ k : Nat, k ≤ 4 ∧ v = .int .i64 k ∧ Hid (BsAt wr w.heap.size 0 (turned p k)) ∧ Hid (∀ i, i < 4 → (wr.cell? ⟨w.heap.size + 1, i, none⟩).isSome = true ∧ wr.frozen? ⟨w.heap.size + 1, i, none⟩ = false) ∧ Gr w wr) (fun v _ => 4 - (intOf v).toNat)
  case atStart =>
    refine ⟨0, by omega, rfl, Lib.hid fun i hi => ?_, Lib.hid fun i hi => ?_, ((Gr.refl w).alloc _ _).alloc _ _⟩
    · have e : ∀ (v j : Nat), Wd64 v p j → Wd64 v (turned p 0) j := fun v j h => h.congr fun x _ => by unfold turned; rw [if_neg (by omega)]
      match i, hi with
      | 0, _ => exact ⟨v0, by go_simp, by go_simp, e _ _ h0⟩
      | 1, _ => exact ⟨v1, by go_simp, by go_simp, e _ _ h1⟩
      | 2, _ => exact ⟨v2, by go_simp, by go_simp, e _ _ h2⟩
      | 3, _ => exact ⟨v3, by go_simp, by go_simp, e _ _ h3⟩
    · match i, hi with
      | 0, _ => exact ⟨by go_simp, by go_simp⟩
      | 1, _ => exact ⟨by go_simp, by go_simp⟩
      | 2, _ => exact ⟨by go_simp, by go_simp⟩
      | 3, _ => exact ⟨by go_simp, by go_simp⟩
  case round =>
    obtain ⟨k, hk, rfl, HB, HR, hg⟩ := hrel
    by_cases hlt : k < 4
    · obtain ⟨v, hv, hf, hw⟩ := HB.out k hlt
      rw [Nat.zero_add] at hv hf
      have n3 : (k : Int) < 4 := by omega
      have hx := xor_all v hw.1
      have HT := Lib.hid (HB.out.turn hv hw)
      have HR2 : Hid (∀ i, i < 4 → ((wr.setCell ⟨w.heap.size, k, none⟩ (.int .u64 ((18446744073709551615 ^^^ v : Nat) : Int))).cell? ⟨w.heap.size + 1, i, none⟩).isSome = true ∧ (wr.setCell ⟨w.heap.size, k, none⟩ (.int .u64 ((18446744073709551615 ^^^ v : Nat) : Int))).frozen? ⟨w.heap.size + 1, i, none⟩ = false) := Lib.hid fun i hi => by
        rw [World.cell?_setCell_other _ _ _ _ (by simp), World.frozen?_setCell]; exact HR.out i hi
      go_wp2
      go_roundw
      case rel => exact ⟨k + 1, by omega, by go_num, HT, HR2, hg.setCell (Nat.le_refl _) _⟩
      case measure => simp [intOf]; omega
    · obtain rfl : k = 4 := by omega
      obtain ⟨u0, c0, -, w0⟩ := HB.out 0 (by omega)
      obtain ⟨u1, c1, -, w1⟩ := HB.out 1 (by omega)
      obtain ⟨u2, c2, -, w2⟩ := HB.out 2 (by omega)
      obtain ⟨u3, c3, -, w3⟩ := HB.out 3 (by omega)
      obtain ⟨x0, e0⟩ := Option.isSome_iff_exists.1 (HR.out 0 (by omega)).1
      obtain ⟨x1, e1⟩ := Option.isSome_iff_exists.1 (HR.out 1 (by omega)).1
      obtain ⟨x2, e2⟩ := Option.isSome_iff_exists.1 (HR.out 2 (by omega)).1
      obtain ⟨x3, e3⟩ := Option.isSome_iff_exists.1 (HR.out 3 (by omega)).1
      have f0 := (HR.out 0 (by omega)).2
      have f1 := (HR.out 1 (by omega)).2
      have f2 := (HR.out 2 (by omega)).2
      have f3 := (HR.out 3 (by omega)).2
      simp only [Nat.zero_add] at c0 c1 c2 c3
      have t : ∀ (u i : Nat), i < 4 → Wd64 u (turned p 4) i → Wd64 u (fun x => !p x) i := fun u i hi h => h.congr fun j hj => by unfold turned; rw [if_pos (by omega)]
      have HW := Lib.hid (show Wd64 u0 (fun x => !p x) 0 ∧ Wd64 u1 (fun x => !p x) 1 ∧ Wd64 u2 (fun x => !p x) 2 ∧ Wd64 u3 (fun x => !p x) 3 from ⟨t _ _ (by omega) w0, t _ _ (by omega) w1, t _ _ (by omega) w2, t _ _ (by omega) w3⟩)
      clear w0 w1 w2 w3 t
      go_wp2
      have hres : Try.f68.results = #[.cell 2 54] := by kernel_rfl
      refine bodyPost_ret (v := .agg #[.int .u64 u0, .int .u64 u1, .int .u64 u2, .int .u64 u3]) ?_ rfl ?_
      · simp only [results, hres]
        go_simp
      exact ⟨⟨u0, u1, u2, u3, rfl, HW.out⟩, (((hg.setCell (by simp) _).setCell (by simp) _).setCell (by simp) _).setCell (by simp) _⟩
end Go.Proofs.Ytnlfndhgdeapeaa
