/- The turning sum, the program's and the reference's; Join. -/
import Derived.Test.YtjjfkjpkbpefpaaDoorWFn
namespace Go.Proofs.YtjjfkjpkbpefpaaDoor
open Go.RowKit
set_option maxRecDepth 100000
set_option maxHeartbeats 2000000

/-- the turning sum of the first k: its parts -/
def sumF (x : Nat → Nat) : Nat → Nat × Nat
  | 0 => (0, 0)
  | k + 1 => match k % 4 with
    | 0 => (addC (sumF x k).1 (x k), (sumF x k).2)
    | 1 => ((sumF x k).1, addC (sumF x k).2 (x k))
    | 2 => (subC (sumF x k).1 (x k), (sumF x k).2)
    | _ => ((sumF x k).1, subC (sumF x k).2 (x k))
theorem sumF_0 {x : Nat → Nat} {k : Nat} (h : k % 4 = 0) : sumF x (k + 1) = (addC (sumF x k).1 (x k), (sumF x k).2) := by
  show (match k % 4 with | 0 => _ | 1 => _ | 2 => _ | _ => _) = _
  rw [h]; rfl
theorem sumF_1 {x : Nat → Nat} {k : Nat} (h : k % 4 = 1) : sumF x (k + 1) = ((sumF x k).1, addC (sumF x k).2 (x k)) := by
  show (match k % 4 with | 0 => _ | 1 => _ | 2 => _ | _ => _) = _
  rw [h]; rfl
theorem sumF_2 {x : Nat → Nat} {k : Nat} (h : k % 4 = 2) : sumF x (k + 1) = (subC (sumF x k).1 (x k), (sumF x k).2) := by
  show (match k % 4 with | 0 => _ | 1 => _ | 2 => _ | _ => _) = _
  rw [h]; rfl
theorem sumF_3 {x : Nat → Nat} {k : Nat} (h : k % 4 = 3) : sumF x (k + 1) = ((sumF x k).1, subC (sumF x k).2 (x k)) := by
  show (match k % 4 with | 0 => _ | 1 => _ | 2 => _ | _ => _) = _
  rw [h]; rfl
theorem sumF_z (x : Nat → Nat) : sumF x 0 = (0, 0) := rfl
attribute [irreducible] sumF
theorem canon_0 : canon 0 = 0 := by decide +kernel
/-- values in memory -/
def FlsAt (W : World) (A : Option Addr) (n : Nat) (x : Nat → Nat) : Prop := 0 < n → ∃ b o, A = some ⟨b, o, none⟩ ∧ ∀ i, i < n → W.cell? ⟨b, o + i, none⟩ = some (.float .f64 (x i))
theorem FlsAt.drewN {W : World} {A : Option Addr} {n : Nat} {x : Nat → Nat} (h : FlsAt W A n x) (k : Nat) : FlsAt (W.drewN k) A n x := h

theorem sum_any (A : Option Addr) (n cap : Nat) (x : Nat → Nat) (w : World) (ht : Tab w) (h : FlsAt w A n x) (hn : n ≤ maxLen) :
    Calls Tryd.prog 54 #[.slice A n cap] w fun e w' => e = .returned (.complex .f64 (sumF x n).1 (sumF x n).2) ∧ ∃ m, w' = w.drewN m := by
  have H := Lib.hid h; have HT := Lib.hid ht
  unfold maxLen at hn
  clear h ht
  go_enter Tryd.func54, Tryd.ntmps54
  go_wp2
  go_loopw [3, 4, 9] (fun r i j wr => ∃ k : Nat, k ≤ n ∧ j = .int .i64 k ∧ (∃ a, r = .float .f64 a ∧ Hid (canon a = (sumF x k).1)) ∧ (∃ b, i = .float .f64 b ∧ Hid (canon b = (sumF x k).2)) ∧ ∃ m, wr = w.drewN m) (fun _ _ j _ => n - (intOf j).toNat)
  case atStart => exact ⟨0, Nat.zero_le _, rfl, ⟨0, rfl, Lib.hid (by rw [canon_0, sumF_z])⟩, ⟨0, rfl, Lib.hid (by rw [canon_0, sumF_z])⟩, 0, rfl⟩
  case round =>
    obtain ⟨k, hk, rfl, ⟨a, rfl, HA⟩, ⟨b, rfl, HB⟩, m, rfl⟩ := hrel
    by_cases hlt : k < n
    · obtain ⟨g, o, rfl, hc⟩ := H.out (by omega)
      have hcell := hc k hlt
      clear hc
      rcases (by omega : k % 4 = 0 ∨ k % 4 = 1 ∨ k % 4 = 2 ∨ k % 4 = 3) with h4 | h4 | h4 | h4
      · have HS := Lib.hid (sumF_0 (x := x) h4)
        have CP := Lib.hid (fun W => phase_any (k : Int) W)
        rw [show (k : Int) % 4 = 0 by omega] at CP
        clear h4
        go_wp2_with (go_at_call 63; refine (CP.out _).mono ?_; rintro e w' ⟨rfl, rfl⟩)
        go_roundw
        case rel =>
          refine ⟨k + 1, by omega, by go_num, ⟨_, rfl, Lib.hid ?_⟩, ⟨_, rfl, Lib.hid ?_⟩, _, rfl⟩
          · rw [HS.out]; exact (addV_c _ _ _).trans (addC_l _ HA.out)
          · rw [HS.out]; exact HB.out
        case measure => simp [intOf]; omega
      · have HS := Lib.hid (sumF_1 (x := x) h4)
        have CP := Lib.hid (fun W => phase_any (k : Int) W)
        rw [show (k : Int) % 4 = 1 by omega] at CP
        clear h4
        go_wp2_with (go_at_call 63; refine (CP.out _).mono ?_; rintro e w' ⟨rfl, rfl⟩)
        go_roundw
        case rel =>
          refine ⟨k + 1, by omega, by go_num, ⟨_, rfl, Lib.hid ?_⟩, ⟨_, rfl, Lib.hid ?_⟩, _, rfl⟩
          · rw [HS.out]; exact HA.out
          · rw [HS.out]; exact (addV_c _ _ _).trans (addC_l _ HB.out)
        case measure => simp [intOf]; omega
      · have HS := Lib.hid (sumF_2 (x := x) h4)
        have CP := Lib.hid (fun W => phase_any (k : Int) W)
        rw [show (k : Int) % 4 = 2 by omega] at CP
        clear h4
        go_wp2_with (go_at_call 63; refine (CP.out _).mono ?_; rintro e w' ⟨rfl, rfl⟩)
        go_roundw
        case rel =>
          refine ⟨k + 1, by omega, by go_num, ⟨_, rfl, Lib.hid ?_⟩, ⟨_, rfl, Lib.hid ?_⟩, _, rfl⟩
          · rw [HS.out]; exact (subV_c _ _ _).trans (subC_l _ HA.out)
          · rw [HS.out]; exact HB.out
        case measure => simp [intOf]; omega
      · have HS := Lib.hid (sumF_3 (x := x) h4)
        have CP := Lib.hid (fun W => phase_any (k : Int) W)
        rw [show (k : Int) % 4 = 3 by omega] at CP
        clear h4
        go_wp2_with (go_at_call 63; refine (CP.out _).mono ?_; rintro e w' ⟨rfl, rfl⟩)
        go_roundw
        case rel =>
          refine ⟨k + 1, by omega, by go_num, ⟨_, rfl, Lib.hid ?_⟩, ⟨_, rfl, Lib.hid ?_⟩, _, rfl⟩
          · rw [HS.out]; exact HA.out
          · rw [HS.out]; exact (subV_c _ _ _).trans (subC_l _ HB.out)
        case measure => simp [intOf]; omega
    · obtain rfl : k = n := by omega
      have n3 : ¬ (k : Int) < (k : Int) := by omega
      go_wp2_with (go_at_call 64; refine (wcanon_any _ _ _ (by exact HT.out.drewN _)).mono ?_; rintro e w' ⟨rfl, rfl⟩)
      go_ret
      exact ⟨by rw [← HA.out, ← HB.out]; rfl, _, rfl⟩
theorem rsum_any (A : Option Addr) (n cap : Nat) (x : Nat → Nat) (w : World) (h : FlsAt w A n x) (hn : n ≤ maxLen) :
    Calls Tryd.prog 30 #[.slice A n cap] w fun e w' => e = .returned (.tuple #[.float .f64 (sumF x n).1, .float .f64 (sumF x n).2]) ∧ ∃ m, w' = w.drewN m := by
  have H := Lib.hid h
  unfold maxLen at hn
  clear h
  go_enter Tryd.func30, Tryd.ntmps30
  go_wp2
  go_loopw [4, 5, 6] (fun r i j wr => ∃ k : Nat, k ≤ n ∧ j = .int .i64 k ∧ (∃ a, r = .float .f64 a ∧ Hid (canon a = (sumF x k).1)) ∧ (∃ b, i = .float .f64 b ∧ Hid (canon b = (sumF x k).2)) ∧ ∃ m, wr = w.drewN m) (fun _ _ j _ => n - (intOf j).toNat)
  case atStart => exact ⟨0, Nat.zero_le _, rfl, ⟨0, rfl, Lib.hid (by rw [canon_0, sumF_z])⟩, ⟨0, rfl, Lib.hid (by rw [canon_0, sumF_z])⟩, 0, rfl⟩
  case round =>
    obtain ⟨k, hk, rfl, ⟨a, rfl, HA⟩, ⟨b, rfl, HB⟩, m, rfl⟩ := hrel
    by_cases hlt : k < n
    · obtain ⟨g, o, rfl, hc⟩ := H.out (by omega)
      have hcell := hc k hlt
      clear hc
      rcases (by omega : k % 4 = 0 ∨ k % 4 = 1 ∨ k % 4 = 2 ∨ k % 4 = 3) with h4 | h4 | h4 | h4
      · have HS := Lib.hid (sumF_0 (x := x) h4)
        have hm4 : (k : Int).tmod 4 = 0 := by rw [Int.tmod_eq_emod_of_nonneg (by omega)]; omega
        have hm5 : (k : Int) % 4 = 0 := by omega
        clear h4
        go_wp2
        go_roundw
        case rel =>
          refine ⟨k + 1, by omega, by go_num, ⟨_, rfl, Lib.hid ?_⟩, ⟨_, rfl, Lib.hid ?_⟩, _, rfl⟩
          · rw [HS.out]; exact (addV_c _ _ _).trans (addC_l _ HA.out)
          · rw [HS.out]; exact HB.out
        case measure => simp [intOf]; omega
      · have HS := Lib.hid (sumF_1 (x := x) h4)
        have hm4 : (k : Int).tmod 4 = 1 := by rw [Int.tmod_eq_emod_of_nonneg (by omega)]; omega
        have hm5 : (k : Int) % 4 = 1 := by omega
        clear h4
        go_wp2
        go_roundw
        case rel =>
          refine ⟨k + 1, by omega, by go_num, ⟨_, rfl, Lib.hid ?_⟩, ⟨_, rfl, Lib.hid ?_⟩, _, rfl⟩
          · rw [HS.out]; exact HA.out
          · rw [HS.out]; exact (addV_c _ _ _).trans (addC_l _ HB.out)
        case measure => simp [intOf]; omega
      · have HS := Lib.hid (sumF_2 (x := x) h4)
        have hm4 : (k : Int).tmod 4 = 2 := by rw [Int.tmod_eq_emod_of_nonneg (by omega)]; omega
        have hm5 : (k : Int) % 4 = 2 := by omega
        clear h4
        go_wp2
        go_roundw
        case rel =>
          refine ⟨k + 1, by omega, by go_num, ⟨_, rfl, Lib.hid ?_⟩, ⟨_, rfl, Lib.hid ?_⟩, _, rfl⟩
          · rw [HS.out]; exact (subV_c _ _ _).trans (subC_l _ HA.out)
          · rw [HS.out]; exact HB.out
        case measure => simp [intOf]; omega
      · have HS := Lib.hid (sumF_3 (x := x) h4)
        have hm4 : (k : Int).tmod 4 = 3 := by rw [Int.tmod_eq_emod_of_nonneg (by omega)]; omega
        have hm5 : (k : Int) % 4 = 3 := by omega
        clear h4
        go_wp2
        go_roundw
        case rel =>
          refine ⟨k + 1, by omega, by go_num, ⟨_, rfl, Lib.hid ?_⟩, ⟨_, rfl, Lib.hid ?_⟩, _, rfl⟩
          · rw [HS.out]; exact HA.out
          · rw [HS.out]; exact (subV_c _ _ _).trans (subC_l _ HB.out)
        case measure => simp [intOf]; omega
    · obtain rfl : k = n := by omega
      have n3 : ¬ (k : Int) < (k : Int) := by omega
      go_wp2_with (go_at_call 37; refine (rcanon_any _ _).mono ?_; rintro e w' ⟨rfl, rfl⟩)
      go_ret2
      exact ⟨by rw [← HA.out, ← HB.out]; rfl, _, rfl⟩
end Go.Proofs.YtjjfkjpkbpefpaaDoor
