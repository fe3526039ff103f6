/- The reference's Sum, Least, increase, changes, Cut. -/
import Derived.Test.YtjjfkjpkbpefpaaDoorVInc
namespace Go.Proofs.YtjjfkjpkbpefpaaDoor.Vn
open Go.RowKit
set_option maxRecDepth 100000
set_option maxHeartbeats 4000000

theorem rsumL_any (A : Option Addr) (cap : Nat) (l : List Nat) (w : World) (h : FlL w A l) (hn : l.length ≤ 1099511627776) :
    Calls Tryd.prog 31 #[.slice A l.length cap] w fun e w' => e = .returned (.float .f64 (sumL l)) ∧ ∃ n, w' = w.drewN n := by
  cases l with
  | nil =>
    clear h
    go_enter Tryd.func31, Tryd.ntmps31
    go_wp2
    go_ret
    exact ⟨rfl, 0, rfl⟩
  | cons x r =>
    obtain ⟨b, off, rfl, hcells⟩ := h (by simp)
    obtain ⟨c0, -⟩ := tail_cells hcells
    obtain ⟨m, hm⟩ : ∃ m, r.length = m := ⟨_, rfl⟩
    have HC : Hid (∀ i y, r[i]? = some y → w.cell? ⟨b, off + (i + 1), none⟩ = some (.float .f64 y)) := Lib.hid fun i y hi => hcells (i + 1) y hi
    have hl : (x :: r).length = m + 1 := by rw [← hm]; rfl
    rw [hl] at hn ⊢
    have HS : Hid (∀ k y, r[k]? = some y → (r.take (k + 1)).foldl addC (canon x) = addC ((r.take k).foldl addC (canon x)) y) := Lib.hid fun k y hy => foldl_s _ _ hy
    have HE : Hid ((r.take m).foldl addC (canon x) = sumL (x :: r)) := Lib.hid (by rw [← hm, List.take_length]; rfl)
    have HL : Hid (∀ k, k < m → ∃ y, r[k]? = some y) := Lib.hid fun k hk => ⟨_, List.getElem?_eq_getElem (by omega)⟩
    clear hcells h hl hm
    go_enter Tryd.func31, Tryd.ntmps31
    go_wp2
    go_loopw [3, 4] (fun s i wr => ∃ k : Nat, k ≤ m ∧ i = .int .i64 ((k : Int) + 1) ∧ (∃ c, s = .float .f64 c ∧ Hid (canon c = (r.take k).foldl addC (canon x))) ∧ ∃ n, wr = w.drewN n) (fun _ i _ => m + 1 - (intOf i).toNat)
    case atStart => exact ⟨0, Nat.zero_le _, rfl, ⟨_, rfl, Lib.hid rfl⟩, 0, rfl⟩
    case round =>
      obtain ⟨k, hk, rfl, ⟨c, rfl, HCC⟩, n, rfl⟩ := hrel
      by_cases hlt : k < m
      · obtain ⟨y, hy⟩ := HL.out k hlt
        have hcell := HC.out k y hy
        have HY := Lib.hid (HS.out k y hy)
        have n1 : (0 : Int) ≤ (k : Int) + 1 := by omega
        have n2 : (k : Int) + 1 < (m : Int) + 1 := by omega
        clear hy
        go_wp2
        go_roundw
        case rel => exact ⟨k + 1, by omega, by go_num, ⟨_, rfl, Lib.hid (by rw [HY.out]; exact (addV_c _ _ _).trans (addC_l _ HCC.out))⟩, _, rfl⟩
        case measure => simp [intOf]; omega
      · obtain rfl : k = m := by omega
        have n3 : ¬ (k : Int) + 1 < (k : Int) + 1 := by omega
        go_wp2_with (go_at_call 37; refine (rcanon_any _ _).mono ?_; rintro e w' ⟨rfl, rfl⟩)
        go_ret
        exact ⟨by rw [HCC.out, HE.out]; rfl, _, rfl⟩
theorem rleast_any (most : Bool) (A : Option Addr) (cap x : Nat) (r : List Nat) (w : World) (h : FlL w A (x :: r)) (hn : r.length ≤ 1099511627776) :
    Calls Tryd.prog 32 #[.slice A (r.length + 1) cap, .bool most] w fun e w' => e = .returned (.float .f64 (extL most (x :: r))) ∧ w = w' := by
  obtain ⟨b, off, rfl, hcells⟩ := h (by simp)
  obtain ⟨c0, -⟩ := tail_cells hcells
  obtain ⟨m, hm⟩ : ∃ m, r.length = m := ⟨_, rfl⟩
  have HC : Hid (∀ i y, r[i]? = some y → w.cell? ⟨b, off + (i + 1), none⟩ = some (.float .f64 y)) := Lib.hid fun i y hi => hcells (i + 1) y hi
  rw [hm] at hn ⊢
  have HS : Hid (∀ k y, r[k]? = some y → (r.take (k + 1)).foldl (extS most) x = extS most ((r.take k).foldl (extS most) x) y) := Lib.hid fun k y hy => foldl_s _ _ hy
  have HE : Hid ((r.take m).foldl (extS most) x = extL most (x :: r)) := Lib.hid (by rw [← hm, List.take_length]; rfl)
  have HL : Hid (∀ k, k < m → ∃ y, r[k]? = some y) := Lib.hid fun k hk => ⟨_, List.getElem?_eq_getElem (by omega)⟩
  have HX : Hid (∀ a y, extS most a y = if nanB a || (if most then gtB y a else ltB y a) then y else a) := Lib.hid fun _ _ => rfl
  clear hcells h hm
  go_enter Tryd.func32, Tryd.ntmps32
  go_wp2
  go_loopw [5, 6] (fun s i wr => ∃ k : Nat, k ≤ m ∧ i = .int .i64 ((k : Int) + 1) ∧ s = .float .f64 ((r.take k).foldl (extS most) x) ∧ wr = w) (fun _ i _ => m + 1 - (intOf i).toNat)
  case atStart => exact ⟨0, Nat.zero_le _, rfl, rfl, rfl⟩
  case round =>
    obtain ⟨k, hk, rfl, rfl, rfl⟩ := hrel
    by_cases hlt : k < m
    · obtain ⟨y, hy⟩ := HL.out k hlt
      have hcell := HC.out k y hy
      have HY := Lib.hid (HS.out k y hy)
      obtain ⟨a, ha⟩ : ∃ a, (r.take k).foldl (extS most) x = a := ⟨_, rfl⟩
      rw [ha] at HY ⊢
      have HV := Lib.hid (HX.out a y)
      obtain ⟨c1, hc1⟩ : ∃ c, ltB y a = c := ⟨_, rfl⟩
      obtain ⟨c3, hc3⟩ : ∃ c, gtB y a = c := ⟨_, rfl⟩
      obtain ⟨c2, hc2⟩ : ∃ c, nanB a = c := ⟨_, rfl⟩
      rw [hc1, hc2, hc3] at HV
      have hn2 := nan_walk hc2
      have hn3 := lt_walk hc1
      have hn4 := gt_walk hc3
      have n1 : (0 : Int) ≤ (k : Int) + 1 := by omega
      have n2 : (k : Int) + 1 < (m : Int) + 1 := by omega
      clear hy ha hc1 hc2 hc3
      cases most <;> cases c2 <;> cases c1 <;> cases c3
      all_goals
        go_wp2
        go_roundw
        case rel => exact ⟨k + 1, by omega, by go_num, by rw [HY.out, HV.out]; rfl, trivial⟩
        case measure => simp [intOf]; omega
    · obtain rfl : k = m := by omega
      have n3 : ¬ (k : Int) + 1 < (k : Int) + 1 := by omega
      go_wp2
      go_ret
      exact ⟨by rw [← HE.out]; rfl, rfl⟩
theorem rsame_any (a b : Nat) (w : World) :
    Calls Tryd.prog 18 #[.float .f64 a, .float .f64 b] w fun e w' => e = .returned (.bool (sameB a b)) ∧ w = w' := by
  have CB : ∀ a w, Calls Tryd.prog 15 #[.float .f64 a] w fun e w' => e = .returned (.int .u64 (canon a)) ∧ w = w' := fun a w => by
    go_enter Tryd.func15, Tryd.ntmps15
    go_wp2_with (go_at_call 37; refine (rcanon_any _ _).mono ?_; rintro e w' ⟨rfl, rfl⟩)
    go_ret
    exact ⟨rfl, rfl⟩
  have C := Lib.hid CB; clear CB
  go_enter Tryd.func18, Tryd.ntmps18
  go_wp2_with (go_at_call 15; refine (C.out _ _).mono ?_; rintro e w' ⟨rfl, rfl⟩)
  go_ret
  exact ⟨rfl, rfl⟩
end Go.Proofs.YtjjfkjpkbpefpaaDoor.Vn
