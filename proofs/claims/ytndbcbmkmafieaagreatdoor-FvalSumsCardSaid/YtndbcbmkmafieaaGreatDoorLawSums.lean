/- The walk of FvalSums. -/
import Derived.Test.YtndbcbmkmafieaaGreatDoorKnownAll
import Derived.Test.YtndbcbmkmafieaaGreatDoorLawPairs
namespace Go.Proofs.YtndbcbmkmafieaaGreatDoor
open Go.RowKit
set_option maxHeartbeats 2000000
set_option maxRecDepth 100000

theorem info_float : (Tryz.prog.info? 24).map (fun i => (i.zero, i.size, i.bytes)) = some (some (.float .f64 0), 1, 8) := by kernel_rfl

/-! ### The reference's sum -/
theorem rsum_nil (w : World) :
    Calls Tryz.prog 28 #[.slice none 0 0] w fun e w' => e = .returned (.float .f64 0) ∧ ∃ n, w' = w.drewN n := by
  go_enter Tryz.func28, Tryz.ntmps28
  go_wp2
  go_ret
  exact ⟨rfl, 0, rfl⟩

theorem rsum_any (b off m cap : Nat) (x : Nat → Nat) (w : World) (hlc : m + 1 ≤ cap) (hm : cap ≤ maxLen)
    (hc : ∀ i, i ≤ m → w.cell? ⟨b, off + i, none⟩ = some (.float .f64 (x i))) :
    Calls Tryz.prog 28 #[.slice (some ⟨b, off, none⟩) (m + 1) cap] w fun e w' => e = .returned (.float .f64 (sumF x m)) ∧ ∃ n, w' = w.drewN n := by
  unfold maxLen at hm
  have c0 : w.cell? ⟨b, off, none⟩ = some (.float .f64 (x 0)) := hc 0 (by omega)
  have HC := Lib.hid hc; clear hc
  go_enter Tryz.func28, Tryz.ntmps28
  go_wp2
  go_loopw [3, 4] (fun s i wr => ∃ k : Nat, k ≤ m ∧ i = .int .i64 (k + 1 : Nat) ∧ (∃ c, s = .float .f64 c ∧ canon c = sumF x k) ∧ ∃ n, wr = w.drewN n) (fun _ i _ => m + 1 - (intOf i).toNat)
  case atStart => exact ⟨0, Nat.zero_le _, rfl, ⟨_, rfl, rfl⟩, 0, rfl⟩
  case round =>
    obtain ⟨k, hk, rfl, ⟨c, rfl, hcc⟩, n, rfl⟩ := hrel
    have HCC := Lib.hid hcc; clear hcc
    by_cases hlt : k < m
    · have hcell := HC.out (k + 1) (by omega)
      cases ha : Ieee.double.add c (x (k + 1)) with
      | none =>
        have hr := fun t w => run_add_none (P := Tryz.prog) ha t w
        have HA := Lib.hid ha; clear ha
        go_wp2
        go_roundw
        case rel => exact ⟨k + 1, by omega, by go_num, ⟨_, rfl, addC_none _ HCC.out HA.out⟩, n + 1, rfl⟩
        case measure => simp [intOf]; omega
      | some r =>
        have hr := fun t w => run_add_some (P := Tryz.prog) ha t w
        have HA := Lib.hid ha; clear ha
        go_wp2
        go_roundw
        case rel => exact ⟨k + 1, by omega, by go_num, ⟨_, rfl, addC_some HCC.out HA.out⟩, n, rfl⟩
        case measure => simp [intOf]; omega
    · obtain rfl : k = m := by omega
      go_wp2_with (go_at_call 34; refine (rcanon_any _ _).mono ?_; rintro e w' ⟨rfl, rfl⟩)
      go_ret
      exact ⟨by rw [HCC.out]; rfl, _, rfl⟩

theorem sumF_canon (x : Nat → Nat) (k : Nat) : canon (sumF x k) = sumF x k := by
  cases k with
  | zero => exact canon_idem _
  | succ k => exact canonO_idem _
/-- Sum of one or more -/
theorem sum_pos (b off m cap : Nat) (x : Nat → Nat) (w : World) (ht : Tab w) (hlc : m + 1 ≤ cap) (hm : cap ≤ maxLen)
    (hc : ∀ i, i ≤ m → w.cell? ⟨b, off + i, none⟩ = some (.float .f64 (x i))) :
    Calls Tryz.prog 27 #[.slice (some ⟨b, off, none⟩) (m + 1) cap] w fun e w' => e = .returned (.float .f64 (sumF x m)) ∧ ∃ n, w' = w.drewN n := by
  cases m with
  | zero => exact sum_one b off cap x w ht hlc (hc 0 (by omega))
  | succ m => exact sum_any b off (m + 1) cap x w ht (by omega) hlc hm hc

theorem rb_zero (w : World) :
    Calls Tryz.prog 19 #[.float .f64 0] w fun e w' => e = .returned (.int .u64 0) ∧ w = w' :=
  (rbits_any 0 w).mono fun _ _ ⟨h, g⟩ => ⟨by rw [h, canon_0]; rfl, g⟩

theorem lawSums_none {k : Nat × Nat × Nat} (a : Option Addr) (cap : Nat) (w : World) (hk : Kn k w) :
    Calls Tryz.prog 5 #[.slice a 0 cap] w fun e w' => e = .returned (.bool true) ∧ Below w.heap.size w w' := by
  go_enter Tryz.func5, Tryz.ntmps5
  go_wp2_with fail
  go_at_call 9
  refine (known_gr (b := k) _ hk).mono ?_
  rintro e w1 ⟨rfl, hg⟩
  go_wp2_with fail
  refine wp_loop_rounds 1 ?_
  rw [rounds_succ]
  go_wp2_with (first | (go_at_call 27; refine (sum_nil _).mono ?_; rintro e w' ⟨rfl, m, rfl⟩) | (go_at_call 28; refine (rsum_nil _).mono ?_; rintro e w' ⟨rfl, m2, rfl⟩) | (go_at_call 19; refine (rb_zero _).mono ?_; rintro e w' ⟨rfl, rfl⟩))
  go_ret
  exact ⟨rfl, (hg.drewN _).b⟩

theorem lawSums_big {k : Nat × Nat × Nat} (a : Option Addr) (len cap : Nat) (w : World) (hk : Kn k w) (h : 600 < len) (hl : len ≤ maxLen) :
    Calls Tryz.prog 5 #[.slice a len cap] w fun e w' => e = .returned (.bool true) ∧ Below w.heap.size w w' := by
  unfold maxLen at hl
  go_enter Tryz.func5, Tryz.ntmps5
  go_wp2_with fail
  go_at_call 9
  refine (known_gr (b := k) _ hk).mono ?_
  rintro e w1 ⟨rfl, hg⟩
  go_wp2_with fail
  go_ret
  exact ⟨rfl, hg.b⟩

abbrev rowF (x : Nat → Nat) (k : Nat) : List Value := (List.range k).map fun j => Value.float .f64 (x j)
theorem rowF_succ (x : Nat → Nat) (k : Nat) : rowF x (k + 1) = rowF x k ++ [.float .f64 (x k)] := by simp [rowF, List.range_succ]

theorem keep_below {w w' : World} (h : Below w.heap.size w w') : Keep w w' := fun _ _ _ e => (h.cell (World.block_lt_of_cell? w _ e)).trans e
theorem sum_at (b m cap S : Nat) (x : Nat → Nat) (w : World) (hS : sumF x m = S) (ht : Tab w) (hlc : m + 1 ≤ cap) (hm : cap ≤ maxLen)
    (hc : ∀ i, i ≤ m → w.cell? ⟨b, 0 + i, none⟩ = some (.float .f64 (x i))) :
    Calls Tryz.prog 27 #[.slice (some ⟨b, 0, none⟩) (m + 1) cap] w fun e w' => e = .returned (.float .f64 S) ∧ ∃ n, w' = w.drewN n :=
  (sum_pos b 0 m cap x w ht hlc hm hc).mono fun _ _ ⟨h, g⟩ => ⟨by rw [h, hS], g⟩
theorem rsum_at (b m cap S : Nat) (x : Nat → Nat) (w : World) (hS : sumF x m = S) (hlc : m + 1 ≤ cap) (hm : cap ≤ maxLen)
    (hc : ∀ i, i ≤ m → w.cell? ⟨b, 0 + i, none⟩ = some (.float .f64 (x i))) :
    Calls Tryz.prog 28 #[.slice (some ⟨b, 0, none⟩) (m + 1) cap] w fun e w' => e = .returned (.float .f64 S) ∧ ∃ n, w' = w.drewN n :=
  (rsum_any b 0 m cap x w hlc hm hc).mono fun _ _ ⟨h, g⟩ => ⟨by rw [h, hS], g⟩
theorem op_sum (T v S : Nat) (w : World) (h : opV 1 T v = S) (ht : Tab w) :
    Calls Tryz.prog 11 #[.int .i64 1, .float .f64 T, .float .f64 v] w fun e w' => e = .returned (.tuple #[.float .f64 S, .bool true]) ∧ ∃ n, w' = w.drewN n :=
  op_at 1 T v S true w h rfl ht

theorem drewN_add (w : World) (a b k : Nat) : (w.drewN (a + b)).drewN k = w.drewN (a + (b + k)) := by simp only [World.drewN, Nat.add_assoc]

theorem lawSums_mid {k : Nat × Nat × Nat} (b off m cap : Nat) (x : Nat → Nat) (w : World) (hk : Kn k w) (h6 : m + 1 ≤ 600) (hb : b < w.heap.size)
    (hc : ∀ i, i ≤ m → w.cell? ⟨b, off + i, none⟩ = some (.int .u64 (x i))) :
    Calls Tryz.prog 5 #[.slice (some ⟨b, off, none⟩) (m + 1) cap] w fun e w' => e = .returned (.bool true) ∧ Below w.heap.size w w' := by
  obtain ⟨i0, hi, hz0, hz1, hz2⟩ := info_parts info_float
  have HC := Lib.hid hc; clear hc
  go_enter Tryz.func5, Tryz.ntmps5
  go_wp2_with fail
  go_at_call 9
  refine (known_gr (b := k) _ hk).mono ?_
  rintro e w1 ⟨rfl, hg⟩
  have HC1 : Hid (∀ i, i ≤ m → w1.cell? ⟨b, off + i, none⟩ = some (.int .u64 (x i))) := fun i hi => Keep.gr hg _ _ _ (HC.out i hi)
  have hb1 : b < w1.heap.size := Nat.lt_of_lt_of_le hb hg.b.size
  have HK1 := Lib.hid (hk.keep (Keep.gr hg))
  clear HC
  go_wp2_with fail
  go_loopw [3, 4] (fun v i wr => ∃ j : Nat, j ≤ m + 1 ∧ i = .int .i64 j ∧ wr.ownsRow w1.heap.size 24 1 v j (rowF x j) ∧ Below w1.heap.size w1 wr) (fun _ i _ => m + 1 - (intOf i).toNat)
  case atStart => exact ⟨0, Nat.zero_le _, rfl, World.ownsRow_nil _ _ _ _, Below.refl _ _⟩
  case round =>
    obtain ⟨j, hj, rfl, hown, hbel⟩ := hrel
    by_cases hlt : j < m + 1
    · have hcx : wr.cell? ⟨b, off + j, none⟩ = some (.int .u64 (x j)) := (hbel.cell (by exact hb1)).trans (HC1.out j (by omega))
      go_wp2_with (first
        | (at_builtin; refine wpList_append_own _ rfl _ _ 36 rfl w1.heap.size 24 i0 (.float .f64 0) 1 8 Tryz.underlying36 hi hz0 hz1 hz2 rfl (by decide) _ _ _ rfl (hown.alloc _) ⟨wr.heap.size, 0, none⟩ 1 1 [.float .f64 (x j)] rfl rfl ?c1 ?c2 ?c3 ?c4 ?c5 ?_))
      case c1 =>
        intro i u hu
        match i, hu with
        | 0, hu => simp at hu; subst hu; simp [Addr.add]
      case c2 => intro u hu; simp at hu; subst hu; rfl
      case c3 => unfold maxLen; omega
      case c4 => omega
      case c5 => have := hbel.size; simp; omega
      intro v' w2 hown' hgrow _
      rw [← rowF_succ] at hown'
      have hbel' : Below w1.heap.size w1 w2 := (hbel.alloc hbel.size _).grown hgrow (by have := hbel.size; simp; omega) (fun i hi => (hown.lt i hi).1)
      clear hgrow hown hbel hcx
      go_wp2_with fail
      go_roundw
      case rel => exact ⟨j + 1, by omega, by go_num, hown', hbel'⟩
      case measure => simp [intOf]; omega
    · obtain rfl : j = m + 1 := by omega
      have hex : ∃ g cap', u3 = .slice (some ⟨g, 0, none⟩) (m + 1) cap' ∧ m + 1 ≤ cap' ∧ cap' ≤ maxLen ∧ ∀ i, i ≤ m → wr.cell? ⟨g, 0 + i, none⟩ = some (.float .f64 (x i)) := by
        rcases hown.2 with ⟨_, h0⟩ | ⟨g, cap', cur, hv, _, hgg, hnc, hcm, hcs, htake⟩
        · omega
        · refine ⟨g, cap', hv, hnc, hcm, fun i hi => ?_⟩
          subst hv
          have := hown.cellAt i (by omega)
          rw [Nat.zero_add, this]
          simp [rowF, List.getElem?_map, List.getElem?_range (by omega : i < m + 1)]
      obtain ⟨g, cap', hv, hnc, hcm, hcells⟩ := hex
      clear hown
      subst hv
      have HT := Lib.hid ((HK1.out.keep (keep_below hbel)).tab)
      have HCE := Lib.hid hcells
      obtain ⟨S, hS⟩ : ∃ S, sumF x m = S := ⟨_, rfl⟩
      have hcan : canon S = S := by rw [← hS]; exact sumF_canon x m
      have hne : ((S : Int) != (canon S : Int)) = false := by rw [hcan]; simp
      have hss : sameB S S = true := by rw [canon_inj]; simp
      have HBEL := Lib.hid hbel
      have HNC := Lib.hid hnc
      have HCM := Lib.hid hcm
      by_cases hm0 : m = 0
      · have HS := Lib.hid hS
        have hlt2 : m + 1 < 2 := by omega
        have HM := Lib.hid hm0
        clear hcells hS hcan hbel hcm hnc hm0 hlt
        go_wp2_with (first | (go_at_call 27; go_must (refine (sum_at _ _ _ _ x _ HS.out ?_ HNC.out HCM.out ?_).mono ?_); exact HT.out; exact HCE.out; rintro e w' ⟨rfl, n1, rfl⟩) | (go_at_call 28; go_must (refine (rsum_at _ _ _ _ x _ HS.out HNC.out HCM.out ?_).mono ?_); exact HCE.out; rintro e w' ⟨rfl, n2, rfl⟩) | (go_at_call 19; refine (rbits_any _ _).mono ?_; rintro e w' ⟨rfl, rfl⟩))
        go_ret
        exact ⟨rfl, below_drewN (hg.b.trans (HBEL.out.mono hg.b.size)) _⟩
      · obtain ⟨m', rfl⟩ : ∃ m', m = m' + 1 := ⟨m - 1, by omega⟩
        obtain ⟨T, hT⟩ : ∃ T, sumF x m' = T := ⟨_, rfl⟩
        have hop : opV 1 T (x (m' + 1)) = S := by rw [← hS, ← hT]; rfl
        have hlast : wr.cell? ⟨g, m' + 1, none⟩ = some (.float .f64 (x (m' + 1))) := by have := hcells (m' + 1) (by omega); rwa [Nat.zero_add] at this
        have HS := Lib.hid hS
        have HTT := Lib.hid hT
        have HOP := Lib.hid hop
        have hnc2 : m' + 2 ≤ cap' := by omega
        clear hcells hS hT hop hcan hbel hcm hnc hm0 hlt
        go_wp2_with (first | (go_at_call 27; go_must (refine (sum_at _ _ _ _ x _ HS.out ?_ HNC.out HCM.out ?_).mono ?_); exact HT.out; exact HCE.out; rintro e w' ⟨rfl, n1, rfl⟩) | (go_at_call 28; go_must (refine (rsum_at _ _ _ _ x _ HS.out HNC.out HCM.out ?_).mono ?_); exact HCE.out; rintro e w' ⟨rfl, n2, rfl⟩) | (go_at_call 19; refine (rbits_any _ _).mono ?_; rintro e w' ⟨rfl, rfl⟩))
        go_quiet (first | (go_at_call 27; go_must (exact (sum_at _ _ _ T x _ HTT.out (HT.out.drewN _) (by omega) HCM.out (fun i hi => HCE.out i (by omega))).mono (fun _ _ ⟨h1, _, h2⟩ => ⟨h1, _, h2.trans (drewN_add _ _ _ _)⟩))) | (go_at_call 11; go_must (exact (op_sum _ _ S _ HOP.out (HT.out.drewN _)).mono (fun _ _ ⟨h1, _, h2⟩ => ⟨h1, _, h2.trans (drewN_add _ _ _ _)⟩))))
        go_wp2_with (go_at_call 22; refine (same_any _ _ _ (by exact HT.out.drewN _)).mono ?_; rintro e w' ⟨rfl, rfl⟩)
        go_ret
        exact ⟨by first | rfl | (rw [hss]; done) | (show Ending.returned (Value.bool (sameB S S)) = _; rw [hss]), below_drewN (hg.b.trans (HBEL.out.mono hg.b.size)) _⟩
end Go.Proofs.YtndbcbmkmafieaaGreatDoor
