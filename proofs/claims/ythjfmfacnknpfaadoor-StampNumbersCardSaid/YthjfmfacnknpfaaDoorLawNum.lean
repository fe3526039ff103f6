/- The walks of StampNumbers, StampSums, StampAligns. -/
import Derived.Test.YthjfmfacnknpfaaDoorKnown
import Derived.Test.YthjfmfacnknpfaaDoorAlTwo
namespace Go.Proofs.YthjfmfacnknpfaaDoor
open Go.RowKit
set_option maxRecDepth 100000
set_option maxHeartbeats 1000000

theorem lawNumbers_any (a b c : Int) (w : World) (ha : isI a) (hb : isI b) (hc : isI c) (hk : KnU w) :
    Calls Tryd.prog 3 #[.int .i64 a, .int .i64 b, .int .i64 c] w fun e w' => e = .returned (.bool true) ∧ Gr w w' := by
  have HK := Lib.hid hk; have HA := Lib.hid ha; have HB := Lib.hid hb; have HC := Lib.hid hc
  clear hk ha hb hc
  go_enter Tryd.func3, Tryd.ntmps3
  go_wp2_with (first | (go_at_call 8; refine (known_any _ HK.out).mono ?_; rintro e w1 ⟨rfl, hg⟩) | (go_at_call 9; refine (plus_any _ _ _).mono ?_; rintro e w' ⟨rfl, rfl⟩) | (go_at_call 10; refine (ref_plus_any _ _ _).mono ?_; rintro e w' ⟨rfl, rfl⟩) | (go_at_call 11; refine (minus_any _ _ _).mono ?_; rintro e w' ⟨rfl, rfl⟩) | (go_at_call 12; refine (ref_minus_any _ _ _).mono ?_; rintro e w' ⟨rfl, rfl⟩) | (go_at_call 13; refine (align_any _ _ _).mono ?_; rintro e w' ⟨rfl, rfl⟩) | (go_at_call 14; refine (ref_align_any _ _ _).mono ?_; rintro e w' ⟨rfl, rfl⟩) | (go_at_call 15; refine (within_any _ _ _ _ HA.out HB.out HC.out).mono ?_; rintro e w' ⟨rfl, rfl⟩) | (go_at_call 16; refine (ref_within_any _ _ _ _ HA.out HB.out HC.out).mono ?_; rintro e w' ⟨rfl, rfl⟩))
  go_ret
  exact ⟨rfl, hg⟩

theorem op_comm (a b : Int) : opV b a (b + a) = opV a b (a + b) ∧ opE b a (b + a) = opE a b (a + b) := by
  have e : b + a = a + b := Int.add_comm _ _
  rw [e]
  unfold opV opE
  rw [Bool.and_comm (inB b) (inB a)]
  exact ⟨rfl, rfl⟩
theorem plus_c (a b : Int) (w : World) :
    Calls Tryd.prog 9 #[.int .i64 b, .int .i64 a] w fun e w' => e = .returned (.tuple #[.int .i64 (opV a b (a + b)), .int .i64 (opE a b (a + b))]) ∧ w = w' := by
  rw [← (op_comm a b).1, ← (op_comm a b).2]
  exact plus_any b a w
theorem lawSums_any (a b : Int) (w : World) (hk : KnU w) :
    Calls Tryd.prog 7 #[.int .i64 a, .int .i64 b] w fun e w' => e = .returned (.bool true) ∧ Gr w w' := by
  have HK := Lib.hid hk
  clear hk
  cases hc : (inB a && inB b && inB (a + b))
  · have hv : opV a b (a + b) = 0 := by unfold opV; rw [hc]; rfl
    have he : opE a b (a + b) = 1 := by unfold opE; rw [hc]; rfl
    clear hc
    have p1 : ∀ W, Calls Tryd.prog 9 #[.int .i64 a, .int .i64 b] W fun e w' => e = .returned (.tuple #[.int .i64 0, .int .i64 1]) ∧ W = w' := fun W => by
      have := plus_any a b W; rw [hv, he] at this; exact this
    have p2 : ∀ W, Calls Tryd.prog 9 #[.int .i64 b, .int .i64 a] W fun e w' => e = .returned (.tuple #[.int .i64 0, .int .i64 1]) ∧ W = w' := fun W => by
      have := plus_c a b W; rw [hv, he] at this; exact this
    have P1 := Lib.hid p1; have P2 := Lib.hid p2
    clear p1 p2 hv he
    go_enter Tryd.func7, Tryd.ntmps7
    go_wp2_with (go_at_call 8; refine (known_any _ HK.out).mono ?_; rintro e w1 ⟨rfl, hg⟩)
    refine (P1.out _).mono ?_
    rintro e w' ⟨rfl, rfl⟩
    go_wp2_with fail
    refine (P2.out _).mono ?_
    rintro e w' ⟨rfl, rfl⟩
    go_wp2
    go_ret
    exact ⟨rfl, hg⟩
  · have hv : opV a b (a + b) = a + b := by unfold opV; rw [hc]; rfl
    have he : opE a b (a + b) = 0 := by unfold opE; rw [hc]; rfl
    simp only [Bool.and_eq_true] at hc
    obtain ⟨⟨ha, hb⟩, hab⟩ := hc
    have hm : opV (a + b) b (a + b - b) = a ∧ opE (a + b) b (a + b - b) = 0 := by
      have e : a + b - b = a := by omega
      rw [e]
      unfold opV opE
      rw [ha, hb, hab]; exact ⟨rfl, rfl⟩
    have p1 : ∀ W, Calls Tryd.prog 9 #[.int .i64 a, .int .i64 b] W fun e w' => e = .returned (.tuple #[.int .i64 (a + b), .int .i64 0]) ∧ W = w' := fun W => by
      have := plus_any a b W; rw [hv, he] at this; exact this
    have p2 : ∀ W, Calls Tryd.prog 9 #[.int .i64 b, .int .i64 a] W fun e w' => e = .returned (.tuple #[.int .i64 (a + b), .int .i64 0]) ∧ W = w' := fun W => by
      have := plus_c a b W; rw [hv, he] at this; exact this
    have p3 : ∀ W, Calls Tryd.prog 11 #[.int .i64 (a + b), .int .i64 b] W fun e w' => e = .returned (.tuple #[.int .i64 a, .int .i64 0]) ∧ W = w' := fun W => by
      have := minus_any (a + b) b W; rw [hm.1, hm.2] at this; exact this
    have P1 := Lib.hid p1; have P2 := Lib.hid p2; have P3 := Lib.hid p3
    clear p1 p2 p3 hv he hm ha hb hab
    go_enter Tryd.func7, Tryd.ntmps7
    go_wp2_with (go_at_call 8; refine (known_any _ HK.out).mono ?_; rintro e w1 ⟨rfl, hg⟩)
    refine (P1.out _).mono ?_
    rintro e w' ⟨rfl, rfl⟩
    go_wp2_with fail
    refine (P2.out _).mono ?_
    rintro e w' ⟨rfl, rfl⟩
    go_wp2_with fail
    refine (P3.out _).mono ?_
    rintro e w' ⟨rfl, rfl⟩
    go_wp2
    go_ret
    exact ⟨rfl, hg⟩

theorem lawAligns_any (a b : Int) (w : World) (hk : KnU w) :
    Calls Tryd.prog 6 #[.int .i64 a, .int .i64 b] w fun e w' => e = .returned (.bool true) ∧ Gr w w' := by
  have HK := Lib.hid hk
  clear hk
  cases hc : (inB a && lenB b && inB (dn a b))
  · have hv : alV a b = 0 := by unfold alV; rw [hc]; rfl
    have he : alE a b = 1 := by unfold alE; rw [hc]; rfl
    clear hc
    have p1 : ∀ W, Calls Tryd.prog 13 #[.int .i64 a, .int .i64 b] W fun e w' => e = .returned (.tuple #[.int .i64 0, .int .i64 1]) ∧ W = w' := fun W => by
      have := align_any a b W; rw [hv, he] at this; exact this
    have P1 := Lib.hid p1
    clear p1 hv he
    go_enter Tryd.func6, Tryd.ntmps6
    go_wp2_with (go_at_call 8; refine (known_any _ HK.out).mono ?_; rintro e w1 ⟨rfl, hg⟩)
    refine (P1.out _).mono ?_
    rintro e w' ⟨rfl, rfl⟩
    go_wp2
    go_ret
    exact ⟨rfl, hg⟩
  · have hv : alV a b = dn a b := by unfold alV; rw [hc]; rfl
    have he : alE a b = 0 := by unfold alE; rw [hc]; rfl
    simp only [Bool.and_eq_true] at hc
    obtain ⟨⟨ha, hb⟩, hab⟩ := hc
    obtain ⟨b1, b2⟩ := lenB_t hb
    obtain ⟨a1, a2⟩ := inB_t ha
    obtain ⟨l1, l2⟩ := dn_bd a b b1
    have hmod : dn a b % b = 0 := by
      unfold dn
      rw [Int.sub_emod, Int.emod_emod, Int.sub_self, Int.zero_emod]
    have hdd : dn (dn a b) b = dn a b := by
      have : dn (dn a b) b = dn a b - dn a b % b := rfl
      rw [this, hmod]; omega
    have htm : (dn a b).tmod b = 0 := by
      rcases (by omega : (dn a b).tmod b < 0 ∨ 0 ≤ (dn a b).tmod b) with h | h
      · have := tm_ng (dn a b) b b1 h
        have := tm_bd (dn a b) b b1
        omega
      · have := tm_nn (dn a b) b b1 h
        omega
    have p1 : ∀ W, Calls Tryd.prog 13 #[.int .i64 a, .int .i64 b] W fun e w' => e = .returned (.tuple #[.int .i64 (dn a b), .int .i64 0]) ∧ W = w' := fun W => by
      have := align_any a b W; rw [hv, he] at this; exact this
    have p2 : ∀ W, Calls Tryd.prog 13 #[.int .i64 (dn a b), .int .i64 b] W fun e w' => e = .returned (.tuple #[.int .i64 (dn a b), .int .i64 0]) ∧ W = w' := fun W => by
      have h := align_any (dn a b) b W
      have hc2 : (inB (dn a b) && lenB b && inB (dn (dn a b) b)) = true := by rw [hdd, hab, hb]; rfl
      have h1 : alV (dn a b) b = dn a b := by unfold alV; rw [hc2, hdd]; rfl
      have h2 : alE (dn a b) b = 0 := by unfold alE; rw [hc2]; rfl
      rw [h1, h2] at h; exact h
    have P1 := Lib.hid p1; have P2 := Lib.hid p2
    have hnz : ¬ b = 0 := by omega
    have hsub : 0 ≤ a - dn a b := by omega
    have hsub2 : a - dn a b ≤ 1125899906842624 := by omega
    have f1 : decide (dn a b ≤ a) = true := by simp; omega
    have f2 : decide (a - dn a b < b) = true := by simp; omega
    clear p1 p2 hv he hmod hdd hab ha hb l1 l2
    generalize dn a b = D at *
    go_enter Tryd.func6, Tryd.ntmps6
    go_wp2_with (go_at_call 8; refine (known_any _ HK.out).mono ?_; rintro e w1 ⟨rfl, hg⟩)
    refine (P1.out _).mono ?_
    rintro e w' ⟨rfl, rfl⟩
    go_wp2_with fail
    refine (P2.out _).mono ?_
    rintro e w' ⟨rfl, rfl⟩
    go_wp2
    go_ret
    exact ⟨rfl, hg⟩
end Go.Proofs.YthjfmfacnknpfaaDoor
