/- Layer 2: Align, of the program and of the reference. -/
import Derived.Test.YthjfmfacnknpfaaDoorNum
namespace Go.Proofs.YthjfmfacnknpfaaDoor
open Go.RowKit

/-- the greatest multiple of b that is at most a -/
def dn (a b : Int) : Int := a - a % b
theorem tm_bd (a b : Int) (h : 1 ≤ b) : -b < a.tmod b ∧ a.tmod b < b := by
  have h1 := Int.tmod_lt_of_pos a (by omega : 0 < b)
  have h2 := Int.tmod_lt_of_pos (-a) (by omega : 0 < b)
  rw [Int.neg_tmod] at h2
  omega
theorem tm_em (a b : Int) : a.tmod b % b = a % b := by
  have h := Int.tdiv_mul_add_tmod a b
  have h2 : a = a.tmod b + b * a.tdiv b := by rw [Int.mul_comm]; omega
  have h3 : (a.tmod b + b * a.tdiv b) % b = a.tmod b % b := Int.add_mul_emod_self_left ..
  rw [← h2] at h3
  exact h3.symm
theorem tm_nn (a b : Int) (h : 1 ≤ b) (h0 : 0 ≤ a.tmod b) : a % b = a.tmod b := by
  have h1 := tm_bd a b h
  rw [← tm_em a b, Int.emod_eq_of_lt h0 h1.2]
theorem tm_ng (a b : Int) (h : 1 ≤ b) (h0 : a.tmod b < 0) : a % b = a.tmod b + b := by
  have h1 := tm_bd a b h
  rw [← tm_em a b, ← Int.add_emod_right, Int.emod_eq_of_lt (by omega) (by omega)]
theorem td_mul (a b : Int) : a.tdiv b * b = a - a.tmod b := by
  have := Int.tdiv_mul_add_tmod a b
  omega
theorem dn_bd (a b : Int) (h : 1 ≤ b) : dn a b ≤ a ∧ a - b < dn a b := by
  have h1 := Int.emod_lt_of_pos a (by omega : 0 < b)
  have h2 := Int.emod_nonneg a (by omega : b ≠ 0)
  unfold dn; omega
def alE (a b : Int) : Int := if inB a && lenB b && inB (dn a b) then 0 else 1
def alV (a b : Int) : Int := if inB a && lenB b && inB (dn a b) then dn a b else 0

theorem align_in (a b : Int) (w : World) (ha : inB a = true) (hb : lenB b = true) :
    Calls Tryd.prog 13 #[.int .i64 a, .int .i64 b] w fun e w' => e = .returned (.tuple #[.int .i64 (alV a b), .int .i64 (alE a b)]) ∧ w = w' := by
  have hv : alV a b = tmV (dn a b) := by simp [alV, tmV, ha, hb]
  have he : alE a b = tmE (dn a b) := by simp [alE, tmE, ha, hb]
  have Hv := Lib.hid hv; clear hv
  have He := Lib.hid he; clear he
  obtain ⟨a1, a2⟩ := inB_t ha
  obtain ⟨b1, b2⟩ := lenB_t hb
  obtain ⟨c1, c2⟩ := tm_bd a b b1
  by_cases h0 : 0 ≤ a.tmod b
  · have hd : dn a b = a - a.tmod b := by unfold dn; rw [tm_nn a b b1 h0]
    have Hd := Lib.hid hd; clear hd
    have k1 : a.tmod b ≤ 1125899906842624 := by omega
    clear c1 c2
    go_enter Tryd.func13, Tryd.ntmps13
    go_wp2_with (first | (go_at_call 27; refine (isTime_any _ _).mono ?_; rintro e w' ⟨rfl, rfl⟩) | (go_at_call 30; refine (isLength_any _ _).mono ?_; rintro e w' ⟨rfl, rfl⟩) | (go_at_call 28; refine (timed_any _ _).mono ?_; rintro e w' ⟨rfl, rfl⟩))
    go_ret2
    exact ⟨by rw [Hv.out, He.out, Hd.out]; rfl, rfl⟩
  · have hd : dn a b = a - (a.tmod b + b) := by unfold dn; rw [tm_ng a b b1 (by omega)]
    have Hd := Lib.hid hd; clear hd
    have k1 : -1125899906842624 ≤ a.tmod b := by omega
    have k2 : 0 ≤ a.tmod b + b := by omega
    have k3 : a.tmod b + b ≤ 1125899906842624 := by omega
    have k4 : a.tmod b < 0 := by omega
    clear c1 c2
    go_enter Tryd.func13, Tryd.ntmps13
    go_wp2_with (first | (go_at_call 27; refine (isTime_any _ _).mono ?_; rintro e w' ⟨rfl, rfl⟩) | (go_at_call 30; refine (isLength_any _ _).mono ?_; rintro e w' ⟨rfl, rfl⟩) | (go_at_call 28; refine (timed_any _ _).mono ?_; rintro e w' ⟨rfl, rfl⟩))
    go_ret2
    exact ⟨by rw [Hv.out, He.out, Hd.out]; rfl, rfl⟩
theorem align_any (a b : Int) (w : World) :
    Calls Tryd.prog 13 #[.int .i64 a, .int .i64 b] w fun e w' => e = .returned (.tuple #[.int .i64 (alV a b), .int .i64 (alE a b)]) ∧ w = w' := by
  cases ha : inB a <;> cases hb : lenB b
  case true.true => exact align_in a b w ha hb
  all_goals
    have hv : alV a b = 0 := by simp [alV, ha, hb]
    have he : alE a b = 1 := by simp [alE, ha, hb]
    have Hv := Lib.hid hv; clear hv
    have He := Lib.hid he; clear he
    go_enter Tryd.func13, Tryd.ntmps13
    go_wp2_with (first | (go_at_call 27; refine (isTime_any _ _).mono ?_; rintro e w' ⟨rfl, rfl⟩) | (go_at_call 30; refine (isLength_any _ _).mono ?_; rintro e w' ⟨rfl, rfl⟩))
    go_ret2
    exact ⟨by rw [Hv.out, He.out]; rfl, rfl⟩

theorem down_any (a b : Int) (w : World) (ha : inB a = true) (hb : lenB b = true) :
    Calls Tryd.prog 31 #[.int .i64 a, .int .i64 b] w fun e w' => e = .returned (.int .i64 (dn a b)) ∧ w = w' := by
  obtain ⟨a1, a2⟩ := inB_t ha
  obtain ⟨b1, b2⟩ := lenB_t hb
  obtain ⟨c1, c2⟩ := tm_bd a b b1
  have hm := td_mul a b
  have hm2 : (a.tdiv b - 1) * b = a - a.tmod b - b := by rw [Int.sub_mul, hm]; omega
  have hb0 : ¬ b = 0 := by omega
  clear ha hb
  have l1 : a.tdiv b ≤ 1125899906842624 := by
    have := Int.natAbs_tdiv_le_natAbs a b
    omega
  have l2 : -1125899906842624 ≤ a.tdiv b := by
    have := Int.natAbs_tdiv_le_natAbs a b
    omega
  by_cases h0 : 0 ≤ a.tmod b
  · have hd : dn a b = a - a.tmod b := by unfold dn; rw [tm_nn a b b1 h0]
    have Hd := Lib.hid hd; clear hd
    have k1 : a.tmod b ≤ 1125899906842624 := by omega
    have k2 : ¬ a < a - a.tmod b := by omega
    clear c1 c2 hm2
    go_enter Tryd.func31, Tryd.ntmps31
    go_wp2
    go_ret
    exact ⟨by rw [Hd.out]; rfl, rfl⟩
  · have hd : dn a b = a - a.tmod b - b := by unfold dn; rw [tm_ng a b b1 (by omega)]; omega
    have Hd := Lib.hid hd; clear hd
    have k1 : -1125899906842624 ≤ a.tmod b := by omega
    have k2 : a < a - a.tmod b := by omega
    have k4 : a.tmod b < 0 := by omega
    clear c1 c2
    go_enter Tryd.func31, Tryd.ntmps31
    go_wp2
    go_ret
    exact ⟨by rw [Hd.out]; rfl, rfl⟩
end Go.Proofs.YthjfmfacnknpfaaDoor
