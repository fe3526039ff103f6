/- binaryType, for one class of operators. -/
import Derived.Test.YtikaamonmaohjaaGreatDoorITy0
namespace Go.Proofs.YtikaamonmaohjaaGreatDoor.Ir
open Go.RowKit
set_option maxRecDepth 100000
set_option maxHeartbeats 1000000

theorem binT_mid (d : Nf) (p : Np) (nk : Nat) (a b : Int) (w : World) (ha : a = 1 ∨ a = 2) (hb : b = 1 ∨ b = 2) (hc : 5 ≤ d.fn ∧ d.fn ≤ 10) :
    Calls Tryz.prog 45 #[.agg (nV d p nk).toArray, .int .i64 a, .int .i64 b] w fun e w' => e = .returned (.int .i64 (binT d.fn d.card d.xh d.flag a b)) ∧ Gr w w' := by
  obtain ⟨W1, hW1, g1, hb1, -, hsz⟩ := nbox w (nV d p nk) 31
  obtain ⟨-, -, a2, -, -, -, -, -, -, a9, -, a11, -, a13, -, -, -⟩ := hb1.all
  simp only [Nat.zero_add] at a2 a9 a11 a13
  obtain ⟨P, hP⟩ : ∃ P, w.heap.size = P := ⟨_, rfl⟩
  rw [hP] at a2 a9 a11 a13
  obtain ⟨fn, hfn⟩ : ∃ x, d.fn = x := ⟨_, rfl⟩
  obtain ⟨card, hcd⟩ : ∃ x, d.card = x := ⟨_, rfl⟩
  obtain ⟨xh, hxh⟩ : ∃ x, d.xh = x := ⟨_, rfl⟩
  obtain ⟨flag, hfl⟩ : ∃ x, d.flag = x := ⟨_, rfl⟩
  rw [hfn] at a2 hc; rw [hcd] at a11; rw [hxh] at a9; rw [hfl] at a13
  rw [hfn, hcd, hxh, hfl]
  have HP := Lib.hid hP; have HW1 := Lib.hid hW1; have HG1 := Lib.hid g1
  have CK := Lib.hid (fun (b : Bool) (v : Int) W => kept_any b v W)
  clear hW1 g1 hb1 hsz hP hfn hcd hxh hfl
  obtain ⟨c1, c2⟩ := hc
  have d6 : decide (10 < fn) = false := decide_eq_false (by omega)
  have d5 : decide (fn ≤ 10) = true := decide_eq_true c2
  have c3 : ¬ fn = 14 := by omega
  have d3 : (fn == 14) = false := by simp; omega
  cases flag
  · skip
    rcases ha with rfl | rfl
    · rcases hb with rfl | rfl
      · skip
        cases ex : (xh == 0)
        · have ex2 : xh ≠ 0 := by simpa using ex
          have ex3 : (xh != 0) = true := by simpa using ex2
          have HN : Hid (binT fn card xh false 1 1 = 0) := Lib.hid (by unfold binT; rw [if_neg (fun h => by first | (exact absurd h.1 (by decide)) | exact h.2 (by omega)), if_neg (by omega), if_pos (.inl ex2)])
          go_enter Tryz.func45, Tryz.ntmps45
          go_upto_region 1 with fail
          rw [HW1.out, HP.out]
          go_wp2_with (go_at_call 44; refine (CK.out _ _ _).mono ?_; rintro e w' ⟨rfl, rfl⟩)
          go_ret
          exact ⟨by rw [HN.out]; rfl, HG1.out⟩
        · obtain rfl : xh = 0 := by simpa using ex
          cases ec : (card == 0)
          · have ec2 : card ≠ 0 := by simpa using ec
            have ec3 : (card != 0) = true := by simpa using ec2
            have HN : Hid (binT fn card 0 false 1 1 = 0) := Lib.hid (by unfold binT; rw [if_neg (fun h => by first | (exact absurd h.1 (by decide)) | exact h.2 (by omega)), if_neg (by omega), if_pos (.inr ec2)])
            go_enter Tryz.func45, Tryz.ntmps45
            go_upto_region 1 with fail
            rw [HW1.out, HP.out]
            go_wp2_with (go_at_call 44; refine (CK.out _ _ _).mono ?_; rintro e w' ⟨rfl, rfl⟩)
            go_ret
            exact ⟨by rw [HN.out]; rfl, HG1.out⟩
          · obtain rfl : card = 0 := by simpa using ec
            have HN : Hid (binT fn 0 0 false 1 1 = 0) := Lib.hid (by unfold binT; rw [if_neg (fun h => by first | (exact absurd h.1 (by decide)) | exact h.2 (by omega)), if_neg (by omega), if_neg (by omega), if_pos ⟨rfl, rfl⟩]; first | (simp; done) | (simp; omega))
            go_enter Tryz.func45, Tryz.ntmps45
            go_upto_region 1 with fail
            rw [HW1.out, HP.out]
            go_wp2_with (go_at_call 44; refine (CK.out _ _ _).mono ?_; rintro e w' ⟨rfl, rfl⟩)
            go_ret
            exact ⟨by rw [HN.out]; rfl, HG1.out⟩
      · skip
        cases ex : (xh == 0)
        · have ex2 : xh ≠ 0 := by simpa using ex
          have ex3 : (xh != 0) = true := by simpa using ex2
          have HN : Hid (binT fn card xh false 1 2 = 0) := Lib.hid (by unfold binT; rw [if_neg (fun h => by first | (exact absurd h.1 (by decide)) | exact h.2 (by omega)), if_neg (by omega), if_pos (.inl ex2)])
          go_enter Tryz.func45, Tryz.ntmps45
          go_upto_region 1 with fail
          rw [HW1.out, HP.out]
          go_wp2_with (go_at_call 44; refine (CK.out _ _ _).mono ?_; rintro e w' ⟨rfl, rfl⟩)
          go_ret
          exact ⟨by rw [HN.out]; rfl, HG1.out⟩
        · obtain rfl : xh = 0 := by simpa using ex
          cases ec : (card == 0)
          · have ec2 : card ≠ 0 := by simpa using ec
            have ec3 : (card != 0) = true := by simpa using ec2
            have HN : Hid (binT fn card 0 false 1 2 = 0) := Lib.hid (by unfold binT; rw [if_neg (fun h => by first | (exact absurd h.1 (by decide)) | exact h.2 (by omega)), if_neg (by omega), if_pos (.inr ec2)])
            go_enter Tryz.func45, Tryz.ntmps45
            go_upto_region 1 with fail
            rw [HW1.out, HP.out]
            go_wp2_with (go_at_call 44; refine (CK.out _ _ _).mono ?_; rintro e w' ⟨rfl, rfl⟩)
            go_ret
            exact ⟨by rw [HN.out]; rfl, HG1.out⟩
          · obtain rfl : card = 0 := by simpa using ec
            have HN : Hid (binT fn 0 0 false 1 2 = 2) := Lib.hid (by unfold binT; rw [if_neg (fun h => by first | (exact absurd h.1 (by decide)) | exact h.2 (by omega)), if_neg (by omega), if_neg (by omega), if_neg (by omega), if_pos (by omega)])
            go_enter Tryz.func45, Tryz.ntmps45
            go_upto_region 1 with fail
            rw [HW1.out, HP.out]
            go_wp2_with (go_at_call 44; refine (CK.out _ _ _).mono ?_; rintro e w' ⟨rfl, rfl⟩)
            go_ret
            exact ⟨by rw [HN.out]; rfl, HG1.out⟩
    · rcases hb with rfl | rfl
      · skip
        cases ex : (xh == 0)
        · have ex2 : xh ≠ 0 := by simpa using ex
          have ex3 : (xh != 0) = true := by simpa using ex2
          have HN : Hid (binT fn card xh false 2 1 = 0) := Lib.hid (by unfold binT; rw [if_neg (fun h => by first | (exact absurd h.1 (by decide)) | exact h.2 (by omega)), if_neg (by omega), if_pos (.inl ex2)])
          go_enter Tryz.func45, Tryz.ntmps45
          go_upto_region 1 with fail
          rw [HW1.out, HP.out]
          go_wp2_with (go_at_call 44; refine (CK.out _ _ _).mono ?_; rintro e w' ⟨rfl, rfl⟩)
          go_ret
          exact ⟨by rw [HN.out]; rfl, HG1.out⟩
        · obtain rfl : xh = 0 := by simpa using ex
          cases ec : (card == 0)
          · have ec2 : card ≠ 0 := by simpa using ec
            have ec3 : (card != 0) = true := by simpa using ec2
            have HN : Hid (binT fn card 0 false 2 1 = 0) := Lib.hid (by unfold binT; rw [if_neg (fun h => by first | (exact absurd h.1 (by decide)) | exact h.2 (by omega)), if_neg (by omega), if_pos (.inr ec2)])
            go_enter Tryz.func45, Tryz.ntmps45
            go_upto_region 1 with fail
            rw [HW1.out, HP.out]
            go_wp2_with (go_at_call 44; refine (CK.out _ _ _).mono ?_; rintro e w' ⟨rfl, rfl⟩)
            go_ret
            exact ⟨by rw [HN.out]; rfl, HG1.out⟩
          · obtain rfl : card = 0 := by simpa using ec
            have HN : Hid (binT fn 0 0 false 2 1 = 2) := Lib.hid (by unfold binT; rw [if_neg (fun h => by first | (exact absurd h.1 (by decide)) | exact h.2 (by omega)), if_neg (by omega), if_neg (by omega), if_neg (by omega), if_pos (by omega)])
            go_enter Tryz.func45, Tryz.ntmps45
            go_upto_region 1 with fail
            rw [HW1.out, HP.out]
            go_wp2_with (go_at_call 44; refine (CK.out _ _ _).mono ?_; rintro e w' ⟨rfl, rfl⟩)
            go_ret
            exact ⟨by rw [HN.out]; rfl, HG1.out⟩
      · skip
        have HN : Hid (binT fn card xh false 2 2 = 2) := Lib.hid (by unfold binT; rw [if_neg (fun h => by first | (exact absurd h.1 (by decide)) | exact h.2 (by omega)), if_pos ⟨rfl, rfl⟩, if_pos (.inl (by omega))])
        go_enter Tryz.func45, Tryz.ntmps45
        go_upto_region 1 with fail
        rw [HW1.out, HP.out]
        go_wp2_with (go_at_call 44; refine (CK.out _ _ _).mono ?_; rintro e w' ⟨rfl, rfl⟩)
        go_ret
        exact ⟨by rw [HN.out]; rfl, HG1.out⟩
  · skip
    rcases ha with rfl | rfl
    · rcases hb with rfl | rfl
      · skip
        cases ex : (xh == 0)
        · have ex2 : xh ≠ 0 := by simpa using ex
          have ex3 : (xh != 0) = true := by simpa using ex2
          have HN : Hid (binT fn card xh true 1 1 = 0) := Lib.hid (by unfold binT; rw [if_neg (fun h => by first | (exact absurd h.1 (by decide)) | exact h.2 (by omega)), if_neg (by omega), if_pos (.inl ex2)])
          go_enter Tryz.func45, Tryz.ntmps45
          go_upto_region 1 with fail
          rw [HW1.out, HP.out]
          go_wp2_with (go_at_call 44; refine (CK.out _ _ _).mono ?_; rintro e w' ⟨rfl, rfl⟩)
          go_ret
          exact ⟨by rw [HN.out]; rfl, HG1.out⟩
        · obtain rfl : xh = 0 := by simpa using ex
          cases ec : (card == 0)
          · have ec2 : card ≠ 0 := by simpa using ec
            have ec3 : (card != 0) = true := by simpa using ec2
            have HN : Hid (binT fn card 0 true 1 1 = 0) := Lib.hid (by unfold binT; rw [if_neg (fun h => by first | (exact absurd h.1 (by decide)) | exact h.2 (by omega)), if_neg (by omega), if_pos (.inr ec2)])
            go_enter Tryz.func45, Tryz.ntmps45
            go_upto_region 1 with fail
            rw [HW1.out, HP.out]
            go_wp2_with (go_at_call 44; refine (CK.out _ _ _).mono ?_; rintro e w' ⟨rfl, rfl⟩)
            go_ret
            exact ⟨by rw [HN.out]; rfl, HG1.out⟩
          · obtain rfl : card = 0 := by simpa using ec
            have HN : Hid (binT fn 0 0 true 1 1 = 1) := Lib.hid (by unfold binT; rw [if_neg (fun h => by first | (exact absurd h.1 (by decide)) | exact h.2 (by omega)), if_neg (by omega), if_neg (by omega), if_pos ⟨rfl, rfl⟩, if_pos ⟨by omega, ⟨fun _ => rfl, fun _ => ⟨by omega, by omega⟩⟩⟩])
            go_enter Tryz.func45, Tryz.ntmps45
            go_upto_region 1 with fail
            rw [HW1.out, HP.out]
            go_wp2_with (go_at_call 44; refine (CK.out _ _ _).mono ?_; rintro e w' ⟨rfl, rfl⟩)
            go_ret
            exact ⟨by rw [HN.out]; rfl, HG1.out⟩
      · skip
        cases ex : (xh == 0)
        · have ex2 : xh ≠ 0 := by simpa using ex
          have ex3 : (xh != 0) = true := by simpa using ex2
          have HN : Hid (binT fn card xh true 1 2 = 0) := Lib.hid (by unfold binT; rw [if_neg (fun h => by first | (exact absurd h.1 (by decide)) | exact h.2 (by omega)), if_neg (by omega), if_pos (.inl ex2)])
          go_enter Tryz.func45, Tryz.ntmps45
          go_upto_region 1 with fail
          rw [HW1.out, HP.out]
          go_wp2_with (go_at_call 44; refine (CK.out _ _ _).mono ?_; rintro e w' ⟨rfl, rfl⟩)
          go_ret
          exact ⟨by rw [HN.out]; rfl, HG1.out⟩
        · obtain rfl : xh = 0 := by simpa using ex
          cases ec : (card == 0)
          · have ec2 : card ≠ 0 := by simpa using ec
            have ec3 : (card != 0) = true := by simpa using ec2
            have HN : Hid (binT fn card 0 true 1 2 = 0) := Lib.hid (by unfold binT; rw [if_neg (fun h => by first | (exact absurd h.1 (by decide)) | exact h.2 (by omega)), if_neg (by omega), if_pos (.inr ec2)])
            go_enter Tryz.func45, Tryz.ntmps45
            go_upto_region 1 with fail
            rw [HW1.out, HP.out]
            go_wp2_with (go_at_call 44; refine (CK.out _ _ _).mono ?_; rintro e w' ⟨rfl, rfl⟩)
            go_ret
            exact ⟨by rw [HN.out]; rfl, HG1.out⟩
          · obtain rfl : card = 0 := by simpa using ec
            have HN : Hid (binT fn 0 0 true 1 2 = 2) := Lib.hid (by unfold binT; rw [if_neg (fun h => by first | (exact absurd h.1 (by decide)) | exact h.2 (by omega)), if_neg (by omega), if_neg (by omega), if_neg (by omega), if_pos (by omega)])
            go_enter Tryz.func45, Tryz.ntmps45
            go_upto_region 1 with fail
            rw [HW1.out, HP.out]
            go_wp2_with (go_at_call 44; refine (CK.out _ _ _).mono ?_; rintro e w' ⟨rfl, rfl⟩)
            go_ret
            exact ⟨by rw [HN.out]; rfl, HG1.out⟩
    · rcases hb with rfl | rfl
      · skip
        cases ex : (xh == 0)
        · have ex2 : xh ≠ 0 := by simpa using ex
          have ex3 : (xh != 0) = true := by simpa using ex2
          have HN : Hid (binT fn card xh true 2 1 = 0) := Lib.hid (by unfold binT; rw [if_neg (fun h => by first | (exact absurd h.1 (by decide)) | exact h.2 (by omega)), if_neg (by omega), if_pos (.inl ex2)])
          go_enter Tryz.func45, Tryz.ntmps45
          go_upto_region 1 with fail
          rw [HW1.out, HP.out]
          go_wp2_with (go_at_call 44; refine (CK.out _ _ _).mono ?_; rintro e w' ⟨rfl, rfl⟩)
          go_ret
          exact ⟨by rw [HN.out]; rfl, HG1.out⟩
        · obtain rfl : xh = 0 := by simpa using ex
          cases ec : (card == 0)
          · have ec2 : card ≠ 0 := by simpa using ec
            have ec3 : (card != 0) = true := by simpa using ec2
            have HN : Hid (binT fn card 0 true 2 1 = 0) := Lib.hid (by unfold binT; rw [if_neg (fun h => by first | (exact absurd h.1 (by decide)) | exact h.2 (by omega)), if_neg (by omega), if_pos (.inr ec2)])
            go_enter Tryz.func45, Tryz.ntmps45
            go_upto_region 1 with fail
            rw [HW1.out, HP.out]
            go_wp2_with (go_at_call 44; refine (CK.out _ _ _).mono ?_; rintro e w' ⟨rfl, rfl⟩)
            go_ret
            exact ⟨by rw [HN.out]; rfl, HG1.out⟩
          · obtain rfl : card = 0 := by simpa using ec
            have HN : Hid (binT fn 0 0 true 2 1 = 2) := Lib.hid (by unfold binT; rw [if_neg (fun h => by first | (exact absurd h.1 (by decide)) | exact h.2 (by omega)), if_neg (by omega), if_neg (by omega), if_neg (by omega), if_pos (by omega)])
            go_enter Tryz.func45, Tryz.ntmps45
            go_upto_region 1 with fail
            rw [HW1.out, HP.out]
            go_wp2_with (go_at_call 44; refine (CK.out _ _ _).mono ?_; rintro e w' ⟨rfl, rfl⟩)
            go_ret
            exact ⟨by rw [HN.out]; rfl, HG1.out⟩
      · skip
        have HN : Hid (binT fn card xh true 2 2 = 2) := Lib.hid (by unfold binT; rw [if_neg (fun h => by first | (exact absurd h.1 (by decide)) | exact h.2 (by omega)), if_pos ⟨rfl, rfl⟩, if_pos (.inl (by omega))])
        go_enter Tryz.func45, Tryz.ntmps45
        go_upto_region 1 with fail
        rw [HW1.out, HP.out]
        go_wp2_with (go_at_call 44; refine (CK.out _ _ _).mono ?_; rintro e w' ⟨rfl, rfl⟩)
        go_ret
        exact ⟨by rw [HN.out]; rfl, HG1.out⟩
end Go.Proofs.YtikaamonmaohjaaGreatDoor.Ir
