/- typeOf: the type of a node, by its kids'. -/
import Derived.Test.YtikaamonmaohjaaGreatDoorITy1
import Derived.Test.YtikaamonmaohjaaGreatDoorITy2
import Derived.Test.YtikaamonmaohjaaGreatDoorITy3
import Derived.Test.YtikaamonmaohjaaGreatDoorITy4
import Derived.Test.YtikaamonmaohjaaGreatDoorIShp
import Derived.Lib.QuietBelow
namespace Go.Proofs.YtikaamonmaohjaaGreatDoor.Ir
open Go.RowKit Go.Sort
set_option maxRecDepth 100000
set_option maxHeartbeats 1000000
attribute [local irreducible] wpQuiet

def IntsAt (W : World) (A : Option Addr) (ts : List Int) : Prop := 0 < ts.length → ∃ b o, A = some ⟨b, o, none⟩ ∧ ∀ i x, ts[i]? = some x → W.cell? ⟨b, o + i, none⟩ = some (.int .i64 x)
theorem IntsAt.gr {W W' : World} {A : Option Addr} {ts : List Int} (h : IntsAt W A ts) (g : Gr W W') : IntsAt W' A ts := fun h0 => by
  obtain ⟨b, o, e, hc⟩ := h h0
  exact ⟨b, o, e, fun i x hx => g.cell (hc i x hx)⟩
theorem binT_any (d : Nf) (p : Np) (nk : Nat) (a b : Int) (w : World) (ha : a = 1 ∨ a = 2) (hb : b = 1 ∨ b = 2) :
    Calls Tryz.prog 45 #[.agg (nV d p nk).toArray, .int .i64 a, .int .i64 b] w fun e w' => e = .returned (.int .i64 (binT d.fn d.card d.xh d.flag a b)) ∧ Gr w w' := by
  by_cases h1 : d.fn < 5
  · exact binT_lo d p nk a b w ha hb h1
  · by_cases h2 : d.fn ≤ 10
    · exact binT_mid d p nk a b w ha hb ⟨by omega, h2⟩
    · by_cases h3 : d.fn = 14
      · exact binT_df d p nk a b w ha hb h3
      · exact binT_hi d p nk a b w ha hb ⟨by omega, h3⟩
/-- the type of a node that may be, its kids' types told -/
def tyN (d : Nf) (ts : List Int) : Int :=
  if d.k = 1 ∨ d.k = 2 then 1 else if d.k = 3 ∨ d.k = 4 ∨ d.k = 5 ∨ d.k = 13 then 2 else if d.k = 6 then ts.getD 0 0
  else if d.k = 8 ∨ d.k = 11 ∨ d.k = 12 then kpI (ts.getD 0 0 == 2) 2 else if d.k = 9 then kpI (ts.getD 0 0 == 2) 1 else if d.k = 10 then kpI (ts.getD 0 0 == 1) 2
  else binT d.fn d.card d.xh d.flag (ts.getD 0 0) (ts.getD 1 0)
theorem typ_any (d : Nf) (p : Np) (nk : Nat) (A : Option Addr) (c : Nat) (ts : List Int) (w : World) (hts : ∀ x ∈ ts, x = 1 ∨ x = 2) (hlen : (ts.length : Int) = kdN d.k) (hok : okK d.k = true) (hm : IntsAt w A ts) :
    Calls Tryz.prog 21 #[.agg (nV d p nk).toArray, .slice A ts.length c] w fun e w' => e = .returned (.int .i64 (tyN d ts)) ∧ Gr w w' := by
  obtain ⟨W1, hW1, g1, hb1, -, hsz⟩ := nbox w (nV d p nk) 31
  obtain ⟨P, hP⟩ : ∃ P, w.heap.size = P := ⟨_, rfl⟩
  rw [hP] at hb1
  have a0 := hb1 0 (.int .i64 d.k) rfl
  have HM := Lib.hid (hm.gr g1)
  obtain ⟨r, hr⟩ : ∃ r, tyN d ts = r := ⟨_, rfl⟩
  have HE := Lib.hid hr
  rw [hr]
  have HP := Lib.hid hP; have HW1 := Lib.hid hW1; have HG1 := Lib.hid g1; have HB1 := Lib.hid hb1
  have CK := Lib.hid (fun (b : Bool) (v : Int) W => kept_any b v W)
  obtain ⟨kd, hkd⟩ : ∃ x, d.k = x := ⟨_, rfl⟩
  have HKD := Lib.hid hkd
  simp only [Nat.zero_add] at a0
  rw [hkd] at a0 hlen hok
  clear hW1 g1 hb1 hsz hP hm hr hkd
  rcases kind13 kd with rfl | rfl | rfl | rfl | rfl | rfl | rfl | rfl | rfl | rfl | rfl | rfl | rfl | hno
  · have HN : Hid (r = 1) := Lib.hid (by rw [← HE.out]; unfold tyN; rw [HKD.out]; simp)
    clear hlen hok
    go_enter Tryz.func21, Tryz.ntmps21
    go_upto_region 1 with fail
    rw [HW1.out, HP.out]
    go_wp2_with (go_at_call 44; refine (CK.out _ _ _).mono ?_; rintro e w' ⟨rfl, rfl⟩)
    go_ret
    exact ⟨by rw [HN.out]; rfl, HG1.out⟩
  · have HN : Hid (r = 1) := Lib.hid (by rw [← HE.out]; unfold tyN; rw [HKD.out]; simp)
    clear hlen hok
    go_enter Tryz.func21, Tryz.ntmps21
    go_upto_region 1 with fail
    rw [HW1.out, HP.out]
    go_wp2_with (go_at_call 44; refine (CK.out _ _ _).mono ?_; rintro e w' ⟨rfl, rfl⟩)
    go_ret
    exact ⟨by rw [HN.out]; rfl, HG1.out⟩
  · have HN : Hid (r = 2) := Lib.hid (by rw [← HE.out]; unfold tyN; rw [HKD.out]; simp)
    clear hlen hok
    go_enter Tryz.func21, Tryz.ntmps21
    go_upto_region 1 with fail
    rw [HW1.out, HP.out]
    go_wp2_with (go_at_call 44; refine (CK.out _ _ _).mono ?_; rintro e w' ⟨rfl, rfl⟩)
    go_ret
    exact ⟨by rw [HN.out]; rfl, HG1.out⟩
  · have HN : Hid (r = 2) := Lib.hid (by rw [← HE.out]; unfold tyN; rw [HKD.out]; simp)
    clear hlen hok
    go_enter Tryz.func21, Tryz.ntmps21
    go_upto_region 1 with fail
    rw [HW1.out, HP.out]
    go_wp2_with (go_at_call 44; refine (CK.out _ _ _).mono ?_; rintro e w' ⟨rfl, rfl⟩)
    go_ret
    exact ⟨by rw [HN.out]; rfl, HG1.out⟩
  · have HN : Hid (r = 2) := Lib.hid (by rw [← HE.out]; unfold tyN; rw [HKD.out]; simp)
    clear hlen hok
    go_enter Tryz.func21, Tryz.ntmps21
    go_upto_region 1 with fail
    rw [HW1.out, HP.out]
    go_wp2_with (go_at_call 44; refine (CK.out _ _ _).mono ?_; rintro e w' ⟨rfl, rfl⟩)
    go_ret
    exact ⟨by rw [HN.out]; rfl, HG1.out⟩
  · obtain ⟨x, rfl⟩ : ∃ x, ts = [x] := by
      have h2 : ts.length = 1 := by unfold kdN at hlen; simp at hlen; omega
      match ts, h2 with
      | [x], _ => exact ⟨x, rfl⟩
    obtain ⟨b, o, rfl, hc⟩ := HM.out (by simp)
    have c1 := hc 0 x rfl
    simp only [Nat.add_zero] at c1
    have hx := hts x (by simp)
    have HN : Hid (r = x) := Lib.hid (by rw [← HE.out]; unfold tyN; rw [HKD.out]; simp)
    clear hlen hok hts
    rcases hx with rfl | rfl
    all_goals
      go_enter Tryz.func21, Tryz.ntmps21
      go_upto_region 1 with fail
      rw [HW1.out, HP.out]
      go_wp2_with (go_at_call 44; refine (CK.out _ _ _).mono ?_; rintro e w' ⟨rfl, rfl⟩)
      go_ret
      exact ⟨by rw [HN.out]; rfl, HG1.out⟩
  · obtain ⟨x, y, rfl⟩ : ∃ x y, ts = [x, y] := by
      have h2 : ts.length = 2 := by unfold kdN at hlen; simp at hlen; omega
      match ts, h2 with
      | [x, y], _ => exact ⟨x, y, rfl⟩
    obtain ⟨b, o, rfl, hc⟩ := HM.out (by simp)
    have c1 := hc 0 x rfl
    have c2 := hc 1 y rfl
    simp only [Nat.add_zero] at c1
    have HN : Hid (r = binT d.fn d.card d.xh d.flag x y) := Lib.hid (by rw [← HE.out]; unfold tyN; rw [HKD.out]; simp)
    have CB := Lib.hid (fun dd os => Calls.regrown_of (d := dd) (os := os) ((binT_any d p nk x y (grow (redrawn W1 dd) os) (hts x (by simp)) (hts y (by simp))).mono fun _ _ h => ⟨h.1, h.2.b⟩))
    have k1 := cell_regrown c1; have k2 := cell_regrown c2
    have hall := HB1.out.all
    simp only [Nat.zero_add] at hall
    obtain ⟨f0, f1, f2, f3, f4, f5, f6, f7, f8, f9, f10, f11, f12, f13, f14, f15, f16⟩ := hall
    have q0 := cell_regrown f0; have q1 := cell_regrown f1; have q2 := cell_regrown f2; have q3 := cell_regrown f3; have q4 := cell_regrown f4; have q5 := cell_regrown f5; have q6 := cell_regrown f6; have q7 := cell_regrown f7; have q8 := cell_regrown f8; have q9 := cell_regrown f9; have q10 := cell_regrown f10; have q11 := cell_regrown f11; have q12 := cell_regrown f12; have q13 := cell_regrown f13; have q14 := cell_regrown f14; have q15 := cell_regrown f15; have q16 := cell_regrown f16
    obtain ⟨v, hv⟩ : ∃ v, binT d.fn d.card d.xh d.flag x y = v := ⟨_, rfl⟩
    rw [hv] at HN CB
    clear hlen hok hts hv
    go_enter Tryz.func21, Tryz.ntmps21
    go_upto_region 1 with fail
    rw [HW1.out, HP.out]
    go_wp2_with fail
    refine wp_region_quiet_below (by kernel_rfl) (by kernel_rfl) ?_
    clear c1 c2 a0 f0 f1 f2 f3 f4 f5 f6 f7 f8 f9 f10 f11 f12 f13 f14 f15 f16
    repeat (quiet_step (exact CB.out _ _))
    refine wpQuiet_nil ?_
    intro _ hw'
    obtain ⟨⟨dq, osq⟩, hw''⟩ := hw'
    subst hw''
    have hg5 := HG1.out.trans ⟨below_regrown W1 dq osq⟩
    clear k1 k2 CB q0 q1 q2 q3 q4 q5 q6 q7 q8 q9 q10 q11 q12 q13 q14 q15 q16
    generalize Go.Sort.grow (redrawn W1 dq) osq = w5 at *
    go_wp2
    go_ret
    exact ⟨by rw [HN.out]; rfl, hg5⟩
  · obtain ⟨x, rfl⟩ : ∃ x, ts = [x] := by
      have h2 : ts.length = 1 := by unfold kdN at hlen; simp at hlen; omega
      match ts, h2 with
      | [x], _ => exact ⟨x, rfl⟩
    obtain ⟨b, o, rfl, hc⟩ := HM.out (by simp)
    have c1 := hc 0 x rfl
    simp only [Nat.add_zero] at c1
    have hx := hts x (by simp)
    have HN : Hid (r = kpI (x == 2) 2) := Lib.hid (by rw [← HE.out]; unfold tyN; rw [HKD.out]; simp)
    clear hlen hok hts
    rcases hx with rfl | rfl
    all_goals
      go_enter Tryz.func21, Tryz.ntmps21
      go_upto_region 1 with fail
      rw [HW1.out, HP.out]
      go_wp2_with (go_at_call 44; refine (CK.out _ _ _).mono ?_; rintro e w' ⟨rfl, rfl⟩)
      go_ret
      exact ⟨by rw [HN.out]; rfl, HG1.out⟩
  · obtain ⟨x, rfl⟩ : ∃ x, ts = [x] := by
      have h2 : ts.length = 1 := by unfold kdN at hlen; simp at hlen; omega
      match ts, h2 with
      | [x], _ => exact ⟨x, rfl⟩
    obtain ⟨b, o, rfl, hc⟩ := HM.out (by simp)
    have c1 := hc 0 x rfl
    simp only [Nat.add_zero] at c1
    have hx := hts x (by simp)
    have HN : Hid (r = kpI (x == 2) 1) := Lib.hid (by rw [← HE.out]; unfold tyN; rw [HKD.out]; simp)
    clear hlen hok hts
    rcases hx with rfl | rfl
    all_goals
      go_enter Tryz.func21, Tryz.ntmps21
      go_upto_region 1 with fail
      rw [HW1.out, HP.out]
      go_wp2_with (go_at_call 44; refine (CK.out _ _ _).mono ?_; rintro e w' ⟨rfl, rfl⟩)
      go_ret
      exact ⟨by rw [HN.out]; rfl, HG1.out⟩
  · obtain ⟨x, rfl⟩ : ∃ x, ts = [x] := by
      have h2 : ts.length = 1 := by unfold kdN at hlen; simp at hlen; omega
      match ts, h2 with
      | [x], _ => exact ⟨x, rfl⟩
    obtain ⟨b, o, rfl, hc⟩ := HM.out (by simp)
    have c1 := hc 0 x rfl
    simp only [Nat.add_zero] at c1
    have hx := hts x (by simp)
    have HN : Hid (r = kpI (x == 1) 2) := Lib.hid (by rw [← HE.out]; unfold tyN; rw [HKD.out]; simp)
    clear hlen hok hts
    rcases hx with rfl | rfl
    all_goals
      go_enter Tryz.func21, Tryz.ntmps21
      go_upto_region 1 with fail
      rw [HW1.out, HP.out]
      go_wp2_with (go_at_call 44; refine (CK.out _ _ _).mono ?_; rintro e w' ⟨rfl, rfl⟩)
      go_ret
      exact ⟨by rw [HN.out]; rfl, HG1.out⟩
  · obtain ⟨x, rfl⟩ : ∃ x, ts = [x] := by
      have h2 : ts.length = 1 := by unfold kdN at hlen; simp at hlen; omega
      match ts, h2 with
      | [x], _ => exact ⟨x, rfl⟩
    obtain ⟨b, o, rfl, hc⟩ := HM.out (by simp)
    have c1 := hc 0 x rfl
    simp only [Nat.add_zero] at c1
    have hx := hts x (by simp)
    have HN : Hid (r = kpI (x == 2) 2) := Lib.hid (by rw [← HE.out]; unfold tyN; rw [HKD.out]; simp)
    clear hlen hok hts
    rcases hx with rfl | rfl
    all_goals
      go_enter Tryz.func21, Tryz.ntmps21
      go_upto_region 1 with fail
      rw [HW1.out, HP.out]
      go_wp2_with (go_at_call 44; refine (CK.out _ _ _).mono ?_; rintro e w' ⟨rfl, rfl⟩)
      go_ret
      exact ⟨by rw [HN.out]; rfl, HG1.out⟩
  · obtain ⟨x, rfl⟩ : ∃ x, ts = [x] := by
      have h2 : ts.length = 1 := by unfold kdN at hlen; simp at hlen; omega
      match ts, h2 with
      | [x], _ => exact ⟨x, rfl⟩
    obtain ⟨b, o, rfl, hc⟩ := HM.out (by simp)
    have c1 := hc 0 x rfl
    simp only [Nat.add_zero] at c1
    have hx := hts x (by simp)
    have HN : Hid (r = kpI (x == 2) 2) := Lib.hid (by rw [← HE.out]; unfold tyN; rw [HKD.out]; simp)
    clear hlen hok hts
    rcases hx with rfl | rfl
    all_goals
      go_enter Tryz.func21, Tryz.ntmps21
      go_upto_region 1 with fail
      rw [HW1.out, HP.out]
      go_wp2_with (go_at_call 44; refine (CK.out _ _ _).mono ?_; rintro e w' ⟨rfl, rfl⟩)
      go_ret
      exact ⟨by rw [HN.out]; rfl, HG1.out⟩
  · have HN : Hid (r = 2) := Lib.hid (by rw [← HE.out]; unfold tyN; rw [HKD.out]; simp)
    clear hlen hok
    go_enter Tryz.func21, Tryz.ntmps21
    go_upto_region 1 with fail
    rw [HW1.out, HP.out]
    go_wp2_with (go_at_call 44; refine (CK.out _ _ _).mono ?_; rintro e w' ⟨rfl, rfl⟩)
    go_ret
    exact ⟨by rw [HN.out]; rfl, HG1.out⟩
  · unfold okK at hok
    simp only [Bool.and_eq_true, decide_eq_true_eq] at hok
    omega
end Go.Proofs.YtikaamonmaohjaaGreatDoor.Ir
