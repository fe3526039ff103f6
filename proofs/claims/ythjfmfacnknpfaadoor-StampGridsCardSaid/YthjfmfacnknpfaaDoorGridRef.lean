/- Layer 2: the reference's Check, Points, At. -/
import Derived.Test.YthjfmfacnknpfaaDoorGridTwo
namespace Go.Proofs.YthjfmfacnknpfaaDoor
open Go.RowKit

set_option maxHeartbeats 1600000 in
theorem ref_check_any (s e p : Int) (w : World) :
    Calls Tryd.prog 25 #[.agg #[.int .i64 s, .int .i64 e, .int .i64 p]] w fun E w' => E = .returned (.int .i64 (chE s e p)) ∧ Gr w w' := by
  cases hs : inB s <;> cases he : inB e <;> cases hse : decide (e < s) <;> cases hp1 : decide (p < 1) <;> cases hp2 : decide (1125899906842624 < p)
  case true.true.false.false.false =>
    have hp : lenB p = true := by simp at hp1 hp2; simp [lenB]; omega
    obtain ⟨s1, s2⟩ := inB_t hs
    obtain ⟨e1, e2⟩ := inB_t he
    obtain ⟨p1, p2⟩ := lenB_t hp
    have hse' : s ≤ e := by simpa using hse
    obtain ⟨k1, k2⟩ := ptN_bd s e p hse' p1
    have k3 : (e - s) / p ≤ 2251799813685248 := by omega
    have k4 : 0 ≤ e - s := by omega
    have k5 : e - s ≤ 2251799813685248 := by omega
    have k6 : ¬ p = 0 := by omega
    have hgb : gridB s e p = true := by unfold gridB; rw [hs, he, hse, hp]; rfl
    have h6 : decide (4096 < (e - s) / p + 1) = true → chE s e p = 6 := fun hl => by
      unfold chE; rw [if_pos hgb, if_pos (by unfold ptN; simpa using hl)]
    have h7 : decide (4096 < (e - s) / p + 1) = false → chE s e p = 0 := fun hl => by
      unfold chE; rw [if_pos hgb, if_neg (by unfold ptN; simpa using hl)]
    clear hgb
    cases hl : decide (4096 < (e - s) / p + 1)
    all_goals
      have hv := by first | exact h6 hl | exact h7 hl
      have Hv := Lib.hid hv; clear hv h6 h7
      go_enter Tryd.func25, Tryd.ntmps25
      go_wp2_with (go_at_call 29; refine (in_any _ _).mono ?_; rintro e w' ⟨rfl, rfl⟩)
      go_ret
      exact ⟨by rw [Hv.out]; rfl, (Gr.refl _).alloc _ _⟩
  all_goals
    have hp : (inB s && inB e && !decide (e < s) && lenB p) = false := by
      have : lenB p = (!decide (p < 1) && !decide (1125899906842624 < p)) := by simp [lenB, ← Int.not_lt]
      rw [this, hs, he, hse, hp1, hp2]; rfl
    have hv : chE s e p = 1 := by unfold chE gridB; rw [hp]; rfl
    have Hv := Lib.hid hv; clear hv hp
    go_enter Tryd.func25, Tryd.ntmps25
    go_wp2_with (go_at_call 29; refine (in_any _ _).mono ?_; rintro e w' ⟨rfl, rfl⟩)
    go_ret
    exact ⟨by rw [Hv.out]; rfl, (Gr.refl _).alloc _ _⟩
theorem ref_pts_any (s e p : Int) (w : World) :
    Calls Tryd.prog 26 #[.agg #[.int .i64 s, .int .i64 e, .int .i64 p]] w fun E w' => E = .returned (.int .i64 (ptV s e p)) ∧ Gr w w' := by
  by_cases hc : chE s e p = 0
  · obtain ⟨hg, hl⟩ := chE_0 hc
    obtain ⟨s1, e2, hse, p1, p2⟩ := gridB_t hg
    have hv : ptV s e p = ptN s e p := by simp [ptV, hc]
    have Hv := Lib.hid hv; clear hv
    have d1 : (chE s e p != 0) = false := by simpa using hc
    obtain ⟨k1, k2⟩ := ptN_bd s e p hse p1
    have k3 : (e - s) / p ≤ 2251799813685248 := by omega
    have k4 : 0 ≤ e - s := by omega
    have k5 : e - s ≤ 2251799813685248 := by omega
    have k6 : ¬ p = 0 := by omega
    have d2 : (chE s e p == 0) = true := by simpa using hc
    clear hc hg
    go_enter Tryd.func26, Tryd.ntmps26
    go_wp2_with (first | (go_at_call 25; refine (ref_check_any _ _ _ _).mono ?_; rintro E w1 ⟨rfl, hg⟩; obtain ⟨hc, hf⟩ := bcell hg))
    go_ret
    exact ⟨by rw [Hv.out]; rfl, ((Gr.refl _).alloc _ _).trans hg⟩
  · have hv : ptV s e p = 0 := by simp [ptV, hc]
    have Hv := Lib.hid hv; clear hv
    have d1 : (chE s e p != 0) = true := by simpa using hc
    have d2 : (chE s e p == 0) = false := by simpa using hc
    clear hc
    go_enter Tryd.func26, Tryd.ntmps26
    go_wp2_with (go_at_call 25; refine (ref_check_any _ _ _ _).mono ?_; rintro E w1 ⟨rfl, hg⟩)
    go_ret
    exact ⟨by rw [Hv.out]; rfl, ((Gr.refl _).alloc _ _).trans hg⟩

theorem ref_at_any (s e p i : Int) (w : World) :
    Calls Tryd.prog 22 #[.agg #[.int .i64 s, .int .i64 e, .int .i64 p], .int .i64 i] w fun E w' => E = .returned (.tuple #[.int .i64 (atV s e p i), .bool (atB s e p i)]) ∧ Gr w w' := by
  cases h0 : decide (i < 0)
  case true =>
    have hv : atV s e p i = 0 := by simp [atV, atB, h0]
    have hb : atB s e p i = false := by simp [atB, h0]
    have Hv := Lib.hid hv; clear hv
    have Hb := Lib.hid hb; clear hb
    go_enter Tryd.func22, Tryd.ntmps22
    go_wp2_with fail
    go_ret2
    exact ⟨by rw [Hv.out, Hb.out]; rfl, (Gr.refl _).alloc _ _⟩
  cases h1 : decide (ptV s e p ≤ i)
  case true =>
    have hv : atV s e p i = 0 := by simp [atV, atB, h1]
    have hb : atB s e p i = false := by simp [atB, h1]
    have Hv := Lib.hid hv; clear hv
    have Hb := Lib.hid hb; clear hb
    go_enter Tryd.func22, Tryd.ntmps22
    go_wp2_with (go_at_call 26; refine (ref_pts_any _ _ _ _).mono ?_; rintro E w1 ⟨rfl, hg⟩; obtain ⟨hc, hf⟩ := bcell hg)
    go_ret2
    exact ⟨by rw [Hv.out, Hb.out]; rfl, ((Gr.refl _).alloc _ _).trans hg⟩
  have hv : atV s e p i = s + i * p := by simp [atV, atB, h0, h1]
  have hb : atB s e p i = true := by simp [atB, h0, h1]
  have Hv := Lib.hid hv; clear hv
  have Hb := Lib.hid hb; clear hb
  have i0 : 0 ≤ i := by simpa using h0
  have i1 : i < ptV s e p := by simpa using h1
  obtain ⟨hg, hpe, hl⟩ := ptV_pos (by omega : 0 < ptV s e p)
  obtain ⟨s1, e2, hse, p1, p2⟩ := gridB_t hg
  obtain ⟨m1, m2⟩ := mul_bd (s := s) (e := e) i0 (by omega) p1
  have m3 : i * p ≤ 2251799813685248 := by omega
  have s2 : s ≤ 1125899906842624 := by omega
  clear hg hpe hl hse m2 e2
  go_enter Tryd.func22, Tryd.ntmps22
  go_wp2_with (go_at_call 26; refine (ref_pts_any _ _ _ _).mono ?_; rintro E w1 ⟨rfl, hg⟩; obtain ⟨hc, hf⟩ := bcell hg)
  go_ret2
  exact ⟨by rw [Hv.out, Hb.out]; rfl, ((Gr.refl _).alloc _ _).trans hg⟩
end Go.Proofs.YthjfmfacnknpfaaDoor
