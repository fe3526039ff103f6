/- Layer 2: Points, At; the reference's Check, Points, At. -/
import Derived.Test.YthjfmfacnknpfaaDoorGrid
namespace Go.Proofs.YthjfmfacnknpfaaDoor
open Go.RowKit

theorem gridB_t {s e p : Int} (h : gridB s e p = true) : -1125899906842624 ≤ s ∧ e ≤ 1125899906842624 ∧ s ≤ e ∧ 1 ≤ p ∧ p ≤ 1125899906842624 := by
  simp only [gridB, Bool.and_eq_true, Bool.not_eq_true', decide_eq_false_iff_not] at h
  obtain ⟨⟨⟨h1, h2⟩, h3⟩, h4⟩ := h
  have := inB_t h1
  have := inB_t h2
  have := lenB_t h4
  omega
theorem chE_0 {s e p : Int} (h : chE s e p = 0) : gridB s e p = true ∧ ptN s e p ≤ 4096 := by
  unfold chE at h
  cases hg : gridB s e p
  · rw [hg] at h; simp at h
  · rw [hg] at h
    by_cases hl : 4096 < ptN s e p
    · simp [hl] at h
    · exact ⟨rfl, by omega⟩
theorem pts_any (s e p : Int) (w : World) :
    Calls Tryd.prog 23 #[.agg #[.int .i64 s, .int .i64 e, .int .i64 p]] w fun E w' => E = .returned (.int .i64 (ptV s e p)) ∧ Gr w w' := by
  by_cases hc : chE s e p = 0
  · obtain ⟨hg, hl⟩ := chE_0 hc
    obtain ⟨s1, e2, hse, p1, p2⟩ := gridB_t hg
    have hv : ptV s e p = ptN s e p := by simp [ptV, hc]
    have Hv := Lib.hid hv; clear hv
    have d1 : (chE s e p != 0) = false := by simpa using hc
    have d2 : (chE s e p == 0) = true := by simpa using hc
    clear hc hg
    go_enter Tryd.func23, Tryd.ntmps23
    go_wp2_with (first | (go_at_call 24; refine (check_any _ _ _ _).mono ?_; rintro E w1 ⟨rfl, hg⟩; obtain ⟨hc, hf⟩ := bcell hg) | (go_at_call 40; refine (points_any _ _ _ _ s1 e2 hse p1 p2).mono ?_; rintro E w2 ⟨rfl, hg2⟩))
    go_ret
    exact ⟨by rw [Hv.out]; rfl, (((Gr.refl _).alloc _ _).trans hg).trans hg2⟩
  · have hv : ptV s e p = 0 := by simp [ptV, hc]
    have Hv := Lib.hid hv; clear hv
    have d1 : (chE s e p != 0) = true := by simpa using hc
    have d2 : (chE s e p == 0) = false := by simpa using hc
    clear hc
    go_enter Tryd.func23, Tryd.ntmps23
    go_wp2_with (go_at_call 24; refine (check_any _ _ _ _).mono ?_; rintro E w1 ⟨rfl, hg⟩)
    go_ret
    exact ⟨by rw [Hv.out]; rfl, ((Gr.refl _).alloc _ _).trans hg⟩

def atB (s e p i : Int) : Bool := !decide (i < 0) && !decide (ptV s e p ≤ i)
def atV (s e p i : Int) : Int := if atB s e p i then s + i * p else 0
theorem ptV_pos {s e p : Int} (h : 0 < ptV s e p) : gridB s e p = true ∧ ptV s e p = ptN s e p ∧ ptN s e p ≤ 4096 := by
  unfold ptV at h ⊢
  by_cases hc : chE s e p = 0
  · obtain ⟨h1, h2⟩ := chE_0 hc
    exact ⟨h1, by simp [hc], h2⟩
  · simp [hc] at h
theorem mul_bd {s e p i : Int} (h0 : 0 ≤ i) (h1 : i < ptN s e p) (hp : 1 ≤ p) : 0 ≤ i * p ∧ i * p ≤ e - s := by
  refine ⟨Int.mul_nonneg h0 (by omega), ?_⟩
  have h2 : i ≤ (e - s) / p := by unfold ptN at h1; omega
  have h3 := Int.mul_le_mul_of_nonneg_right h2 (by omega : 0 ≤ p)
  have h4 := Int.ediv_mul_le (e - s) (by omega : p ≠ 0)
  omega
theorem at_any (s e p i : Int) (w : World) :
    Calls Tryd.prog 21 #[.agg #[.int .i64 s, .int .i64 e, .int .i64 p], .int .i64 i] w fun E w' => E = .returned (.tuple #[.int .i64 (atV s e p i), .bool (atB s e p i)]) ∧ Gr w w' := by
  cases h0 : decide (i < 0)
  case true =>
    have hv : atV s e p i = 0 := by simp [atV, atB, h0]
    have hb : atB s e p i = false := by simp [atB, h0]
    have Hv := Lib.hid hv; clear hv
    have Hb := Lib.hid hb; clear hb
    go_enter Tryd.func21, Tryd.ntmps21
    go_wp2_with fail
    go_ret2
    exact ⟨by rw [Hv.out, Hb.out]; rfl, (Gr.refl _).alloc _ _⟩
  cases h1 : decide (ptV s e p ≤ i)
  case true =>
    have hv : atV s e p i = 0 := by simp [atV, atB, h1]
    have hb : atB s e p i = false := by simp [atB, h1]
    have Hv := Lib.hid hv; clear hv
    have Hb := Lib.hid hb; clear hb
    go_enter Tryd.func21, Tryd.ntmps21
    go_wp2_with (go_at_call 23; refine (pts_any _ _ _ _).mono ?_; rintro E w1 ⟨rfl, hg⟩; obtain ⟨hc, hf⟩ := bcell hg)
    go_ret2
    exact ⟨by rw [Hv.out, Hb.out]; rfl, ((Gr.refl _).alloc _ _).trans hg⟩
  have hv : atV s e p i = s + i * p := by simp [atV, atB, h0, h1]
  have hb : atB s e p i = true := by simp [atB, h0, h1]
  have Hv := Lib.hid hv; clear hv
  have Hb := Lib.hid hb; clear hb
  have i0 : 0 ≤ i := by simpa using h0
  have i1 : i < ptV s e p := by simpa using h1
  obtain ⟨hg, hpe, hl⟩ := ptV_pos (by omega : 0 < ptV s e p)
  obtain ⟨s1, e2, hse, p1, p2⟩ := gridB_t hg
  obtain ⟨m1, m2⟩ := mul_bd (s := s) (e := e) i0 (by omega) p1
  have m3 : i * p ≤ 2251799813685248 := by omega
  have s2 : s ≤ 1125899906842624 := by omega
  clear hg hpe hl hse m2 e2
  go_enter Tryd.func21, Tryd.ntmps21
  go_wp2_with (go_at_call 23; refine (pts_any _ _ _ _).mono ?_; rintro E w1 ⟨rfl, hg⟩; obtain ⟨hc, hf⟩ := bcell hg)
  go_ret2
  exact ⟨by rw [Hv.out, Hb.out]; rfl, ((Gr.refl _).alloc _ _).trans hg⟩
end Go.Proofs.YthjfmfacnknpfaaDoor
