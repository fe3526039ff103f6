/- Grids: stamp's Check and Points, the reference's Check, Points, At; the window's check. -/
import Derived.Test.YtjjfkjpkbpefpaaDoorVBase
import Derived.Deep.DeepMust
import Derived.Deep.RegionWith
namespace Go.Proofs.YtjjfkjpkbpefpaaDoor.Vn
open Go.RowKit
set_option maxRecDepth 100000
set_option maxHeartbeats 4000000


def inB (t : Int) : Bool := decide (-1125899906842624 ≤ t ∧ t ≤ 1125899906842624)
def lenB (t : Int) : Bool := decide (1 ≤ t ∧ t ≤ 1125899906842624)
theorem inB_t {t : Int} (h : inB t = true) : -1125899906842624 ≤ t ∧ t ≤ 1125899906842624 := by simpa [inB] using h
theorem inB_f {t : Int} (h : inB t = false) : t < -1125899906842624 ∨ 1125899906842624 < t := by
  have : ¬ (-1125899906842624 ≤ t ∧ t ≤ 1125899906842624) := by simpa [inB] using h
  omega
theorem lenB_t {t : Int} (h : lenB t = true) : 1 ≤ t ∧ t ≤ 1125899906842624 := by simpa [lenB] using h
theorem lenB_f {t : Int} (h : lenB t = false) : t < 1 ∨ 1125899906842624 < t := by
  have : ¬ (1 ≤ t ∧ t ≤ 1125899906842624) := by simpa [lenB] using h
  omega

theorem isTime_any (t : Int) (w : World) :
    Calls Tryd.prog 68 #[.int .i64 t] w fun e w' => e = .returned (.bool (inB t)) ∧ w = w' := by
  have h2 : inB t = (decide (-1125899906842624 ≤ t) && decide (t ≤ 1125899906842624)) := by simp [inB]
  have H2 := Lib.hid h2; clear h2
  cases ha : decide (-1125899906842624 ≤ t) <;> cases hb : decide (t ≤ 1125899906842624)
  all_goals
    go_enter Tryd.func68, Tryd.ntmps68
    go_wp2
    go_ret
    exact ⟨by rw [H2.out, ha, hb]; rfl, rfl⟩
theorem isLength_any (t : Int) (w : World) :
    Calls Tryd.prog 69 #[.int .i64 t] w fun e w' => e = .returned (.bool (lenB t)) ∧ w = w' := by
  have h2 : lenB t = (decide (1 ≤ t) && decide (t ≤ 1125899906842624)) := by simp [lenB]
  have H2 := Lib.hid h2; clear h2
  cases ha : decide (1 ≤ t) <;> cases hb : decide (t ≤ 1125899906842624)
  all_goals
    go_enter Tryd.func69, Tryd.ntmps69
    go_wp2
    go_ret
    exact ⟨by rw [H2.out, ha, hb]; rfl, rfl⟩
theorem rin_any (t : Int) (w : World) :
    Calls Tryd.prog 43 #[.int .i64 t] w fun e w' => e = .returned (.bool (inB t)) ∧ w = w' := by
  have h2 : inB t = (decide (-1125899906842624 ≤ t) && decide (t ≤ 1125899906842624)) := by simp [inB]
  have H2 := Lib.hid h2; clear h2
  cases ha : decide (-1125899906842624 ≤ t) <;> cases hb : decide (t ≤ 1125899906842624)
  all_goals
    go_enter Tryd.func43, Tryd.ntmps43
    go_wp2
    go_ret
    exact ⟨by rw [H2.out, ha, hb]; rfl, rfl⟩

theorem bcell {W w1 : World} (hb : Gr W w1) : (∀ b o, b < W.heap.size → w1.cell? ⟨b, o, none⟩ = W.cell? ⟨b, o, none⟩) ∧ (∀ b o, b < W.heap.size → w1.frozen? ⟨b, o, none⟩ = W.frozen? ⟨b, o, none⟩) :=
  ⟨fun b o h => hb.b.cell (p := ⟨b, o, none⟩) h, fun b o h => hb.b.frozen (p := ⟨b, o, none⟩) h⟩

def ptN (s e p : Int) : Int := (e - s) / p + 1
def gridB (s e p : Int) : Bool := inB s && inB e && !decide (e < s) && lenB p
def chE (s e p : Int) : Int := if gridB s e p then (if 4096 < ptN s e p then 6 else 0) else 1
def ptV (s e p : Int) : Int := if chE s e p = 0 then ptN s e p else 0
theorem ptN_bd (s e p : Int) (h1 : s ≤ e) (h2 : 1 ≤ p) : 0 ≤ (e - s) / p ∧ (e - s) / p ≤ e - s := by
  refine ⟨Int.ediv_nonneg (by omega) (by omega), ?_⟩
  exact Int.ediv_le_self _ (by omega)

theorem points_any (s e p : Int) (w : World) (hs : -1125899906842624 ≤ s) (he : e ≤ 1125899906842624) (hse : s ≤ e) (hp : 1 ≤ p) (hp2 : p ≤ 1125899906842624) :
    Calls Tryd.prog 60 #[.agg #[.int .i64 s, .int .i64 e, .int .i64 p]] w fun E w' => E = .returned (.int .i64 (ptN s e p)) ∧ Gr w w' := by
  obtain ⟨k1, k2⟩ := ptN_bd s e p hse hp
  have k3 : (e - s) / p ≤ 2251799813685248 := by omega
  have k4 : 0 ≤ e - s := by omega
  have k5 : e - s ≤ 2251799813685248 := by omega
  have k6 : ¬ p = 0 := by omega
  go_enter Tryd.func60, Tryd.ntmps60
  go_wp2
  go_ret
  exact ⟨rfl, (Gr.refl _).alloc _ _⟩

theorem check_any (s e p : Int) (w : World) :
    Calls Tryd.prog 59 #[.agg #[.int .i64 s, .int .i64 e, .int .i64 p]] w fun E w' => E = .returned (.int .i64 (chE s e p)) ∧ Gr w w' := by
  cases hs : inB s <;> cases he : inB e <;> cases hse : decide (e < s) <;> cases hp : lenB p
  case true.true.false.true =>
    obtain ⟨s1, s2⟩ := inB_t hs
    obtain ⟨e1, e2⟩ := inB_t he
    obtain ⟨p1, p2⟩ := lenB_t hp
    have hse' : s ≤ e := by simpa using hse
    cases hl : decide (4096 < ptN s e p)
    all_goals
      have hv : chE s e p = if decide (4096 < ptN s e p) = true then 6 else 0 := by simp [chE, gridB, hs, he, hse, hp]
      rw [hl] at hv
      have Hv := Lib.hid hv; clear hv
      go_enter Tryd.func59, Tryd.ntmps59
      go_wp2_with (first | (go_at_call 68; refine (isTime_any _ _).mono ?_; rintro e w' ⟨rfl, rfl⟩) | (go_at_call 69; refine (isLength_any _ _).mono ?_; rintro e w' ⟨rfl, rfl⟩) | (go_at_call 60; refine (points_any _ _ _ _ s1 e2 hse' p1 p2).mono ?_; rintro e w1 ⟨rfl, hg⟩))
      go_ret
      exact ⟨by rw [Hv.out]; rfl, ((Gr.refl _).alloc _ _).trans hg⟩
  all_goals
    have hv : chE s e p = 1 := by simp [chE, gridB, hs, he, hse, hp]
    have Hv := Lib.hid hv; clear hv
    go_enter Tryd.func59, Tryd.ntmps59
    go_wp2_with (first | (go_at_call 68; refine (isTime_any _ _).mono ?_; rintro e w' ⟨rfl, rfl⟩) | (go_at_call 69; refine (isLength_any _ _).mono ?_; rintro e w' ⟨rfl, rfl⟩))
    go_ret
    exact ⟨by rw [Hv.out]; rfl, (Gr.refl _).alloc _ _⟩

theorem gridB_t {s e p : Int} (h : gridB s e p = true) : -1125899906842624 ≤ s ∧ e ≤ 1125899906842624 ∧ s ≤ e ∧ 1 ≤ p ∧ p ≤ 1125899906842624 := by
  simp only [gridB, Bool.and_eq_true, Bool.not_eq_true', decide_eq_false_iff_not] at h
  obtain ⟨⟨⟨h1, h2⟩, h3⟩, h4⟩ := h
  have := inB_t h1
  have := inB_t h2
  have := lenB_t h4
  omega
theorem chE_0 {s e p : Int} (h : chE s e p = 0) : gridB s e p = true ∧ ptN s e p ≤ 4096 := by
  unfold chE at h
  cases hg : gridB s e p
  · rw [hg] at h; simp at h
  · rw [hg] at h
    by_cases hl : 4096 < ptN s e p
    · simp [hl] at h
    · exact ⟨rfl, by omega⟩
theorem pts_any (s e p : Int) (w : World) :
    Calls Tryd.prog 41 #[.agg #[.int .i64 s, .int .i64 e, .int .i64 p]] w fun E w' => E = .returned (.int .i64 (ptV s e p)) ∧ Gr w w' := by
  by_cases hc : chE s e p = 0
  · obtain ⟨hg, hl⟩ := chE_0 hc
    obtain ⟨s1, e2, hse, p1, p2⟩ := gridB_t hg
    have hv : ptV s e p = ptN s e p := by simp [ptV, hc]
    have Hv := Lib.hid hv; clear hv
    have d1 : (chE s e p != 0) = false := by simpa using hc
    have d2 : (chE s e p == 0) = true := by simpa using hc
    clear hc hg
    go_enter Tryd.func41, Tryd.ntmps41
    go_wp2_with (first | (go_at_call 59; refine (check_any _ _ _ _).mono ?_; rintro E w1 ⟨rfl, hg⟩; obtain ⟨hc, hf⟩ := bcell hg) | (go_at_call 60; refine (points_any _ _ _ _ s1 e2 hse p1 p2).mono ?_; rintro E w2 ⟨rfl, hg2⟩))
    go_ret
    exact ⟨by rw [Hv.out]; rfl, (((Gr.refl _).alloc _ _).trans hg).trans hg2⟩
  · have hv : ptV s e p = 0 := by simp [ptV, hc]
    have Hv := Lib.hid hv; clear hv
    have d1 : (chE s e p != 0) = true := by simpa using hc
    have d2 : (chE s e p == 0) = false := by simpa using hc
    clear hc
    go_enter Tryd.func41, Tryd.ntmps41
    go_wp2_with (go_at_call 59; refine (check_any _ _ _ _).mono ?_; rintro E w1 ⟨rfl, hg⟩)
    go_ret
    exact ⟨by rw [Hv.out]; rfl, ((Gr.refl _).alloc _ _).trans hg⟩

def atB (s e p i : Int) : Bool := !decide (i < 0) && !decide (ptV s e p ≤ i)
def atV (s e p i : Int) : Int := if atB s e p i then s + i * p else 0
theorem ptV_pos {s e p : Int} (h : 0 < ptV s e p) : gridB s e p = true ∧ ptV s e p = ptN s e p ∧ ptN s e p ≤ 4096 := by
  unfold ptV at h ⊢
  by_cases hc : chE s e p = 0
  · obtain ⟨h1, h2⟩ := chE_0 hc
    exact ⟨h1, by simp [hc], h2⟩
  · simp [hc] at h
theorem mul_bd {s e p i : Int} (h0 : 0 ≤ i) (h1 : i < ptN s e p) (hp : 1 ≤ p) : 0 ≤ i * p ∧ i * p ≤ e - s := by
  refine ⟨Int.mul_nonneg h0 (by omega), ?_⟩
  have h2 : i ≤ (e - s) / p := by unfold ptN at h1; omega
  have h3 := Int.mul_le_mul_of_nonneg_right h2 (by omega : 0 ≤ p)
  have h4 := Int.ediv_mul_le (e - s) (by omega : p ≠ 0)
  omega

set_option maxHeartbeats 1600000 in
theorem ref_check_any (s e p : Int) (w : World) :
    Calls Tryd.prog 42 #[.agg #[.int .i64 s, .int .i64 e, .int .i64 p]] w fun E w' => E = .returned (.int .i64 (chE s e p)) ∧ Gr w w' := by
  cases hs : inB s <;> cases he : inB e <;> cases hse : decide (e < s) <;> cases hp1 : decide (p < 1) <;> cases hp2 : decide (1125899906842624 < p)
  case true.true.false.false.false =>
    have hp : lenB p = true := by simp at hp1 hp2; simp [lenB]; omega
    obtain ⟨s1, s2⟩ := inB_t hs
    obtain ⟨e1, e2⟩ := inB_t he
    obtain ⟨p1, p2⟩ := lenB_t hp
    have hse' : s ≤ e := by simpa using hse
    obtain ⟨k1, k2⟩ := ptN_bd s e p hse' p1
    have k3 : (e - s) / p ≤ 2251799813685248 := by omega
    have k4 : 0 ≤ e - s := by omega
    have k5 : e - s ≤ 2251799813685248 := by omega
    have k6 : ¬ p = 0 := by omega
    have hgb : gridB s e p = true := by unfold gridB; rw [hs, he, hse, hp]; rfl
    have h6 : decide (4096 < (e - s) / p + 1) = true → chE s e p = 6 := fun hl => by
      unfold chE; rw [if_pos hgb, if_pos (by unfold ptN; simpa using hl)]
    have h7 : decide (4096 < (e - s) / p + 1) = false → chE s e p = 0 := fun hl => by
      unfold chE; rw [if_pos hgb, if_neg (by unfold ptN; simpa using hl)]
    clear hgb
    cases hl : decide (4096 < (e - s) / p + 1)
    all_goals
      have hv := by first | exact h6 hl | exact h7 hl
      have Hv := Lib.hid hv; clear hv h6 h7
      go_enter Tryd.func42, Tryd.ntmps42
      go_wp2_with (go_at_call 43; refine (rin_any _ _).mono ?_; rintro e w' ⟨rfl, rfl⟩)
      go_ret
      exact ⟨by rw [Hv.out]; rfl, (Gr.refl _).alloc _ _⟩
  all_goals
    have hp : (inB s && inB e && !decide (e < s) && lenB p) = false := by
      have : lenB p = (!decide (p < 1) && !decide (1125899906842624 < p)) := by simp [lenB, ← Int.not_lt]
      rw [this, hs, he, hse, hp1, hp2]; rfl
    have hv : chE s e p = 1 := by unfold chE gridB; rw [hp]; rfl
    have Hv := Lib.hid hv; clear hv hp
    go_enter Tryd.func42, Tryd.ntmps42
    go_wp2_with (go_at_call 43; refine (rin_any _ _).mono ?_; rintro e w' ⟨rfl, rfl⟩)
    go_ret
    exact ⟨by rw [Hv.out]; rfl, (Gr.refl _).alloc _ _⟩
theorem ref_pts_any (s e p : Int) (w : World) :
    Calls Tryd.prog 44 #[.agg #[.int .i64 s, .int .i64 e, .int .i64 p]] w fun E w' => E = .returned (.int .i64 (ptV s e p)) ∧ Gr w w' := by
  by_cases hc : chE s e p = 0
  · obtain ⟨hg, hl⟩ := chE_0 hc
    obtain ⟨s1, e2, hse, p1, p2⟩ := gridB_t hg
    have hv : ptV s e p = ptN s e p := by simp [ptV, hc]
    have Hv := Lib.hid hv; clear hv
    have d1 : (chE s e p != 0) = false := by simpa using hc
    obtain ⟨k1, k2⟩ := ptN_bd s e p hse p1
    have k3 : (e - s) / p ≤ 2251799813685248 := by omega
    have k4 : 0 ≤ e - s := by omega
    have k5 : e - s ≤ 2251799813685248 := by omega
    have k6 : ¬ p = 0 := by omega
    have d2 : (chE s e p == 0) = true := by simpa using hc
    clear hc hg
    go_enter Tryd.func44, Tryd.ntmps44
    go_wp2_with (first | (go_at_call 42; refine (ref_check_any _ _ _ _).mono ?_; rintro E w1 ⟨rfl, hg⟩; obtain ⟨hc, hf⟩ := bcell hg))
    go_ret
    exact ⟨by rw [Hv.out]; rfl, ((Gr.refl _).alloc _ _).trans hg⟩
  · have hv : ptV s e p = 0 := by simp [ptV, hc]
    have Hv := Lib.hid hv; clear hv
    have d1 : (chE s e p != 0) = true := by simpa using hc
    have d2 : (chE s e p == 0) = false := by simpa using hc
    clear hc
    go_enter Tryd.func44, Tryd.ntmps44
    go_wp2_with (go_at_call 42; refine (ref_check_any _ _ _ _).mono ?_; rintro E w1 ⟨rfl, hg⟩)
    go_ret
    exact ⟨by rw [Hv.out]; rfl, ((Gr.refl _).alloc _ _).trans hg⟩

theorem ref_at_any (s e p i : Int) (w : World) :
    Calls Tryd.prog 45 #[.agg #[.int .i64 s, .int .i64 e, .int .i64 p], .int .i64 i] w fun E w' => E = .returned (.tuple #[.int .i64 (atV s e p i), .bool (atB s e p i)]) ∧ Gr w w' := by
  cases h0 : decide (i < 0)
  case true =>
    have hv : atV s e p i = 0 := by simp [atV, atB, h0]
    have hb : atB s e p i = false := by simp [atB, h0]
    have Hv := Lib.hid hv; clear hv
    have Hb := Lib.hid hb; clear hb
    go_enter Tryd.func45, Tryd.ntmps45
    go_wp2_with fail
    go_ret2
    exact ⟨by rw [Hv.out, Hb.out]; rfl, (Gr.refl _).alloc _ _⟩
  cases h1 : decide (ptV s e p ≤ i)
  case true =>
    have hv : atV s e p i = 0 := by simp [atV, atB, h1]
    have hb : atB s e p i = false := by simp [atB, h1]
    have Hv := Lib.hid hv; clear hv
    have Hb := Lib.hid hb; clear hb
    go_enter Tryd.func45, Tryd.ntmps45
    go_wp2_with (go_at_call 44; refine (ref_pts_any _ _ _ _).mono ?_; rintro E w1 ⟨rfl, hg⟩; obtain ⟨hc, hf⟩ := bcell hg)
    go_ret2
    exact ⟨by rw [Hv.out, Hb.out]; rfl, ((Gr.refl _).alloc _ _).trans hg⟩
  have hv : atV s e p i = s + i * p := by simp [atV, atB, h0, h1]
  have hb : atB s e p i = true := by simp [atB, h0, h1]
  have Hv := Lib.hid hv; clear hv
  have Hb := Lib.hid hb; clear hb
  have i0 : 0 ≤ i := by simpa using h0
  have i1 : i < ptV s e p := by simpa using h1
  obtain ⟨hg, hpe, hl⟩ := ptV_pos (by omega : 0 < ptV s e p)
  obtain ⟨s1, e2, hse, p1, p2⟩ := gridB_t hg
  obtain ⟨m1, m2⟩ := mul_bd (s := s) (e := e) i0 (by omega) p1
  have m3 : i * p ≤ 2251799813685248 := by omega
  have s2 : s ≤ 1125899906842624 := by omega
  clear hg hpe hl hse m2 e2
  go_enter Tryd.func45, Tryd.ntmps45
  go_wp2_with (go_at_call 44; refine (ref_pts_any _ _ _ _).mono ?_; rintro E w1 ⟨rfl, hg⟩; obtain ⟨hc, hf⟩ := bcell hg)
  go_ret2
  exact ⟨by rw [Hv.out, Hb.out]; rfl, ((Gr.refl _).alloc _ _).trans hg⟩

/-- what keeps windows from sliding -/
def chkE (fn s e p len off : Int) : Int := if chE s e p = 0 then (if isFn fn && lenB len && inB off then 0 else 1) else chE s e p
theorem isFn_any' (fn : Int) (w : World) :
    Calls Tryd.prog 26 #[.int .i64 fn] w fun e w' => e = .returned (.bool (isFn fn)) ∧ w = w' := by
  have H2 : Hid (isFn fn = (decide (1 ≤ fn) && decide (fn ≤ 14))) := Lib.hid rfl
  cases ha : decide (1 ≤ fn) <;> cases hb : decide (fn ≤ 14)
  all_goals
    go_enter Tryd.func26, Tryd.ntmps26
    go_wp2
    go_ret
    exact ⟨by rw [H2.out, ha, hb]; rfl, rfl⟩
theorem wcheck_any (fn s e p len off : Int) (w : World) :
    Calls Tryd.prog 40 #[.int .i64 fn, .agg #[.int .i64 s, .int .i64 e, .int .i64 p], .int .i64 len, .int .i64 off] w fun E w' => E = .returned (.int .i64 (chkE fn s e p len off)) ∧ Gr w w' := by
  have CI := Lib.hid (fun W => isFn_any' fn W)
  by_cases hc : chE s e p = 0
  case neg =>
    have HV : Hid (chkE fn s e p len off = chE s e p) := Lib.hid (by unfold chkE; rw [if_neg hc])
    have CC := Lib.hid (fun W => check_any s e p W)
    obtain ⟨c, hcc⟩ : ∃ c, chE s e p = c := ⟨_, rfl⟩
    rw [hcc] at hc HV CC
    have d1 : (c != 0) = true := by simpa using hc
    have d2 : (c == 0) = false := by simpa using hc
    clear hcc
    go_enter Tryd.func40, Tryd.ntmps40
    go_wp2_with (first | (go_at_call 59; refine (CC.out _).mono ?_; rintro E w1 ⟨rfl, hg⟩) | fail)
    go_ret
    exact ⟨by rw [HV.out]; rfl, ((Gr.refl _).alloc _ _).trans hg⟩
  have CC := Lib.hid (fun W => check_any s e p W)
  have HV : Hid (chkE fn s e p len off = if isFn fn && lenB len && inB off then 0 else 1) := Lib.hid (by unfold chkE; rw [if_pos hc])
  have HL : Hid (lenB len = (!decide (len < 1) && !decide (1125899906842624 < len))) := Lib.hid (by simp [lenB, ← Int.not_lt])
  have HI : Hid (inB off = (!decide (off < -1125899906842624) && !decide (1125899906842624 < off))) := Lib.hid (by simp [inB, ← Int.not_lt])
  rw [hc] at CC
  clear hc
  cases h1 : isFn fn
  case false =>
    rw [h1] at CI
    have HE : Hid (chkE fn s e p len off = 1) := Lib.hid (by rw [HV.out, h1]; rfl)
    clear h1
    go_enter Tryd.func40, Tryd.ntmps40
    go_wp2_with (first | (go_at_call 59; refine (CC.out _).mono ?_; rintro E w1 ⟨rfl, hg⟩) | (go_at_call 26; refine (CI.out _).mono ?_; rintro E w2 ⟨rfl, rfl⟩) | fail)
    go_ret
    exact ⟨by rw [HE.out]; rfl, ((Gr.refl _).alloc _ _).trans hg⟩
  rw [h1] at CI
  cases h2 : decide (len < 1) <;> cases h3 : decide (1125899906842624 < len) <;> cases h4 : decide (off < -1125899906842624) <;> cases h5 : decide (1125899906842624 < off)
  all_goals
    have hv := HV.out
    rw [h1, HL.out, HI.out, h2, h3, h4, h5] at hv
    have HE := Lib.hid hv
    have h3' := h3
    have h5' := h5
    change decide (len > 1125899906842624) = _ at h3'
    change decide (off > 1125899906842624) = _ at h5'
    clear h1 hv
    go_enter Tryd.func40, Tryd.ntmps40
    go_wp2_with (first | (go_at_call 59; refine (CC.out _).mono ?_; rintro E w1 ⟨rfl, hg⟩) | (go_at_call 26; refine (CI.out _).mono ?_; rintro E w2 ⟨rfl, rfl⟩) | fail)
    go_ret
    exact ⟨by rw [HE.out]; rfl, ((Gr.refl _).alloc _ _).trans hg⟩
end Go.Proofs.YtjjfkjpkbpefpaaDoor.Vn
