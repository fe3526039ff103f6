/- The walk of StampGrids. -/
import Derived.Test.YthjfmfacnknpfaaDoorKnown
import Derived.Test.YthjfmfacnknpfaaDoorGridRef
import Derived.Lib.QuietBelow
import Derived.BigQuiet
namespace Go.Proofs.YthjfmfacnknpfaaDoor
open Go.RowKit
set_option maxRecDepth 100000
set_option maxHeartbeats 4000000

/-- the argument's own cells, and what was there -/
def Bx (w : World) (s e p : Int) (W : World) : Prop :=
  W.cell? ⟨w.heap.size, 0, none⟩ = some (.int .i64 s) ∧ W.cell? ⟨w.heap.size, 1, none⟩ = some (.int .i64 e) ∧ W.cell? ⟨w.heap.size, 2, none⟩ = some (.int .i64 p) ∧ Gr w W
theorem Bx.gr {w W W' : World} {s e p : Int} (h : Bx w s e p W) (g : Gr W W') : Bx w s e p W' := ⟨g.cell h.1, g.cell h.2.1, g.cell h.2.2.1, h.2.2.2.trans g⟩
theorem Bx.drew {w W : World} {s e p : Int} (h : Bx w s e p W) : Bx w s e p W.drew := h.gr (Gr.refl W).drew
theorem Bx.start (w : World) (s e p : Int) (t : TypeId) : Bx w s e p (w.alloc (.cells #[.int .i64 s, .int .i64 e, .int .i64 p] t)) := by
  refine ⟨?_, ?_, ?_, (Gr.refl _).alloc _ _⟩ <;> go_simp
theorem at_facts {s e p : Int} (h : 0 < ptV s e p) :
    atV s e p 0 = s ∧ atB s e p 0 = true ∧ atB s e p (ptV s e p - 1) = true ∧ atB s e p (ptV s e p) = false ∧ atV s e p (ptV s e p) = 0 ∧
    -1125899906842624 ≤ s ∧ atV s e p (ptV s e p - 1) ≤ e ∧ s ≤ atV s e p (ptV s e p - 1) ∧ e - atV s e p (ptV s e p - 1) < p ∧ e ≤ 1125899906842624 ∧ ptV s e p ≤ 4096 := by
  obtain ⟨hg, hpe, hl⟩ := ptV_pos h
  obtain ⟨s1, e2, hse, p1, p2⟩ := gridB_t hg
  have hb0 : atB s e p 0 = true := by unfold atB; simp; omega
  have hb1 : atB s e p (ptV s e p - 1) = true := by unfold atB; simp; omega
  have hb2 : atB s e p (ptV s e p) = false := by unfold atB; simp
  have hq : ptV s e p - 1 = (e - s) / p := by rw [hpe]; unfold ptN; omega
  have hv1 : atV s e p (ptV s e p - 1) = s + (e - s) / p * p := by unfold atV; rw [hb1, hq]; rfl
  have h3 := Int.ediv_mul_le (e - s) (by omega : p ≠ 0)
  have h4 := Int.lt_ediv_add_one_mul_self (e - s) (by omega : 0 < p)
  have h5 : ((e - s) / p + 1) * p = (e - s) / p * p + p := by rw [Int.add_mul, Int.one_mul]
  have h6 : 0 ≤ (e - s) / p * p := Int.mul_nonneg (Int.ediv_nonneg (by omega) (by omega)) (by omega)
  refine ⟨?_, hb0, hb1, hb2, ?_, s1, ?_, ?_, ?_, e2, by omega⟩
  · unfold atV; rw [hb0]; simp
  · unfold atV; rw [hb2]; rfl
  · rw [hv1]; omega
  · rw [hv1]; omega
  · rw [hv1]; omega
theorem lawGrids_any (s e p i : Int) (w : World) (hk : KnU w) :
    Calls Tryd.prog 5 #[.agg #[.int .i64 s, .int .i64 e, .int .i64 p], .int .i64 i] w fun E w' => E = .returned (.bool true) ∧ Gr w w' := by
  have HK := Lib.hid (hk.gr ((Gr.refl w).alloc #[.int .i64 s, .int .i64 e, .int .i64 p] 38))
  have HB0 := Lib.hid (Bx.start w s e p 38)
  clear hk
  go_enter Tryd.func5, Tryd.ntmps5
  go_wp2_with fail
  refine (known_any _ HK.out).mono ?_
  rintro E w1 ⟨rfl, g1⟩
  have H1 := Lib.hid (HB0.out.gr g1)
  have c0 := H1.out.1
  have c1 := H1.out.2.1
  have c2 := H1.out.2.2.1
  go_wp2_with fail
  refine (at_any _ _ _ _ _).mono ?_
  rintro E w2 ⟨rfl, g2⟩
  have H2 := Lib.hid (H1.out.gr g2)
  clear c0 c1 c2
  have c0 := H2.out.1
  have c1 := H2.out.2.1
  have c2 := H2.out.2.2.1
  go_wp2_with fail
  refine (ref_at_any _ _ _ _ _).mono ?_
  rintro E w3 ⟨rfl, g3⟩
  have H3 := Lib.hid (H2.out.gr g3)
  clear c0 c1 c2
  have c0 := H3.out.1
  have c1 := H3.out.2.1
  have c2 := H3.out.2.2.1
  go_wp2_with fail
  refine (pts_any _ _ _ _).mono ?_
  rintro E w4 ⟨rfl, g4⟩
  have H4 := Lib.hid (H3.out.gr g4)
  clear c0 c1 c2
  have c0 := H4.out.1
  have c1 := H4.out.2.1
  have c2 := H4.out.2.2.1
  go_wp2_with fail
  have k0 := cell_regrown c0
  have k1 := cell_regrown c1
  have k2 := cell_regrown c2
  have cC : ∀ d os, Calls Tryd.prog 24 #[.agg #[.int .i64 s, .int .i64 e, .int .i64 p]] (Go.Sort.grow (redrawn w4 d) os) fun E w'' => E = .returned (.int .i64 (chE s e p)) ∧ ∃ q : Regrown, w'' = Go.Sort.grow (redrawn w4 q.d) q.os := fun d os => Calls.regrown_of ((check_any s e p _).mono fun _ _ ⟨h, g⟩ => ⟨h, g.b⟩)
  have cR : ∀ d os, Calls Tryd.prog 25 #[.agg #[.int .i64 s, .int .i64 e, .int .i64 p]] (Go.Sort.grow (redrawn w4 d) os) fun E w'' => E = .returned (.int .i64 (chE s e p)) ∧ ∃ q : Regrown, w'' = Go.Sort.grow (redrawn w4 q.d) q.os := fun d os => Calls.regrown_of ((ref_check_any s e p _).mono fun _ _ ⟨h, g⟩ => ⟨h, g.b⟩)
  have cP : ∀ d os, Calls Tryd.prog 26 #[.agg #[.int .i64 s, .int .i64 e, .int .i64 p]] (Go.Sort.grow (redrawn w4 d) os) fun E w'' => E = .returned (.int .i64 (ptV s e p)) ∧ ∃ q : Regrown, w'' = Go.Sort.grow (redrawn w4 q.d) q.os := fun d os => Calls.regrown_of ((ref_pts_any s e p _).mono fun _ _ ⟨h, g⟩ => ⟨h, g.b⟩)
  have CC := Lib.hid cC; have CR := Lib.hid cR; have CP := Lib.hid cP
  clear cC cR cP c0 c1 c2
  refine wp_region_quiet_below (by kernel_rfl) (by kernel_rfl) ?_
  repeat (quiet_step (first | exact CC.out _ _ | exact CR.out _ _ | exact CP.out _ _))
  refine wpQuiet_nil ?_
  intro _ hw'
  obtain ⟨⟨dq, osq⟩, hw''⟩ := hw'
  subst hw''
  have H5 := Lib.hid (H4.out.gr (W' := Go.Sort.grow (redrawn w4 dq) osq) ⟨below_regrown w4 dq osq⟩)
  clear k0 k1 k2 CC CR CP
  generalize Go.Sort.grow (redrawn w4 dq) osq = w5 at *
  by_cases hn : ptV s e p = 0
  · have d1 : (ptV s e p == 0) = true := by simpa using hn
    clear hn
    go_wp2
    go_ret
    exact ⟨rfl, H5.out.2.2.2⟩
  · have d1 : (ptV s e p == 0) = false := by simpa using hn
    have hpos : 0 < ptV s e p := by
      unfold ptV at hn ⊢
      by_cases hc : chE s e p = 0
      · rw [if_pos hc] at hn ⊢
        obtain ⟨hg, -⟩ := chE_0 hc
        obtain ⟨s1, e2, hse, p1, p2⟩ := gridB_t hg
        have := ptN_bd s e p hse p1
        unfold ptN at hn ⊢
        omega
      · rw [if_neg hc] at hn; exact absurd rfl hn
    obtain ⟨f1, f2, f3, f4, f5, b1, b2, b3, b4, b5, b6⟩ := at_facts hpos
    have A0 : ∀ W, Calls Tryd.prog 21 #[.agg #[.int .i64 s, .int .i64 e, .int .i64 p], .int .i64 0] W fun E w' => E = .returned (.tuple #[.int .i64 s, .bool true]) ∧ Gr W w' := fun W => by
      have h := at_any s e p 0 W; rw [f1, f2] at h; exact h
    have A1 : ∀ W, Calls Tryd.prog 21 #[.agg #[.int .i64 s, .int .i64 e, .int .i64 p], .int .i64 (ptV s e p - 1)] W fun E w' => E = .returned (.tuple #[.int .i64 (atV s e p (ptV s e p - 1)), .bool true]) ∧ Gr W w' := fun W => by
      have h := at_any s e p (ptV s e p - 1) W; rw [f3] at h; exact h
    have A2 : ∀ W, Calls Tryd.prog 21 #[.agg #[.int .i64 s, .int .i64 e, .int .i64 p], .int .i64 (ptV s e p)] W fun E w' => E = .returned (.tuple #[.int .i64 0, .bool false]) ∧ Gr W w' := fun W => by
      have h := at_any s e p (ptV s e p) W; rw [f4, f5] at h; exact h
    have HA0 := Lib.hid A0; have HA1 := Lib.hid A1; have HA2 := Lib.hid A2
    clear A0 A1 A2 f1 f2 f3 f4 f5 hn
    generalize atV s e p (ptV s e p - 1) = y at *
    have q1 : decide (y ≤ e) = true := by simpa using b2
    have q2 : decide (e - y < p) = true := by simpa using b4
    have q3 : 0 ≤ e - y := by omega
    have q4 : e - y ≤ 2251799813685248 := by omega
    have q5 : 0 ≤ ptV s e p - 1 := by omega
    clear b1 b3 b4 b5
    have c0 := H5.out.1
    have c1 := H5.out.2.1
    have c2 := H5.out.2.2.1
    go_wp2_with fail
    refine (HA0.out _).mono ?_
    rintro E w6 ⟨rfl, g6⟩
    have H6 := Lib.hid (H5.out.gr g6)
    clear c0 c1 c2
    have c0 := H6.out.1
    have c1 := H6.out.2.1
    have c2 := H6.out.2.2.1
    go_wp2_with fail
    refine (HA1.out _).mono ?_
    rintro E w7 ⟨rfl, g7⟩
    have H7 := Lib.hid (H6.out.gr g7)
    clear c0 c1 c2
    have c0 := H7.out.1
    have c1 := H7.out.2.1
    have c2 := H7.out.2.2.1
    go_wp2_with fail
    refine (HA2.out _).mono ?_
    rintro E w8 ⟨rfl, g8⟩
    have H8 := Lib.hid (H7.out.gr g8)
    clear c0 c1 c2
    have c0 := H8.out.1
    have c1 := H8.out.2.1
    have c2 := H8.out.2.2.1
    go_wp2
    try go_quiet (fail)
    try go_wp2
    go_ret
    exact ⟨rfl, by first | exact H8.out.2.2.2 | exact H8.out.2.2.2.drewN _ | exact H8.out.2.2.2.drew⟩
end Go.Proofs.YthjfmfacnknpfaaDoor
