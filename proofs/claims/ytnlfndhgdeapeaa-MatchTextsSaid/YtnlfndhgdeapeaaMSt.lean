/- Match: what memory holds. -/
import Derived.Deep.RegionLaw
import Derived.Test.YtnlfndhgdeapeaaEnFr
import Derived.Test.YtnlfndhgdeapeaaFit
namespace Go.Proofs.Ytnlfndhgdeapeaa
open Go.RowKit
set_option maxRecDepth 100000
set_option maxHeartbeats 4000000

def EnPost (B R eb : Nat) (S : List St) (T : Nat) (r : List Nat × List Nat) (sv : Value) (w : World) (lv tv : Value) (e : Ending) (w' : World) : Prop :=
  ∃ lv' tv', e = .returned tv' ∧ EnSt B R eb w' S T r.1 [] r.2 sv lv' tv' ∧ EnStep R eb w lv tv w' lv' tv'
theorem enter_any (B R eb : Nat) (S : List St) (T : Nat) (E set : List Nat) (sv lv tv : Value) (s : Nat) (w : World) (h : EnSt B R eb w S T E [] set sv lv tv) (hok : StOk S) (hs : s < S.length) (hS : S.length ≤ 1000000000000) (hT : T ≤ 1000000000000) (hc : set.length + unent T E ≤ S.length) :
    Calls Try.prog 28 #[.pointer (some ⟨R, 0, none⟩), tv, .int .i64 s] w (EnPost B R eb S T (runF S T (4 * S.length + 3) E [] set (some s)) sv w lv tv) := by
  obtain ⟨Q, hQ⟩ : ∃ Q, runF S T (4 * S.length + 3) E [] set (some s) = Q := ⟨_, rfl⟩
  rw [hQ]
  have hun : unent T E ≤ S.length := by have := unent_le T E; rw [h.el] at this; exact this
  have H0 : EnAt B R eb S T sv lv tv w Q (4 * S.length + 3) (some s) E [] set lv tv w := ⟨h, EnStep.refl _ _ _ _ _, by unfold fuelOf; simp; omega, hQ, fun x e => (by cases e; exact hs), fun x hx => (by cases hx), by simpa using hun, hc⟩
  have H0' := Lib.hid H0
  have I4 : Hid (wrap64 ((T : Int) + 1) = (T : Int) + 1) := Lib.hid (by unfold wrap64; omega)
  have I5 : Hid (IntKind.i64.wrap ((T : Int) + 1) = (T : Int) + 1) := Lib.hid (IntWalk.i64_in _ ⟨by omega, by omega⟩)
  obtain ⟨At, ct, rfl⟩ := h.t.form
  clear hQ h hs hc hun H0
  go_enter Try.func28, Try.ntmps28
  go_wp2
  refine wp_scope_two (KE B R eb S T sv lv (.slice At set.length ct) w Q) ?hK rfl rfl ?p0 ?p1 ?first
  case hK =>
    rintro f l a W ⟨E1, L1, set1, lv1, tv1, s1, u, -, ⟨h, -⟩ | ⟨h, -⟩⟩
    · exact .inr h
    · exact .inl h
  case p0 =>
    rintro f g a W hfg ⟨E1, L1, set1, lv1, tv1, s1, u, rfl, ⟨h, -⟩ | ⟨-, ha⟩⟩
    · exact absurd h (by omega)
    cases f with
    | zero => have := ha.fu; omega
    | succ f =>
      obtain ⟨c0, c1, c2, c3, f2, f3⟩ := ha.st.cells
      obtain ⟨A1, cc1, rfl⟩ := ha.st.t.form
      obtain ⟨A2, cc2, rfl⟩ := ha.st.l.form
      have hq := ha.q
      unfold runF at hq
      have HA := Lib.hid ha
      unfold EnFr
      cases hL : L1.getLast? with
      | none =>
        obtain rfl : L1 = [] := by simpa using hL
        rw [hL] at hq
        have H : Hid (Q = (E1, set1)) := Lib.hid hq.symm
        clear hq hL ha
        go_wp2
        rw [jumps_ret]
        go_ret
        refine ⟨_, _, rfl, ?_, HA.out.ch⟩
        rw [H.out]
        exact HA.out.st
      | some x =>
        have hne : L1 ≠ [] := by rintro rfl; cases hL
        obtain ⟨m, hm⟩ : ∃ m, L1.length = m + 1 := ⟨L1.length - 1, by cases L1 with | nil => exact absurd rfl hne | cons => simp⟩
        have hx : L1[m]? = some x := by rw [List.getLast?_eq_getElem?] at hL; rwa [hm] at hL
        rw [hL] at hq
        obtain ⟨lb, rfl, hlc⟩ := ha.st.l.cells (i := m) (by omega)
        rw [(List.getElem?_eq_some_iff.1 hx).2] at hlc
        have hcap : L1.length ≤ cc2 := by
          rcases ha.st.l.2 with ⟨e, -⟩ | ⟨g1, cap, cur, e, -, -, h4, -⟩
          · cases e
          · obtain ⟨-, -, rfl⟩ : some (⟨lb, 0, none⟩ : Addr) = some ⟨g1, 0, none⟩ ∧ L1.length = L1.length ∧ cc2 = cap := by simpa using e
            exact h4
        have hpop := (ha.st.gr (Gr.refl W).drew).pop hne
        rw [hm] at hpop c2 hcap
        have HP := Lib.hid hpop
        have hfu := ha.fu
        rw [fuel_none] at hfu
        have hxs := ha.la x (List.mem_of_getElem? hx)
        have hla : ∀ y ∈ L1.dropLast, y < S.length := fun y hy => ha.la y (List.dropLast_subset _ hy)
        have hc1 := ha.c1
        have hmb : (m : Int) ≤ 1000000000000 := by omega
        have hlr : lb ≠ R := fun e => ha.st.lr (by rw [e]; rfl)
        have HF := Lib.hid (show ∀ W', W' = W.drew.setCell ⟨R, 2, none⟩ (.slice (some ⟨lb, 0, none⟩) m cc2) → EnAt B R eb S T sv lv (.slice At set.length ct) w Q f (some x) E1 L1.dropLast set1 (.slice (some ⟨lb, 0, none⟩) m cc2) (.slice A1 set1.length cc1) W' by
          rintro W' rfl
          refine ⟨HP.out.1, (ha.ch.gr (Gr.refl W).drew).trans (by rw [hm]; exact HP.out.2), ?_, hq, fun y e => (by cases e; exact hxs), hla, by simp; omega, ha.c2⟩
          rw [fuel_some, List.length_dropLast]
          omega)
        have i0 : wrap64 (m : Int) = m := by unfold wrap64; omega
        have hk1 := (World.cell?_setCell_far W ⟨R, 2, none⟩ ⟨lb, m, none⟩ (.slice (some ⟨lb, 0, none⟩) m cc2) (by show R ≠ lb; omega)).trans hlc
        clear hpop hq hL ha HP hla hx hne hc1 hfu hm HA
        have i1 : (m : Int) < (m : Int) + 1 := by omega
        have i2 : (m : Int) ≤ (cc2 : Int) := by omega
        have i3 : (0 : Int) ≤ (m : Int) := by omega
        have i4 : ((m : Int) + 1) - 1 = (m : Int) := by omega
        go_wp2
        go_region_law (fail)
        all_goals
          go_wp2
          go_step3
          exact ke_1 x rfl (by omega) (HF.out _ rfl)
  case p1 =>
    rintro p0 f g a W hfg ⟨E1, L1, set1, lv1, tv1, s1, u, rfl, hor⟩
    have ha := hor.elim (fun h => h.2) (fun h => absurd h.1 (by omega))
    have HP0 := Lib.hid p0
    clear hor p0
    cases f with
    | zero => have := ha.fu; omega
    | succ f =>
      obtain ⟨c0, c1, c2, c3, f2, f3⟩ := ha.st.cells
      obtain ⟨A1, cc1, rfl⟩ := ha.st.t.form
      obtain ⟨A2, cc2, rfl⟩ := ha.st.l.form
      have hs1 := ha.cu s1 rfl
      obtain ⟨e0, fe⟩ := ha.st.ent hs1
      obtain ⟨sb, sc, rfl, k4, k5, k6, -⟩ := ha.st.s.cellsAt hs1
      have hq := ha.q
      unfold runF at hq
      have hfu := ha.fu
      rw [fuel_some] at hfu
      have HA := Lib.hid ha
      have i1 : (s1 : Int) < (S.length : Int) := by omega
      have i2 : (0 : Int) ≤ (s1 : Int) := by omega
      obtain ⟨x, hx⟩ : ∃ x, E1.getD s1 0 = x := ⟨_, rfl⟩
      rw [hx] at e0 hq
      unfold EnFr
      by_cases hT1 : T < x
      · rw [if_pos hT1] at hq
        have HF := Lib.hid (show ∀ W', Gr W W' → EnAt B R eb S T (.slice (some ⟨sb, 0, none⟩) S.length sc) lv (.slice At set.length ct) w Q f none E1 L1 set1 (.slice A2 L1.length cc2) (.slice A1 set1.length cc1) W' from
          fun W' k => ⟨ha.st.gr k, ha.ch.gr k, by rw [fuel_none]; omega, hq, fun y e => (by cases e), ha.la, ha.c1, ha.c2⟩)
        have i3 : (T : Int) < (x : Int) := by omega
        clear hq ha HA hx hfu
        go_wp2_with fail
        go_quiet (fail)
        go_wp2
        go_step3
        exact ke_0 s1 rfl (by omega) (HF.out _ ((Gr.refl W).drewN _))
      · rw [if_neg hT1] at hq
        have i3 : ¬ (T : Int) < (x : Int) := by omega
        have hxT : E1.getD s1 0 ≤ T := by omega
        have hun := unent_set (T := T) (E := E1) (s := s1) (by rw [ha.st.el]; exact hs1) hxT
        clear hx
        go_wp2_with fail
        go_quiet (fail)
        obtain ⟨Wq, hWq⟩ : ∃ Wq, W.drewN nq = Wq := ⟨_, rfl⟩
        have kq : Gr W Wq := by rw [← hWq]; exact (Gr.refl W).drewN nq
        rw [hWq]
        have hst := ha.st.gr kq
        have hch := ha.ch.gr kq
        have hla := ha.la
        have hc1 := ha.c1
        have hc2 := ha.c2
        clear hWq kq c0 c1 c2 c3 f2 f3 e0 fe k4 k5 k6 ha HA
        obtain ⟨c0, c1, c2, c3, f2, f3⟩ := hst.cells
        obtain ⟨e0, fe⟩ := hst.ent hs1
        have hmk := (hst.gr (Gr.refl Wq).drew).mark s1 (T + 1)
        have hcm := (hch.gr (Gr.refl Wq).drew).trans (EnStep.mark s1 (.int .i64 ((T + 1 : Nat) : Int)))
        have HMK := Lib.hid hmk
        have HCM := Lib.hid hcm
        have hk1 := (World.cell?_setCell_far Wq ⟨eb, s1, none⟩ ⟨R, 1, none⟩ (.int .i64 ((T : Int) + 1)) (by show eb ≠ R; exact fun e => hst.ne e.symm)).trans c1
        have hk3 := (World.cell?_setCell_far Wq ⟨eb, s1, none⟩ ⟨R, 3, none⟩ (.int .i64 ((T : Int) + 1)) (by show eb ≠ R; exact fun e => hst.ne e.symm)).trans c3
        have i4 := I4.out
        have i5 := I5.out
        clear hmk hcm hst hch
        go_wp2_with fail
        go_region_held3 (fun w' => w'.cell? ⟨R, 1, none⟩ = some (.slice (some ⟨eb, 0, none⟩) S.length S.length) ∧ w'.cell? ⟨R, 3, none⟩ = some (.int .i64 T)) (first | exact ⟨hk1, hk3⟩ | go_keep) (fail)
        obtain ⟨W2, hW2⟩ : ∃ W2, (Wq.setCell ⟨eb, s1, none⟩ (.int .i64 ((T : Int) + 1))).drew = W2 := ⟨_, rfl⟩
        clear i4 i5
        have hst := HMK.out
        have hch := HCM.out
        replace hst : EnSt B R eb W2 S T (E1.set s1 (T + 1)) L1 set1 (.slice (some ⟨sb, 0, none⟩) S.length sc) (.slice A2 L1.length cc2) (.slice A1 set1.length cc1) := by rw [← hW2]; exact hst
        replace hch : EnStep R eb w lv (.slice At set.length ct) W2 (.slice A2 L1.length cc2) (.slice A1 set1.length cc1) := by rw [← hW2]; exact hch
        rw [hW2]
        have hokS := hok.at hs1
        clear hW2 HMK HCM hk1 hk3 c0 c1 c2 c3 f2 f3 e0 fe
        obtain ⟨c0, c1, c2, c3, f2, f3⟩ := hst.cells
        obtain ⟨sb', sc', e', k4, k5, k6, -⟩ := hst.s.cellsAt hs1
        obtain ⟨rfl, rfl⟩ : sb = sb' ∧ sc = sc' := by simpa using e'
        clear e'
        cases hfk : (stAt S s1).fork with
        | true =>
          rw [hfk] at k4
          rw [if_pos hfk] at hq
          obtain ⟨ot, hot⟩ : ∃ ot, (stAt S s1).ot = ot := ⟨_, rfl⟩
          obtain ⟨nx, hnx⟩ : ∃ nx, (stAt S s1).nx = nx := ⟨_, rfl⟩
          rw [hot, hnx] at hq hokS
          rw [hot] at k6
          rw [hnx] at k5
          have HNX := Lib.hid hnx
          have HST := Lib.hid hst
          have HCH := Lib.hid hch
          have hRl := hst.lts.1
          have hBl : B ≤ W2.heap.size := by have := hst.br; omega
          have hLl : L1.length ≤ 1000000000000 := by omega
          have hHE := Lib.hid (show ∀ W' lv', EnSt B R eb W' S T (E1.set s1 (T + 1)) (L1 ++ [ot]) set1 (.slice (some ⟨sb, 0, none⟩) S.length sc) lv' (.slice A1 set1.length cc1) → EnStep R eb w lv (.slice At set.length ct) W' lv' (.slice A1 set1.length cc1) → EnAt B R eb S T (.slice (some ⟨sb, 0, none⟩) S.length sc) lv (.slice At set.length ct) w Q f (some nx) (E1.set s1 (T + 1)) (L1 ++ [ot]) set1 lv' (.slice A1 set1.length cc1) W' from
            fun W' lv' a b => ⟨a, b, by rw [fuel_some, List.length_append]; simp; omega, hq, fun y e => (by cases e; exact hokS.1), fun y hy => (List.mem_append.1 hy).elim (hla y) (fun e => by simp at e; rw [e]; exact hokS.2), by simp; omega, by omega⟩)
          have hsbR : sb ≠ R := fun e => hst.sr (by rw [e]; rfl)
          have hown : ∀ k, (Value.slice A2 L1.length cc2).ownBlock = some k → B ≤ k ∧ k < W2.heap.size := hst.l.lt
          have hsbB := hst.sb sb rfl
          have hlr := hst.lr
          have hsbo : some sb ≠ (Value.slice A2 L1.length cc2).ownBlock := fun e => by
            have := (hown sb e.symm).1
            omega
          have k6a := (((Gr.refl W2).alloc #[.int .i64 ot] 3).drew).cell k6
          have hsbl : sb < ((W2.alloc (.cells #[.int .i64 ot] 3)).drew).heap.size := World.block_lt_of_cell? _ _ k6a
          clear hq hst hch hc1 hc2 hla hun hfu hfk hot hnx hokS
          go_wp2_with fail
          go_region_law
            (first
             | (refine step_appI rfl (by rfl) (.tmp 43) (.tmp 52) (by rfl) (by rfl) (B := B) (l := L1) (g := W2.heap.size) (c := 1) (y := ot) ?_ (by rfl) ?_ hLl ?_ ?_
                · exact (HST.out.gr ((Gr.refl W2).alloc _ _)).l
                · exact cell_of_row _ W2.heap.size 0 _ _ (0, 0) (heap_alloc_new W2 _)
                · simp
                  omega
                intro v' W' hrow hgrow hown'
                replace hown' : v'.ownBlock = (Value.slice A2 L1.length cc2).ownBlock ∨ v'.ownBlock = some _ := hown'
                replace hgrow : World.grownBy _ W' (Value.slice A2 L1.length cc2).ownBlock := hgrow
                have hpush := Lib.hid ((HST.out.gr (((Gr.refl W2).alloc _ _).drew)).push hgrow hrow hown')
                have hR := hpush.out.2.2
                have d2 := cell_of_row W' R 2 _ _ (0, 0) hR
                have g2 := frozen_of_row W' R 2 _ _ hR
                have hk5 : W'.cell? ⟨R, 0, none⟩ = some (.slice (some ⟨sb, 0, none⟩) S.length sc) ∧ W'.cell? ⟨sb, s1 * 7 + 6, none⟩ = some (.int .i64 ot) := ⟨cell_of_row W' R 0 _ _ (0, 0) hR, hgrow.cell k6a hsbo⟩
                obtain ⟨hk5a, hk5b⟩ := hk5
                have hk5 := And.intro hk5a hk5b
                obtain ⟨A3, cc3, rfl⟩ := hrow.form
                have hk6 : ∀ u : Value, (W'.setCell ⟨R, 2, none⟩ u).cell? ⟨R, 0, none⟩ = some (.slice (some ⟨sb, 0, none⟩) S.length sc) ∧ (W'.setCell ⟨R, 2, none⟩ u).cell? ⟨sb, s1 * 7 + 6, none⟩ = some (.int .i64 ot) := fun u => ⟨(World.cell?_setCell_other _ _ _ _ (by simp)).trans hk5.1, (World.cell?_setCell_far W' ⟨R, 2, none⟩ ⟨sb, s1 * 7 + 6, none⟩ _ (by show R ≠ sb; omega)).trans hk5.2⟩))
          all_goals
            have hE3 := hpush.out.1
            have hE4 := hHE.out _ _ hE3 (HCH.out.trans ((EnStep.refl R eb W2 _ _).gr (((Gr.refl W2).alloc _ _).drew) |>.trans hpush.out.2.1))
            simp only [List.length_append, List.length_cons, List.length_nil, Nat.zero_add] at hE4
            obtain ⟨W3, hW3⟩ : ∃ W3, W'.setCell ⟨R, 2, none⟩ (.slice A3 (L1.length + 1) cc3) = W3 := ⟨_, rfl⟩
            rw [hW3] at hE4
            rw [hW3]
            obtain ⟨c0', -, -, -, -, -⟩ := hE4.st.cells
            obtain ⟨sb', sc', e', -, k5', -, -⟩ := hE4.st.s.cellsAt hs1
            obtain ⟨rfl, rfl⟩ : sb = sb' ∧ sc = sc' := by simpa using e'
            rw [HNX.out] at k5'
            have HE4 := Lib.hid hE4
            clear hE4 hE3 hW3 e' hpush hrow hgrow hown' hk5 hk6 hR d2 g2 k4 k5 k6 c0 c1 c2 c3 f2 f3 k6a hsbl
            go_wp2
            go_step3
            exact ke_1 nx rfl (by omega) HE4.out
        | false =>
          rw [hfk] at k4
          rw [if_neg (by simp [hfk])] at hq
          have HST := Lib.hid hst
          have HCH := Lib.hid hch
          have hBl : B ≤ W2.heap.size := by have := hst.br; have := hst.lts.1; omega
          have hLl : set1.length ≤ 1000000000000 := by omega
          have hHE := Lib.hid (show ∀ W' tv', EnSt B R eb W' S T (E1.set s1 (T + 1)) L1 (set1 ++ [s1]) (.slice (some ⟨sb, 0, none⟩) S.length sc) (.slice A2 L1.length cc2) tv' → EnStep R eb w lv (.slice At set.length ct) W' (.slice A2 L1.length cc2) tv' → EnAt B R eb S T (.slice (some ⟨sb, 0, none⟩) S.length sc) lv (.slice At set.length ct) w Q f none (E1.set s1 (T + 1)) L1 (set1 ++ [s1]) (.slice A2 L1.length cc2) tv' W' from
            fun W' tv' a b => ⟨a, b, by rw [fuel_none]; omega, hq, fun y e => (by cases e), hla, by omega, by simp; omega⟩)
          clear hq hst hch hc1 hc2 hla hun hfu hfk hokS
          go_wp2_with (at_builtin; refine wpList_appI rfl rfl (.tmp 64) (.tmp 66) (by rfl) (by rfl) (B := B) (l := set1) (g := W2.heap.size) (c := 1) (y := s1) ((HST.out.gr ((Gr.refl W2).alloc _ _)).t) (by rfl) (cell_of_row _ W2.heap.size 0 _ _ (0, 0) (heap_alloc_new W2 _)) hLl (by simp; omega) ?_; intro v' W' hrow hgrow hown')
          replace hown' : v'.ownBlock = (Value.slice A1 set1.length cc1).ownBlock ∨ v'.ownBlock = some _ := hown'
          replace hgrow : World.grownBy _ W' (Value.slice A1 set1.length cc1).ownBlock := hgrow
          have hput := (HST.out.gr ((Gr.refl W2).alloc _ _)).put hgrow hrow hown'
          have hE4 := Lib.hid (hHE.out _ _ hput.1 (HCH.out.trans (((EnStep.refl R eb W2 _ _).gr ((Gr.refl W2).alloc _ _)).trans hput.2)))
          clear hput hrow hgrow hown' k4 k5 k6 c0 c1 c2 c3 f2 f3
          go_step3
          rename_i hk
          refine hk _ _ ?_
          show Code.wp Try.prog _ (jumps (fun l' a' w' => ∃ f', f' < g ∧ KE B R eb S T (.slice (some ⟨sb, 0, none⟩) S.length sc) lv (.slice At set.length ct) w Q f' l' a' w') _) _ _
          exact ke_fall HP0.out s1 (by rfl) (by omega) (.inr ⟨rfl, hE4.out⟩)
  case first =>
    intro p1
    refine ⟨4 * S.length + 3, ?_⟩
    have HP1 := Lib.hid p1
    clear p1
    go_wp2
    go_step3
    rename_i hk
    refine hk _ _ ?_
    show Code.wp Try.prog _ (jumps (fun l' a' w' => ∃ f', f' < 4 * S.length + 3 ∧ KE B R eb S T sv lv (.slice At set.length ct) w Q f' l' a' w') _) _ _
    exact ke_fall HP1.out s (by rfl) (Nat.le_refl _) (.inl ⟨rfl, H0'.out⟩)
end Go.Proofs.Ytnlfndhgdeapeaa
namespace Go.Proofs.Ytnlfndhgdeapeaa
open Go.RowKit
set_option maxRecDepth 100000
set_option maxHeartbeats 1000000

/-- the run; the set at hand, nv, beside it -/
structure MSt (B R eb : Nat) (W : World) (S : List St) (T : Nat) (E set now : List Nat) (sv lv tv nv : Value) : Prop where
  en : EnSt B R eb W S T E [] set sv lv tv
  nw : RowI W B nv now
  nr : nv.ownBlock ≠ some R
  ne : nv.ownBlock ≠ some eb
  nl : ∀ k, nv.ownBlock = some k → lv.ownBlock ≠ some k
  nt : ∀ k, nv.ownBlock = some k → tv.ownBlock ≠ some k
theorem MSt.gr {B R eb : Nat} {W W' : World} {S : List St} {T : Nat} {E set now : List Nat} {sv lv tv nv : Value} (h : MSt B R eb W S T E set now sv lv tv nv) (k : Gr W W') : MSt B R eb W' S T E set now sv lv tv nv :=
  { h with en := h.en.gr k, nw := h.nw.keep fun c e => k.b.block c (h.nw.lt c e).2 }
/-- what enter leaves -/
theorem MSt.step {B R eb : Nat} {W W' : World} {S : List St} {T : Nat} {E set now E' set' : List Nat} {sv lv tv nv lv' tv' : Value} (h : MSt B R eb W S T E set now sv lv tv nv) (e : EnSt B R eb W' S T E' [] set' sv lv' tv') (k : EnStep R eb W lv tv W' lv' tv') : MSt B R eb W' S T E' set' now sv lv' tv' nv :=
  { h with
    en := e
    nw := h.nw.keep fun c ec => k.block c (h.nw.lt c ec).2 (by rintro rfl; exact h.nr ec) (by rintro rfl; exact h.ne ec) (h.nl c ec) (h.nt c ec)
    nl := fun c ec => own_ne k.lo (h.nw.lt c ec).2 (h.nl c ec)
    nt := fun c ec => own_ne k.to (h.nw.lt c ec).2 (h.nt c ec) }
/-- the first set; none beside it -/
theorem MSt.of {B R eb : Nat} {W : World} {S : List St} {T : Nat} {E now : List Nat} {sv lv tv : Value} (h : EnSt B R eb W S T E [] now sv lv tv) : MSt B R eb W S T E [] now sv lv (.slice none 0 0) tv :=
  { en := { h with
      t := RowI.nil _ _
      tr := (by simp [Value.ownBlock])
      te := (by simp [Value.ownBlock])
      lt := fun k _ => (by simp [Value.ownBlock]) }
    nw := h.t
    nr := h.tr
    ne := h.te
    nl := fun k e e2 => h.lt k e2 e
    nt := fun k _ => (by simp [Value.ownBlock]) }
/-- the turn goes on -/
theorem MSt.turn {B R eb : Nat} {W : World} {S : List St} {T : Nat} {E set now : List Nat} {sv lv tv nv : Value} (h : MSt B R eb W S T E set now sv lv tv nv) (T' : Nat) : MSt B R eb (W.setCell ⟨R, 3, none⟩ (.int .i64 T')) S T' E set now sv lv tv nv :=
  have key : ∀ c, c ≠ R → (W.setCell ⟨R, 3, none⟩ (.int .i64 T')).heap[c]? = W.heap[c]? := fun c hc => Below.heap_setCell W _ _ c hc
  { h with
    en := { h.en with
      r := by
        have := heap_setCell_same W R 3 _ _ (.int .i64 T') h.en.r
        simpa using this
      s := h.en.s.keep fun c e => key c (by rintro rfl; exact h.en.sr e)
      e := (key eb (fun e => h.en.ne e.symm)).trans h.en.e
      l := h.en.l.keep fun c e => key c (by rintro rfl; exact h.en.lr e)
      t := h.en.t.keep fun c e => key c (by rintro rfl; exact h.en.tr e) }
    nw := h.nw.keep fun c e => key c (by rintro rfl; exact h.nr e) }
/-- the set is emptied, its block is kept -/
theorem MSt.empty {B R eb : Nat} {W : World} {S : List St} {T : Nat} {E set now : List Nat} {sv lv nv : Value} {A : Option Addr} {m c : Nat} (h : MSt B R eb W S T E set now sv lv (.slice A m c) nv) : MSt B R eb W S T E [] now sv lv (.slice A 0 c) nv :=
  have ho : (Value.slice A 0 c).ownBlock = (Value.slice A m c).ownBlock := by cases A <;> rfl
  { h with
    en := { h.en with
      t := h.en.t.none
      tr := by rw [ho]; exact h.en.tr
      te := by rw [ho]; exact h.en.te
      lt := fun k e => by rw [ho]; exact h.en.lt k e }
    nt := fun k e => by rw [ho]; exact h.nt k e }
/-- the sets change places -/
theorem MSt.swap {B R eb : Nat} {W : World} {S : List St} {T : Nat} {E set now : List Nat} {sv lv tv nv : Value} (h : MSt B R eb W S T E set now sv lv tv nv) : MSt B R eb W S T E now set sv lv nv tv :=
  { en := { h.en with
      t := h.nw
      tr := h.nr
      te := h.ne
      lt := fun k e e2 => h.nl k e2 e }
    nw := h.en.t
    nr := h.en.tr
    ne := h.en.te
    nl := fun k e e2 => h.en.lt k e2 e
    nt := fun k e e2 => h.nt k e2 e }
theorem EnStep.below {B R eb : Nat} {W W' : World} {lv tv lv' tv' : Value} (k : EnStep R eb W lv tv W' lv' tv') (hR : B ≤ R) (he : B ≤ eb) (hl : ∀ j, lv.ownBlock = some j → B ≤ j) (ht : ∀ j, tv.ownBlock = some j → B ≤ j) (hB : B ≤ W.heap.size) : Below B W W' :=
  ⟨k.os, k.tape, k.output, k.size, fun c hc => k.block c (by omega) (by omega) (by omega) (fun e => by have := hl c e; omega) (fun e => by have := ht c e; omega)⟩
end Go.Proofs.Ytnlfndhgdeapeaa
