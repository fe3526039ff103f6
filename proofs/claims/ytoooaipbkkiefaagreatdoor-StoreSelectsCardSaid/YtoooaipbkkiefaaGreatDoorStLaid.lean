/- Samples that came in, read as a list; what the listed variables give. -/
import Derived.Deep.RegionLaw
import Derived.Test.YtoooaipbkkiefaaGreatDoorEnFr
import Derived.Test.YtoooaipbkkiefaaGreatDoorFit
import Derived.Test.YtoooaipbkkiefaaGreatDoorShelf
import Derived.Test.YtoooaipbkkiefaaGreatDoorMid
import Derived.Test.YtoooaipbkkiefaaGreatDoorLName
import Derived.Test.YtoooaipbkkiefaaGreatDoorLLabs
import Derived.Test.YtoooaipbkkiefaaGreatDoorOfS
import Derived.Maps.Own
import Derived.Maps.OwnSet
import Derived.Maps.Views
import Derived.StringKeys
import Derived.Deep.RegionHeld3
import Derived.Deep.CutRange
import Derived.Deep.CutBlock
import Derived.Test.YtoooaipbkkiefaaGreatDoorLParts
import Derived.Test.YtoooaipbkkiefaaGreatDoorLQuote
import Derived.Lib.IndexEntry
import Derived.Deep.Cut
import Derived.Test.YtoooaipbkkiefaaGreatDoorRows
import Derived.ChangeSame
import Derived.WideShapes
import Derived.ProofKit
import Derived.LaidMore
import Derived.LaidSub
import Derived.Lay
import Derived.OpenShut
import Derived.Lib.LaidTab
import Derived.Lib.SmallJoins
import Derived.Deep.Slices
import Derived.Deep.Strs
namespace Go.Proofs.YtoooaipbkkiefaaGreatDoor
open Go.RowKit
set_option maxRecDepth 100000
set_option maxHeartbeats 4000000

def EnPost (B R eb : Nat) (S : List St) (T : Nat) (r : List Nat × List Nat) (sv : Value) (w : World) (lv tv : Value) (e : Ending) (w' : World) : Prop :=
  ∃ lv' tv', e = .returned tv' ∧ EnSt B R eb w' S T r.1 [] r.2 sv lv' tv' ∧ EnStep R eb w lv tv w' lv' tv'
theorem enter_any (B R eb : Nat) (S : List St) (T : Nat) (E set : List Nat) (sv lv tv : Value) (s : Nat) (w : World) (h : EnSt B R eb w S T E [] set sv lv tv) (hok : StOk S) (hs : s < S.length) (hS : S.length ≤ 1000000000000) (hT : T ≤ 1000000000000) (hc : set.length + unent T E ≤ S.length) :
    Calls Tryz.prog 130 #[.pointer (some ⟨R, 0, none⟩), tv, .int .i64 s] w (EnPost B R eb S T (runF S T (4 * S.length + 3) E [] set (some s)) sv w lv tv) := by
  obtain ⟨Q, hQ⟩ : ∃ Q, runF S T (4 * S.length + 3) E [] set (some s) = Q := ⟨_, rfl⟩
  rw [hQ]
  have hun : unent T E ≤ S.length := by have := unent_le T E; rw [h.el] at this; exact this
  have H0 : EnAt B R eb S T sv lv tv w Q (4 * S.length + 3) (some s) E [] set lv tv w := ⟨h, EnStep.refl _ _ _ _ _, by unfold fuelOf; simp; omega, hQ, fun x e => (by cases e; exact hs), fun x hx => (by cases hx), by simpa using hun, hc⟩
  have H0' := Lib.hid H0
  have I4 : Hid (wrap64 ((T : Int) + 1) = (T : Int) + 1) := Lib.hid (by unfold wrap64; omega)
  have I5 : Hid (IntKind.i64.wrap ((T : Int) + 1) = (T : Int) + 1) := Lib.hid (IntWalk.i64_in _ ⟨by omega, by omega⟩)
  obtain ⟨At, ct, rfl⟩ := h.t.form
  clear hQ h hs hc hun H0
  go_enter Tryz.func130, Tryz.ntmps130
  go_wp2
  refine wp_scope_two (KE B R eb S T sv lv (.slice At set.length ct) w Q) ?hK rfl rfl ?p0 ?p1 ?first
  case hK =>
    rintro f l a W ⟨E1, L1, set1, lv1, tv1, s1, u, -, ⟨h, -⟩ | ⟨h, -⟩⟩
    · exact .inr h
    · exact .inl h
  case p0 =>
    rintro f g a W hfg ⟨E1, L1, set1, lv1, tv1, s1, u, rfl, ⟨h, -⟩ | ⟨-, ha⟩⟩
    · exact absurd h (by omega)
    cases f with
    | zero => have := ha.fu; omega
    | succ f =>
      obtain ⟨c0, c1, c2, c3, f2, f3⟩ := ha.st.cells
      obtain ⟨A1, cc1, rfl⟩ := ha.st.t.form
      obtain ⟨A2, cc2, rfl⟩ := ha.st.l.form
      have hq := ha.q
      unfold runF at hq
      have HA := Lib.hid ha
      unfold EnFr
      cases hL : L1.getLast? with
      | none =>
        obtain rfl : L1 = [] := by simpa using hL
        rw [hL] at hq
        have H : Hid (Q = (E1, set1)) := Lib.hid hq.symm
        clear hq hL ha
        go_wp2
        rw [jumps_ret]
        go_ret
        refine ⟨_, _, rfl, ?_, HA.out.ch⟩
        rw [H.out]
        exact HA.out.st
      | some x =>
        have hne : L1 ≠ [] := by rintro rfl; cases hL
        obtain ⟨m, hm⟩ : ∃ m, L1.length = m + 1 := ⟨L1.length - 1, by cases L1 with | nil => exact absurd rfl hne | cons => simp⟩
        have hx : L1[m]? = some x := by rw [List.getLast?_eq_getElem?] at hL; rwa [hm] at hL
        rw [hL] at hq
        obtain ⟨lb, rfl, hlc⟩ := ha.st.l.cells (i := m) (by omega)
        rw [(List.getElem?_eq_some_iff.1 hx).2] at hlc
        have hcap : L1.length ≤ cc2 := by
          rcases ha.st.l.2 with ⟨e, -⟩ | ⟨g1, cap, cur, e, -, -, h4, -⟩
          · cases e
          · obtain ⟨-, -, rfl⟩ : some (⟨lb, 0, none⟩ : Addr) = some ⟨g1, 0, none⟩ ∧ L1.length = L1.length ∧ cc2 = cap := by simpa using e
            exact h4
        have hpop := (ha.st.gr (Gr.refl W).drew).pop hne
        rw [hm] at hpop c2 hcap
        have HP := Lib.hid hpop
        have hfu := ha.fu
        rw [fuel_none] at hfu
        have hxs := ha.la x (List.mem_of_getElem? hx)
        have hla : ∀ y ∈ L1.dropLast, y < S.length := fun y hy => ha.la y (List.dropLast_subset _ hy)
        have hc1 := ha.c1
        have hmb : (m : Int) ≤ 1000000000000 := by omega
        have hlr : lb ≠ R := fun e => ha.st.lr (by rw [e]; rfl)
        have HF := Lib.hid (show ∀ W', W' = W.drew.setCell ⟨R, 2, none⟩ (.slice (some ⟨lb, 0, none⟩) m cc2) → EnAt B R eb S T sv lv (.slice At set.length ct) w Q f (some x) E1 L1.dropLast set1 (.slice (some ⟨lb, 0, none⟩) m cc2) (.slice A1 set1.length cc1) W' by
          rintro W' rfl
          refine ⟨HP.out.1, (ha.ch.gr (Gr.refl W).drew).trans (by rw [hm]; exact HP.out.2), ?_, hq, fun y e => (by cases e; exact hxs), hla, by simp; omega, ha.c2⟩
          rw [fuel_some, List.length_dropLast]
          omega)
        have i0 : wrap64 (m : Int) = m := by unfold wrap64; omega
        have hk1 := (World.cell?_setCell_far W ⟨R, 2, none⟩ ⟨lb, m, none⟩ (.slice (some ⟨lb, 0, none⟩) m cc2) (by show R ≠ lb; omega)).trans hlc
        clear hpop hq hL ha HP hla hx hne hc1 hfu hm HA
        have i1 : (m : Int) < (m : Int) + 1 := by omega
        have i2 : (m : Int) ≤ (cc2 : Int) := by omega
        have i3 : (0 : Int) ≤ (m : Int) := by omega
        have i4 : ((m : Int) + 1) - 1 = (m : Int) := by omega
        go_wp2
        go_region_law (fail)
        all_goals
          go_wp2
          go_step3
          exact ke_1 x rfl (by omega) (HF.out _ rfl)
  case p1 =>
    rintro p0 f g a W hfg ⟨E1, L1, set1, lv1, tv1, s1, u, rfl, hor⟩
    have ha := hor.elim (fun h => h.2) (fun h => absurd h.1 (by omega))
    have HP0 := Lib.hid p0
    clear hor p0
    cases f with
    | zero => have := ha.fu; omega
    | succ f =>
      obtain ⟨c0, c1, c2, c3, f2, f3⟩ := ha.st.cells
      obtain ⟨A1, cc1, rfl⟩ := ha.st.t.form
      obtain ⟨A2, cc2, rfl⟩ := ha.st.l.form
      have hs1 := ha.cu s1 rfl
      obtain ⟨e0, fe⟩ := ha.st.ent hs1
      obtain ⟨sb, sc, rfl, k4, k5, k6, -⟩ := ha.st.s.cellsAt hs1
      have hq := ha.q
      unfold runF at hq
      have hfu := ha.fu
      rw [fuel_some] at hfu
      have HA := Lib.hid ha
      have i1 : (s1 : Int) < (S.length : Int) := by omega
      have i2 : (0 : Int) ≤ (s1 : Int) := by omega
      obtain ⟨x, hx⟩ : ∃ x, E1.getD s1 0 = x := ⟨_, rfl⟩
      rw [hx] at e0 hq
      unfold EnFr
      by_cases hT1 : T < x
      · rw [if_pos hT1] at hq
        have HF := Lib.hid (show ∀ W', Gr W W' → EnAt B R eb S T (.slice (some ⟨sb, 0, none⟩) S.length sc) lv (.slice At set.length ct) w Q f none E1 L1 set1 (.slice A2 L1.length cc2) (.slice A1 set1.length cc1) W' from
          fun W' k => ⟨ha.st.gr k, ha.ch.gr k, by rw [fuel_none]; omega, hq, fun y e => (by cases e), ha.la, ha.c1, ha.c2⟩)
        have i3 : (T : Int) < (x : Int) := by omega
        clear hq ha HA hx hfu
        go_wp2_with fail
        go_quiet (fail)
        go_wp2
        go_step3
        exact ke_0 s1 rfl (by omega) (HF.out _ ((Gr.refl W).drewN _))
      · rw [if_neg hT1] at hq
        have i3 : ¬ (T : Int) < (x : Int) := by omega
        have hxT : E1.getD s1 0 ≤ T := by omega
        have hun := unent_set (T := T) (E := E1) (s := s1) (by rw [ha.st.el]; exact hs1) hxT
        clear hx
        go_wp2_with fail
        go_quiet (fail)
        obtain ⟨Wq, hWq⟩ : ∃ Wq, W.drewN nq = Wq := ⟨_, rfl⟩
        have kq : Gr W Wq := by rw [← hWq]; exact (Gr.refl W).drewN nq
        rw [hWq]
        have hst := ha.st.gr kq
        have hch := ha.ch.gr kq
        have hla := ha.la
        have hc1 := ha.c1
        have hc2 := ha.c2
        clear hWq kq c0 c1 c2 c3 f2 f3 e0 fe k4 k5 k6 ha HA
        obtain ⟨c0, c1, c2, c3, f2, f3⟩ := hst.cells
        obtain ⟨e0, fe⟩ := hst.ent hs1
        have hmk := (hst.gr (Gr.refl Wq).drew).mark s1 (T + 1)
        have hcm := (hch.gr (Gr.refl Wq).drew).trans (EnStep.mark s1 (.int .i64 ((T + 1 : Nat) : Int)))
        have HMK := Lib.hid hmk
        have HCM := Lib.hid hcm
        have hk1 := (World.cell?_setCell_far Wq ⟨eb, s1, none⟩ ⟨R, 1, none⟩ (.int .i64 ((T : Int) + 1)) (by show eb ≠ R; exact fun e => hst.ne e.symm)).trans c1
        have hk3 := (World.cell?_setCell_far Wq ⟨eb, s1, none⟩ ⟨R, 3, none⟩ (.int .i64 ((T : Int) + 1)) (by show eb ≠ R; exact fun e => hst.ne e.symm)).trans c3
        have i4 := I4.out
        have i5 := I5.out
        clear hmk hcm hst hch
        go_wp2_with fail
        go_region_held3 (fun w' => w'.cell? ⟨R, 1, none⟩ = some (.slice (some ⟨eb, 0, none⟩) S.length S.length) ∧ w'.cell? ⟨R, 3, none⟩ = some (.int .i64 T)) (first | exact ⟨hk1, hk3⟩ | go_keep) (fail)
        obtain ⟨W2, hW2⟩ : ∃ W2, (Wq.setCell ⟨eb, s1, none⟩ (.int .i64 ((T : Int) + 1))).drew = W2 := ⟨_, rfl⟩
        clear i4 i5
        have hst := HMK.out
        have hch := HCM.out
        replace hst : EnSt B R eb W2 S T (E1.set s1 (T + 1)) L1 set1 (.slice (some ⟨sb, 0, none⟩) S.length sc) (.slice A2 L1.length cc2) (.slice A1 set1.length cc1) := by rw [← hW2]; exact hst
        replace hch : EnStep R eb w lv (.slice At set.length ct) W2 (.slice A2 L1.length cc2) (.slice A1 set1.length cc1) := by rw [← hW2]; exact hch
        rw [hW2]
        have hokS := hok.at hs1
        clear hW2 HMK HCM hk1 hk3 c0 c1 c2 c3 f2 f3 e0 fe
        obtain ⟨c0, c1, c2, c3, f2, f3⟩ := hst.cells
        obtain ⟨sb', sc', e', k4, k5, k6, -⟩ := hst.s.cellsAt hs1
        obtain ⟨rfl, rfl⟩ : sb = sb' ∧ sc = sc' := by simpa using e'
        clear e'
        cases hfk : (stAt S s1).fork with
        | true =>
          rw [hfk] at k4
          rw [if_pos hfk] at hq
          obtain ⟨ot, hot⟩ : ∃ ot, (stAt S s1).ot = ot := ⟨_, rfl⟩
          obtain ⟨nx, hnx⟩ : ∃ nx, (stAt S s1).nx = nx := ⟨_, rfl⟩
          rw [hot, hnx] at hq hokS
          rw [hot] at k6
          rw [hnx] at k5
          have HNX := Lib.hid hnx
          have HST := Lib.hid hst
          have HCH := Lib.hid hch
          have hRl := hst.lts.1
          have hBl : B ≤ W2.heap.size := by have := hst.br; omega
          have hLl : L1.length ≤ 1000000000000 := by omega
          have hHE := Lib.hid (show ∀ W' lv', EnSt B R eb W' S T (E1.set s1 (T + 1)) (L1 ++ [ot]) set1 (.slice (some ⟨sb, 0, none⟩) S.length sc) lv' (.slice A1 set1.length cc1) → EnStep R eb w lv (.slice At set.length ct) W' lv' (.slice A1 set1.length cc1) → EnAt B R eb S T (.slice (some ⟨sb, 0, none⟩) S.length sc) lv (.slice At set.length ct) w Q f (some nx) (E1.set s1 (T + 1)) (L1 ++ [ot]) set1 lv' (.slice A1 set1.length cc1) W' from
            fun W' lv' a b => ⟨a, b, by rw [fuel_some, List.length_append]; simp; omega, hq, fun y e => (by cases e; exact hokS.1), fun y hy => (List.mem_append.1 hy).elim (hla y) (fun e => by simp at e; rw [e]; exact hokS.2), by simp; omega, by omega⟩)
          have hsbR : sb ≠ R := fun e => hst.sr (by rw [e]; rfl)
          have hown : ∀ k, (Value.slice A2 L1.length cc2).ownBlock = some k → B ≤ k ∧ k < W2.heap.size := hst.l.lt
          have hsbB := hst.sb sb rfl
          have hlr := hst.lr
          have hsbo : some sb ≠ (Value.slice A2 L1.length cc2).ownBlock := fun e => by
            have := (hown sb e.symm).1
            omega
          have k6a := (((Gr.refl W2).alloc #[.int .i64 ot] 3).drew).cell k6
          have hsbl : sb < ((W2.alloc (.cells #[.int .i64 ot] 3)).drew).heap.size := World.block_lt_of_cell? _ _ k6a
          clear hq hst hch hc1 hc2 hla hun hfu hfk hot hnx hokS
          go_wp2_with fail
          go_region_law
            (first
             | (refine step_appI rfl (by rfl) (.tmp 43) (.tmp 52) (by rfl) (by rfl) (B := B) (l := L1) (g := W2.heap.size) (c := 1) (y := ot) ?_ (by rfl) ?_ hLl ?_ ?_
                · exact (HST.out.gr ((Gr.refl W2).alloc _ _)).l
                · exact cell_of_row _ W2.heap.size 0 _ _ (0, 0) (heap_alloc_new W2 _)
                · simp
                  omega
                intro v' W' hrow hgrow hown'
                replace hown' : v'.ownBlock = (Value.slice A2 L1.length cc2).ownBlock ∨ v'.ownBlock = some _ := hown'
                replace hgrow : World.grownBy _ W' (Value.slice A2 L1.length cc2).ownBlock := hgrow
                have hpush := Lib.hid ((HST.out.gr (((Gr.refl W2).alloc _ _).drew)).push hgrow hrow hown')
                have hR := hpush.out.2.2
                have d2 := cell_of_row W' R 2 _ _ (0, 0) hR
                have g2 := frozen_of_row W' R 2 _ _ hR
                have hk5 : W'.cell? ⟨R, 0, none⟩ = some (.slice (some ⟨sb, 0, none⟩) S.length sc) ∧ W'.cell? ⟨sb, s1 * 7 + 6, none⟩ = some (.int .i64 ot) := ⟨cell_of_row W' R 0 _ _ (0, 0) hR, hgrow.cell k6a hsbo⟩
                obtain ⟨hk5a, hk5b⟩ := hk5
                have hk5 := And.intro hk5a hk5b
                obtain ⟨A3, cc3, rfl⟩ := hrow.form
                have hk6 : ∀ u : Value, (W'.setCell ⟨R, 2, none⟩ u).cell? ⟨R, 0, none⟩ = some (.slice (some ⟨sb, 0, none⟩) S.length sc) ∧ (W'.setCell ⟨R, 2, none⟩ u).cell? ⟨sb, s1 * 7 + 6, none⟩ = some (.int .i64 ot) := fun u => ⟨(World.cell?_setCell_other _ _ _ _ (by simp)).trans hk5.1, (World.cell?_setCell_far W' ⟨R, 2, none⟩ ⟨sb, s1 * 7 + 6, none⟩ _ (by show R ≠ sb; omega)).trans hk5.2⟩))
          all_goals
            have hE3 := hpush.out.1
            have hE4 := hHE.out _ _ hE3 (HCH.out.trans ((EnStep.refl R eb W2 _ _).gr (((Gr.refl W2).alloc _ _).drew) |>.trans hpush.out.2.1))
            simp only [List.length_append, List.length_cons, List.length_nil, Nat.zero_add] at hE4
            obtain ⟨W3, hW3⟩ : ∃ W3, W'.setCell ⟨R, 2, none⟩ (.slice A3 (L1.length + 1) cc3) = W3 := ⟨_, rfl⟩
            rw [hW3] at hE4
            rw [hW3]
            obtain ⟨c0', -, -, -, -, -⟩ := hE4.st.cells
            obtain ⟨sb', sc', e', -, k5', -, -⟩ := hE4.st.s.cellsAt hs1
            obtain ⟨rfl, rfl⟩ : sb = sb' ∧ sc = sc' := by simpa using e'
            rw [HNX.out] at k5'
            have HE4 := Lib.hid hE4
            clear hE4 hE3 hW3 e' hpush hrow hgrow hown' hk5 hk6 hR d2 g2 k4 k5 k6 c0 c1 c2 c3 f2 f3 k6a hsbl
            go_wp2
            go_step3
            exact ke_1 nx rfl (by omega) HE4.out
        | false =>
          rw [hfk] at k4
          rw [if_neg (by simp [hfk])] at hq
          have HST := Lib.hid hst
          have HCH := Lib.hid hch
          have hBl : B ≤ W2.heap.size := by have := hst.br; have := hst.lts.1; omega
          have hLl : set1.length ≤ 1000000000000 := by omega
          have hHE := Lib.hid (show ∀ W' tv', EnSt B R eb W' S T (E1.set s1 (T + 1)) L1 (set1 ++ [s1]) (.slice (some ⟨sb, 0, none⟩) S.length sc) (.slice A2 L1.length cc2) tv' → EnStep R eb w lv (.slice At set.length ct) W' (.slice A2 L1.length cc2) tv' → EnAt B R eb S T (.slice (some ⟨sb, 0, none⟩) S.length sc) lv (.slice At set.length ct) w Q f none (E1.set s1 (T + 1)) L1 (set1 ++ [s1]) (.slice A2 L1.length cc2) tv' W' from
            fun W' tv' a b => ⟨a, b, by rw [fuel_none]; omega, hq, fun y e => (by cases e), hla, by omega, by simp; omega⟩)
          clear hq hst hch hc1 hc2 hla hun hfu hfk hokS
          go_wp2_with (at_builtin; refine wpList_appI rfl rfl (.tmp 64) (.tmp 66) (by rfl) (by rfl) (B := B) (l := set1) (g := W2.heap.size) (c := 1) (y := s1) ((HST.out.gr ((Gr.refl W2).alloc _ _)).t) (by rfl) (cell_of_row _ W2.heap.size 0 _ _ (0, 0) (heap_alloc_new W2 _)) hLl (by simp; omega) ?_; intro v' W' hrow hgrow hown')
          replace hown' : v'.ownBlock = (Value.slice A1 set1.length cc1).ownBlock ∨ v'.ownBlock = some _ := hown'
          replace hgrow : World.grownBy _ W' (Value.slice A1 set1.length cc1).ownBlock := hgrow
          have hput := (HST.out.gr ((Gr.refl W2).alloc _ _)).put hgrow hrow hown'
          have hE4 := Lib.hid (hHE.out _ _ hput.1 (HCH.out.trans (((EnStep.refl R eb W2 _ _).gr ((Gr.refl W2).alloc _ _)).trans hput.2)))
          clear hput hrow hgrow hown' k4 k5 k6 c0 c1 c2 c3 f2 f3
          go_step3
          rename_i hk
          refine hk _ _ ?_
          show Code.wp Tryz.prog _ (jumps (fun l' a' w' => ∃ f', f' < g ∧ KE B R eb S T (.slice (some ⟨sb, 0, none⟩) S.length sc) lv (.slice At set.length ct) w Q f' l' a' w') _) _ _
          exact ke_fall HP0.out s1 (by rfl) (by omega) (.inr ⟨rfl, hE4.out⟩)
  case first =>
    intro p1
    refine ⟨4 * S.length + 3, ?_⟩
    have HP1 := Lib.hid p1
    clear p1
    go_wp2
    go_step3
    rename_i hk
    refine hk _ _ ?_
    show Code.wp Tryz.prog _ (jumps (fun l' a' w' => ∃ f', f' < 4 * S.length + 3 ∧ KE B R eb S T sv lv (.slice At set.length ct) w Q f' l' a' w') _) _ _
    exact ke_fall HP1.out s (by rfl) (Nat.le_refl _) (.inl ⟨rfl, H0'.out⟩)
end Go.Proofs.YtoooaipbkkiefaaGreatDoor
namespace Go.Proofs.YtoooaipbkkiefaaGreatDoor
open Go.RowKit
set_option maxRecDepth 100000
set_option maxHeartbeats 1000000

/-- the run; the set at hand, nv, beside it -/
structure MSt (B R eb : Nat) (W : World) (S : List St) (T : Nat) (E set now : List Nat) (sv lv tv nv : Value) : Prop where
  en : EnSt B R eb W S T E [] set sv lv tv
  nw : RowI W B nv now
  nr : nv.ownBlock ≠ some R
  ne : nv.ownBlock ≠ some eb
  nl : ∀ k, nv.ownBlock = some k → lv.ownBlock ≠ some k
  nt : ∀ k, nv.ownBlock = some k → tv.ownBlock ≠ some k
theorem MSt.gr {B R eb : Nat} {W W' : World} {S : List St} {T : Nat} {E set now : List Nat} {sv lv tv nv : Value} (h : MSt B R eb W S T E set now sv lv tv nv) (k : Gr W W') : MSt B R eb W' S T E set now sv lv tv nv :=
  { h with en := h.en.gr k, nw := h.nw.keep fun c e => k.b.block c (h.nw.lt c e).2 }
/-- what enter leaves -/
theorem MSt.step {B R eb : Nat} {W W' : World} {S : List St} {T : Nat} {E set now E' set' : List Nat} {sv lv tv nv lv' tv' : Value} (h : MSt B R eb W S T E set now sv lv tv nv) (e : EnSt B R eb W' S T E' [] set' sv lv' tv') (k : EnStep R eb W lv tv W' lv' tv') : MSt B R eb W' S T E' set' now sv lv' tv' nv :=
  { h with
    en := e
    nw := h.nw.keep fun c ec => k.block c (h.nw.lt c ec).2 (by rintro rfl; exact h.nr ec) (by rintro rfl; exact h.ne ec) (h.nl c ec) (h.nt c ec)
    nl := fun c ec => own_ne k.lo (h.nw.lt c ec).2 (h.nl c ec)
    nt := fun c ec => own_ne k.to (h.nw.lt c ec).2 (h.nt c ec) }
/-- the first set; none beside it -/
theorem MSt.of {B R eb : Nat} {W : World} {S : List St} {T : Nat} {E now : List Nat} {sv lv tv : Value} (h : EnSt B R eb W S T E [] now sv lv tv) : MSt B R eb W S T E [] now sv lv (.slice none 0 0) tv :=
  { en := { h with
      t := RowI.nil _ _
      tr := (by simp [Value.ownBlock])
      te := (by simp [Value.ownBlock])
      lt := fun k _ => (by simp [Value.ownBlock]) }
    nw := h.t
    nr := h.tr
    ne := h.te
    nl := fun k e e2 => h.lt k e2 e
    nt := fun k _ => (by simp [Value.ownBlock]) }
/-- the turn goes on -/
theorem MSt.turn {B R eb : Nat} {W : World} {S : List St} {T : Nat} {E set now : List Nat} {sv lv tv nv : Value} (h : MSt B R eb W S T E set now sv lv tv nv) (T' : Nat) : MSt B R eb (W.setCell ⟨R, 3, none⟩ (.int .i64 T')) S T' E set now sv lv tv nv :=
  have key : ∀ c, c ≠ R → (W.setCell ⟨R, 3, none⟩ (.int .i64 T')).heap[c]? = W.heap[c]? := fun c hc => Below.heap_setCell W _ _ c hc
  { h with
    en := { h.en with
      r := by
        have := heap_setCell_same W R 3 _ _ (.int .i64 T') h.en.r
        simpa using this
      s := h.en.s.keep fun c e => key c (by rintro rfl; exact h.en.sr e)
      e := (key eb (fun e => h.en.ne e.symm)).trans h.en.e
      l := h.en.l.keep fun c e => key c (by rintro rfl; exact h.en.lr e)
      t := h.en.t.keep fun c e => key c (by rintro rfl; exact h.en.tr e) }
    nw := h.nw.keep fun c e => key c (by rintro rfl; exact h.nr e) }
/-- the set is emptied, its block is kept -/
theorem MSt.empty {B R eb : Nat} {W : World} {S : List St} {T : Nat} {E set now : List Nat} {sv lv nv : Value} {A : Option Addr} {m c : Nat} (h : MSt B R eb W S T E set now sv lv (.slice A m c) nv) : MSt B R eb W S T E [] now sv lv (.slice A 0 c) nv :=
  have ho : (Value.slice A 0 c).ownBlock = (Value.slice A m c).ownBlock := by cases A <;> rfl
  { h with
    en := { h.en with
      t := h.en.t.none
      tr := by rw [ho]; exact h.en.tr
      te := by rw [ho]; exact h.en.te
      lt := fun k e => by rw [ho]; exact h.en.lt k e }
    nt := fun k e => by rw [ho]; exact h.nt k e }
/-- the sets change places -/
theorem MSt.swap {B R eb : Nat} {W : World} {S : List St} {T : Nat} {E set now : List Nat} {sv lv tv nv : Value} (h : MSt B R eb W S T E set now sv lv tv nv) : MSt B R eb W S T E now set sv lv nv tv :=
  { en := { h.en with
      t := h.nw
      tr := h.nr
      te := h.ne
      lt := fun k e e2 => h.nl k e2 e }
    nw := h.en.t
    nr := h.en.tr
    ne := h.en.te
    nl := fun k e e2 => h.en.lt k e2 e
    nt := fun k e e2 => h.nt k e2 e }
theorem EnStep.below {B R eb : Nat} {W W' : World} {lv tv lv' tv' : Value} (k : EnStep R eb W lv tv W' lv' tv') (hR : B ≤ R) (he : B ≤ eb) (hl : ∀ j, lv.ownBlock = some j → B ≤ j) (ht : ∀ j, tv.ownBlock = some j → B ≤ j) (hB : B ≤ W.heap.size) : Below B W W' :=
  ⟨k.os, k.tape, k.output, k.size, fun c hc => k.block c (by omega) (by omega) (by omega) (fun e => by have := hl c e; omega) (fun e => by have := ht c e; omega)⟩
end Go.Proofs.YtoooaipbkkiefaaGreatDoor
namespace Go.Proofs.YtoooaipbkkiefaaGreatDoor
open Go.RowKit
set_option maxRecDepth 100000
set_option maxHeartbeats 4000000

theorem make_ints (n : Nat) (hn : n ≤ 1000000000000) (W : World) : (Instr.makeSlice 35 (.int .i64 (n : Int)) (.int .i64 (n : Int))).run Tryz.prog W = .ok (.slice (some ⟨W.heap.size, 0, none⟩) n n) (W.alloc (.cells (intC (List.replicate n 0)).toArray 3)) := by
  obtain ⟨i0, hi, hz0, hz1, hz2⟩ := info_parts int_info_r
  have h := run_make (P := Tryz.prog) W 35 3 i0 (.int .i64 0) Tryz.underlying35 hi hz0 .i64 .i64 (n : Int) (n : Int) (by omega) (Int.le_refl _) (by rw [hz2]; omega) (by omega)
  rw [h, hz1]
  have e : madeCells (Value.int .i64 0).cells (n * 1) = (intC (List.replicate n 0)).toArray := by
    apply Array.ext
    · simp [madeCells, intC]
    · intro i h1 h2
      have : i % 1 = 0 := Nat.mod_one i
      simp [madeCells, intC, Value.cells, this]
  simp only [Int.toNat_natCast, e]
theorem enSt_A (w : World) (S : List St) (sv : Value) (hr : RowSt w 0 sv S) : EnSt w.heap.size (w.heap.size + 1) w.heap.size ((w.alloc (.cells (intC (List.replicate S.length 0)).toArray 3)).alloc (.cells #[sv, .slice (some ⟨w.heap.size, 0, none⟩) S.length S.length, .slice none 0 0, .int .i64 0] 203)).drew S 0 (List.replicate S.length 0) [] [] sv (.slice none 0 0) (.slice none 0 0) := by
  have a1 := heap_alloc_new w (.cells (intC (List.replicate S.length 0)).toArray 3)
  have a2 := heap_alloc_new (w.alloc (.cells (intC (List.replicate S.length 0)).toArray 3)) (.cells #[sv, .slice (some ⟨w.heap.size, 0, none⟩) S.length S.length, .slice none 0 0, .int .i64 0] 203)
  rw [show (w.alloc (.cells (intC (List.replicate S.length 0)).toArray 3)).heap.size = w.heap.size + 1 by simp] at a2
  have k1 : Gr w (w.alloc (.cells (intC (List.replicate S.length 0)).toArray 3)) := (Gr.refl w).alloc _ _
  have k2 : Gr (w.alloc (.cells (intC (List.replicate S.length 0)).toArray 3)) ((w.alloc (.cells (intC (List.replicate S.length 0)).toArray 3)).alloc (.cells #[sv, .slice (some ⟨w.heap.size, 0, none⟩) S.length S.length, .slice none 0 0, .int .i64 0] 203)) := (Gr.refl _).alloc _ _
  have hs := fun c e => (hr.lt c e).2
  exact ⟨a2, hr.keep (fun c e => ((k1.trans k2).drew).b.block c (hs c e)), (k2.b.block _ (by simp)).trans a1, by simp, RowI.nil _ _, RowI.nil _ _, by omega, fun e => by have := hs _ e; omega, fun e => by have := hs _ e; omega, hs, by simp [Value.ownBlock], by simp [Value.ownBlock], by simp [Value.ownBlock], by simp [Value.ownBlock], fun k e => (by cases e), by omega, Nat.le_refl _⟩
theorem enSt_B (w : World) (S : List St) (sv : Value) (hr : RowSt w 0 sv S) : EnSt w.heap.size w.heap.size (w.heap.size + 1) ((w.alloc (.cells #[sv, .slice (some ⟨w.heap.size + 1, 0, none⟩) S.length S.length, .slice none 0 0, .int .i64 0] 203)).alloc (.cells (intC (List.replicate S.length 0)).toArray 3)).drew S 0 (List.replicate S.length 0) [] [] sv (.slice none 0 0) (.slice none 0 0) := by
  have a1 := heap_alloc_new w (.cells #[sv, .slice (some ⟨w.heap.size + 1, 0, none⟩) S.length S.length, .slice none 0 0, .int .i64 0] 203)
  have a2 := heap_alloc_new (w.alloc (.cells #[sv, .slice (some ⟨w.heap.size + 1, 0, none⟩) S.length S.length, .slice none 0 0, .int .i64 0] 203)) (.cells (intC (List.replicate S.length 0)).toArray 3)
  rw [show (w.alloc (.cells #[sv, .slice (some ⟨w.heap.size + 1, 0, none⟩) S.length S.length, .slice none 0 0, .int .i64 0] 203)).heap.size = w.heap.size + 1 by simp] at a2
  have k1 : Gr w (w.alloc (.cells #[sv, .slice (some ⟨w.heap.size + 1, 0, none⟩) S.length S.length, .slice none 0 0, .int .i64 0] 203)) := (Gr.refl w).alloc _ _
  have k2 : Gr (w.alloc (.cells #[sv, .slice (some ⟨w.heap.size + 1, 0, none⟩) S.length S.length, .slice none 0 0, .int .i64 0] 203)) ((w.alloc (.cells #[sv, .slice (some ⟨w.heap.size + 1, 0, none⟩) S.length S.length, .slice none 0 0, .int .i64 0] 203)).alloc (.cells (intC (List.replicate S.length 0)).toArray 3)) := (Gr.refl _).alloc _ _
  have hs := fun c e => (hr.lt c e).2
  exact ⟨(k2.b.block _ (by simp)).trans a1, hr.keep (fun c e => ((k1.trans k2).drew).b.block c (hs c e)), a2, by simp, RowI.nil _ _, RowI.nil _ _, by omega, fun e => by have := hs _ e; omega, fun e => by have := hs _ e; omega, hs, by simp [Value.ownBlock], by simp [Value.ownBlock], by simp [Value.ownBlock], by simp [Value.ownBlock], fun k e => (by cases e), Nat.le_refl _, by omega⟩
theorem contains_any (W : World) (B : Nat) (v : Value) (l : List Nat) (h : RowI W B v l) (hl : l.length ≤ 1000000000000) :
    Calls Tryz.prog 132 #[v, .int .i64 0] W fun e w' => e = .returned (.bool (l.contains 0)) ∧ W = w' := by
  obtain ⟨A, c, rfl⟩ := h.form
  cases l with
  | nil => exact (Tryz.slices_Contains_int_empty A c 0 W).mono fun e w' ⟨h1, h2⟩ => ⟨h1, h2.symm⟩
  | cons x r =>
    obtain ⟨g, rfl, -⟩ := h.cells (i := 0) (by simp)
    refine (Tryz.slices_Contains_int g 0 (x :: r).length c ((x :: r).map fun x : Nat => (x : Int)) 0 W (by simp) (by omega) (fun j hj => ?_)).mono fun e w' ⟨h1, h2⟩ => ⟨?_, h2.symm⟩
    · obtain ⟨g', e, hc⟩ := h.cells (i := j) (by simpa using hj)
      obtain rfl : g = g' := by simpa using e
      rw [Nat.zero_add, hc]
      rw [List.getD_eq_getElem?_getD, List.getElem?_map, List.getElem?_eq_getElem (by simpa using hj)]
      rfl
    · rw [h1]
      congr 2
      rw [List.take_of_length_le (by simp)]
      rw [Bool.eq_iff_iff]
      simp only [List.contains_iff_mem, List.mem_map]
      constructor
      · rintro ⟨a, ha, e⟩
        obtain rfl : a = 0 := by omega
        exact ha
      · intro ha
        exact ⟨0, ha, rfl⟩
theorem match_any (P : Nat) (r : List St × Nat) (b : ByteArray) (w : World) (h : ProgAt w P r) (hok : StOk r.1) (hf : r.2 < r.1.length) (hS : r.1.length ≤ 1000000000000) (hb : b.size ≤ 1000000000000) :
    Calls Tryz.prog 98 #[.pointer (some ⟨P, 0, none⟩), .string b] w fun e w' => e = .returned (.bool (matchS r b.data.toList)) ∧ Gr w w' := by
  obtain ⟨sv, hP, hr⟩ := h
  obtain ⟨S, f0⟩ := r
  simp only at hr hok hf hS hP
  have hm : matchS (S, f0) b.data.toList = (goS S b.data.toList 0 (enterS S 0 (List.replicate S.length 0) [] f0).1 (enterS S 0 (List.replicate S.length 0) [] f0).2).contains 0 := by
    unfold matchS
    cases S with
    | nil => simp at hf
    | cons => rfl
  rw [hm]
  obtain ⟨sb, sc, rfl, -⟩ := hr.cellsAt hf
  have c0 := cell_of_row w _ 0 _ _ (0, 0) hP
  have c1 := cell_of_row w _ 1 _ _ (0, 0) hP
  have HR := Lib.hid hr
  have HOK := Lib.hid hok
  have hmk := make_ints S.length hS
  have n0 : ((S.length : Int) == 0) = false := by simp; rintro rfl; simp at hf
  have n1 : ¬ S.length = 0 := by omega
  have n2 : (0 : Int) ≤ (S.length : Int) := by omega
  have hun0 : ([] : List Nat).length + unent 0 (List.replicate S.length 0) ≤ S.length := by have := unent_le 0 (List.replicate S.length 0); simpa using this
  have t0 : TurnOk S 0 (enterS S 0 (List.replicate S.length 0) [] f0) := enterS_ok hok (turn0_ok (by simp)) hf
  obtain ⟨r0, hr0⟩ : ∃ r0, enterS S 0 (List.replicate S.length 0) [] f0 = r0 := ⟨_, rfl⟩
  rw [hr0] at t0
  rw [hr0]
  have HR0 := Lib.hid hr0
  obtain ⟨E0, now0⟩ := r0
  obtain ⟨Q, hQ⟩ : ∃ Q, goS S b.data.toList 0 E0 now0 = Q := ⟨_, rfl⟩
  have HQ : Hid (goS S (b.data.toList.drop 0) 0 E0 now0 = Q) := Lib.hid hQ
  simp only
  rw [hQ]
  have T0 := Lib.hid t0
  clear hm hP hr hok hQ hr0 t0
  go_enter Tryz.func98, Tryz.ntmps98
  go_wp2
  go_region_held3 (fun w' => w'.cell? ⟨P, 0, none⟩ = some (.slice (some ⟨sb, 0, none⟩) S.length sc)) (go_keep) (fail)
  all_goals
    first
    | (have HE := Lib.hid (enSt_A w S _ HR.out)
       have HG : Hid (Gr w _) := Lib.hid (((Gr.refl w).alloc (intC (List.replicate S.length 0)).toArray 3).alloc #[.slice (some ⟨sb, 0, none⟩) S.length sc, .slice (some ⟨w.heap.size, 0, none⟩) S.length S.length, .slice none 0 0, .int .i64 0] 203).drew
       obtain ⟨W0, hW0⟩ : ∃ W0, ((w.alloc (.cells (intC (List.replicate S.length 0)).toArray 3)).alloc (.cells #[.slice (some ⟨sb, 0, none⟩) S.length sc, .slice (some ⟨w.heap.size, 0, none⟩) S.length S.length, .slice none 0 0, .int .i64 0] 203)).drew = W0 := ⟨_, rfl⟩
       rw [hW0] at HE HG
       rw [hW0]
       obtain ⟨R, hR⟩ : ∃ R, R = w.heap.size + 1 := ⟨_, rfl⟩
       rw [← hR] at HE
       rw [← hR]
       obtain ⟨B, eb, hB1, hB2, HE2⟩ : ∃ B eb, w.heap.size ≤ B ∧ B ≤ W0.heap.size ∧ Hid (EnSt B R eb W0 S 0 (List.replicate S.length 0) [] [] (.slice (some ⟨sb, 0, none⟩) S.length sc) (.slice none 0 0) (.slice none 0 0)) := ⟨_, _, Nat.le_refl _, HG.out.size, HE⟩)
    | (have HE := Lib.hid (enSt_B w S _ HR.out)
       have HG : Hid (Gr w _) := Lib.hid (((Gr.refl w).alloc #[.slice (some ⟨sb, 0, none⟩) S.length sc, .slice (some ⟨w.heap.size + 1, 0, none⟩) S.length S.length, .slice none 0 0, .int .i64 0] 203).alloc (intC (List.replicate S.length 0)).toArray 3).drew
       obtain ⟨W0, hW0⟩ : ∃ W0, ((w.alloc (.cells #[.slice (some ⟨sb, 0, none⟩) S.length sc, .slice (some ⟨w.heap.size + 1, 0, none⟩) S.length S.length, .slice none 0 0, .int .i64 0] 203)).alloc (.cells (intC (List.replicate S.length 0)).toArray 3)).drew = W0 := ⟨_, rfl⟩
       rw [hW0] at HE HG
       rw [hW0]
       obtain ⟨R, hR⟩ : ∃ R, R = w.heap.size := ⟨_, rfl⟩
       obtain ⟨B, eb, hB1, hB2, HE2⟩ : ∃ B eb, w.heap.size ≤ B ∧ B ≤ W0.heap.size ∧ Hid (EnSt B R eb W0 S 0 (List.replicate S.length 0) [] [] (.slice (some ⟨sb, 0, none⟩) S.length sc) (.slice none 0 0) (.slice none 0 0)) := ⟨_, _, Nat.le_refl _, HG.out.size, by rw [hR]; exact HE⟩
       rw [← hR])
    clear hW0 hR HE hmk
    have CE := Lib.hid (enter_any B R eb S 0 (List.replicate S.length 0) [] _ _ _ f0 W0 HE2.out HOK.out hf hS (by omega) hun0)
    have d1 := HG.out.cell c1
    have d0 := HG.out.cell c0
    have hr1 := HR0.out
    unfold enterS at hr1
    rw [hr1] at CE
    clear hr1
    go_wp2_with fail
    refine CE.out.mono ?_
    rintro e w1 ⟨lv1, tv1, rfl, hst1, hch1⟩
    have hBW := hch1.below HE2.out.br HE2.out.be (fun j e => by cases e) (fun j e => by cases e) hB2
    have HG1 : Hid (Gr w w1) := Lib.hid ⟨HG.out.b.trans (hBW.mono hB1)⟩
    have HM1 : Hid (MSt B R eb w1 S 0 E0 [] now0 (.slice (some ⟨sb, 0, none⟩) S.length sc) lv1 (.slice none 0 0) tv1) := Lib.hid (MSt.of hst1)
    clear hst1 hch1 hBW d0 d1 CE HE2
    go_wp2
    go_loopw [6, 7, 8] (fun vn vt va wr => ∃ (k : Nat) (E now old : List Nat) (lv : Value), va = .int .i64 k ∧ k ≤ b.size ∧ Hid (MSt B R eb wr S k E old now (.slice (some ⟨sb, 0, none⟩) S.length sc) lv vt vn) ∧ Hid (E.length = S.length ∧ (∀ x ∈ now, x < S.length) ∧ now.length ≤ S.length) ∧ Hid (goS S (b.data.toList.drop k) k E now = Q) ∧ Hid (Gr w wr)) (fun _ _ va _ => b.size - (intOf va).toNat)
    case atStart => exact ⟨0, E0, now0, [], lv1, rfl, Nat.zero_le _, HM1, Lib.hid ⟨T0.out.e, T0.out.s, by have := T0.out.u; simp only at this; omega⟩, HQ, HG1⟩
    case round =>
      clear HM1 HQ HG1 HR HR0 T0
      obtain ⟨k, E1, now, old, lv2, rfl, hk, HM, HT, HQ2, HG2⟩ := hrel
      obtain ⟨An, cn, rfl⟩ := HM.out.nw.form
      obtain ⟨At, ct, rfl⟩ := HM.out.en.t.form
      have c0r := HG2.out.cell c0
      by_cases hgo : k < b.size ∧ now ≠ []
      · obtain ⟨hlt, hne⟩ := hgo
        have hl0 : 0 < now.length := by cases now with | nil => exact absurd rfl hne | cons => simp
        have hdr : b.data.toList.drop k = b[k] :: b.data.toList.drop (k + 1) := by
          rw [List.drop_eq_getElem_cons (by simpa using hlt)]
          rfl
        have hq := HQ2.out
        rw [hdr, goS_step S _ _ _ _ _ hne] at hq
        obtain ⟨c, hc⟩ : ∃ c, b[k].toNat = c := ⟨_, rfl⟩
        have hc2 : c < 256 := by rw [← hc]; exact b[k].toNat_lt
        rw [hc] at hq
        obtain ⟨Q2, hq2⟩ : ∃ Q2, turnS S (k + 1) c E1 now = Q2 := ⟨_, rfl⟩
        rw [hq2] at hq
        have HQ3 := Lib.hid hq
        have HQ4 : Hid ((now.drop 0).foldl (byteS S (k + 1) c) (E1, []) = Q2) := Lib.hid (by rw [← hq2]; rfl)
        have HM2 := Lib.hid ((HM.out.turn (k + 1)).empty)
        obtain ⟨-, -, -, c3, -, f3⟩ := HM.out.en.cells
        have HBl := HM.out.en.br
        have HT0 : Hid (TurnOk S (k + 1) (E1, [])) := Lib.hid (turn0_ok HT.out.1)
        have i1 : (k : Int) < (b.size : Int) := by omega
        have i2 : (0 : Int) < (now.length : Int) := by omega
        have hG3 : Hid (∀ u, Gr w (wr.setCell ⟨R, 3, none⟩ u)) := Lib.hid fun u => ⟨HG2.out.b.setCell (by show w.heap.size ≤ R; omega) u⟩
        have d0 : ∀ u, (wr.setCell ⟨R, 3, none⟩ u).cell? ⟨P, 0, none⟩ = some (.slice (some ⟨sb, 0, none⟩) S.length sc) := fun u => (hG3.out u).cell c0
        clear hq hq2 hdr HM
        go_wp2
        have W1e : wr.setCell ⟨R, 3, none⟩ (.int .i64 ((k + 1 : Nat) : Int)) = wr.setCell ⟨R, 3, none⟩ (.int .i64 ((k : Int) + 1)) := rfl
        rw [W1e] at HM2
        have HG4 := Lib.hid (hG3.out (.int .i64 ((k : Int) + 1)))
        obtain ⟨W1, hW1⟩ : ∃ W1, wr.setCell ⟨R, 3, none⟩ (.int .i64 ((k : Int) + 1)) = W1 := ⟨_, rfl⟩
        rw [hW1] at HM2 HG4
        rw [hW1]
        clear hW1 W1e d0 hG3 c3 f3 c0r HG2 HQ2
        go_loopw [7, 52] (fun vt vi wq => ∃ (i : Nat) (E' set' : List Nat) (lv' : Value), vi = .int .i64 i ∧ i ≤ now.length ∧ Hid (MSt B R eb wq S (k + 1) E' set' now (.slice (some ⟨sb, 0, none⟩) S.length sc) lv' vt (.slice An now.length cn)) ∧ Hid (TurnOk S (k + 1) (E', set')) ∧ Hid ((now.drop i).foldl (byteS S (k + 1) c) (E', set') = Q2) ∧ Hid (Gr w wq)) (fun _ vi _ => now.length - (intOf vi).toNat)
        case atStart => exact ⟨0, E1, [], lv2, rfl, Nat.zero_le _, HM2, HT0, HQ4, HG4⟩
        case round =>
          clear HM2 HT0 HQ4 HG4
          obtain ⟨i, E2, set2, lv3, rfl, hi, HMi, HTi, HFi, HGi⟩ := hrel
          obtain ⟨At2, ct2, rfl⟩ := HMi.out.en.t.form
          have d0 := HGi.out.cell c0
          have hnb : now.length ≤ 1000000000000 := by have := HT.out.2.2; omega
          by_cases hlt2 : i < now.length
          · obtain ⟨gn, rfl, hcn⟩ := HMi.out.nw.cells (i := i) hlt2
            obtain ⟨s, hs⟩ : ∃ s, now[i] = s := ⟨_, rfl⟩
            have hsl : s < S.length := by rw [← hs]; exact HT.out.2.1 _ (List.getElem_mem hlt2)
            rw [hs] at hcn
            have hfi := HFi.out
            rw [List.drop_eq_getElem_cons hlt2, List.foldl_cons, hs] at hfi
            obtain ⟨sb', sc', e', -, k5, -, hbs⟩ := HMi.out.en.s.cellsAt hsl
            obtain ⟨rfl, rfl⟩ : sb = sb' ∧ sc = sc' := by simpa using e'
            have hokS := HOK.out.at hsl
            have CH := Lib.hid (fun n => has_any sb (s * 7) (stAt S s).p c (wr.drewN n) hbs hc2)
            have i5 : (i : Int) < (now.length : Int) := by omega
            have i6 : (0 : Int) ≤ (i : Int) := by omega
            have i7 : (s : Int) < (S.length : Int) := by omega
            have i8 : (0 : Int) ≤ (s : Int) := by omega
            unfold byteS at hfi
            clear e' hbs HFi hs
            cases hp : (stAt S s).p c with
            | false =>
              rw [hp] at CH hfi
              have HF5 : Hid ((now.drop (i + 1)).foldl (byteS S (k + 1) c) (E2, set2) = Q2) := Lib.hid hfi
              clear hfi hp
              go_wp2_with fail
              go_quiet ((go_at_call 131; exact quiet_left (CH.out _)))
              go_wp2
              go_roundw
              case rel => exact ⟨i + 1, E2, set2, lv3, rfl, by omega, Lib.hid (HMi.out.gr ((Gr.refl wr).drewN _)), HTi, HF5, Lib.hid (HGi.out.drewN _)⟩
              case measure => simp [intOf]; omega
            | true =>
              rw [hp] at CH hfi
              simp only [if_true] at hfi
              obtain ⟨nx, hnx⟩ : ∃ nx, (stAt S s).nx = nx := ⟨_, rfl⟩
              rw [hnx] at hfi hokS k5
              have TE := Lib.hid (enterS_ok HOK.out HTi.out hokS.1)
              unfold enterS at TE hfi
              have CE := Lib.hid (fun W (q : Gr wr W) => enter_any B R eb S (k + 1) E2 set2 _ _ _ nx W (HMi.out.en.gr q) HOK.out hokS.1 hS (by omega) (HTi.out.u))
              obtain ⟨r2, hr2⟩ : ∃ r2, runF S (k + 1) (4 * S.length + 3) E2 [] set2 (some nx) = r2 := ⟨_, rfl⟩
              try simp only at hfi
              rw [hr2] at TE hfi CE
              obtain ⟨E3, set3⟩ := r2
              have HF5 : Hid ((now.drop (i + 1)).foldl (byteS S (k + 1) c) (E3, set3) = Q2) := Lib.hid hfi
              clear hfi hp hr2 hnx
              go_wp2_with fail
              go_quiet ((go_at_call 131; exact quiet_left (CH.out _)))
              have q0 : Gr wr (wr.drewN nq) := (Gr.refl wr).drewN nq
              have C2 := Lib.hid (CE.out _ q0)
              have d1 := q0.cell d0
              have d5 := q0.cell k5
              have HM3 := Lib.hid (HMi.out.gr q0)
              have HG3 := Lib.hid (HGi.out.trans q0)
              obtain ⟨Wd, hWd⟩ : ∃ Wd, wr.drewN nq = Wd := ⟨_, rfl⟩
              rw [hWd] at C2 d1 d5 HM3 HG3
              rw [hWd]
              clear hWd CE q0 HMi HGi d0 k5 hcn
              go_wp2_with fail
              refine C2.out.mono ?_
              rintro e w3 ⟨lv4, tv4, rfl, hst4, hch4⟩
              have HM4 := Lib.hid (HM3.out.step hst4 hch4)
              have hwb : w.heap.size ≤ Wd.heap.size := HG3.out.size
              have HG4 : Hid (Gr w w3) := Lib.hid ⟨HG3.out.b.trans (hch4.below (B := w.heap.size) (by have := HM3.out.en.br; omega) (by have := HM3.out.en.be; omega) (fun j e => by have := (HM3.out.en.l.lt j e).1; omega) (fun j e => by have := (HM3.out.en.t.lt j e).1; omega) hwb)⟩
              clear hst4 hch4 C2 HM3 HG3
              go_wp2
              go_roundw
              case rel => exact ⟨i + 1, E3, set3, lv4, rfl, by omega, HM4, TE, HF5, HG4⟩
              case measure => simp [intOf]; omega
          · obtain rfl : i = now.length := by omega
            have hf2 := HFi.out
            rw [List.drop_of_length_le (Nat.le_refl _)] at hf2
            obtain rfl : (E2, set2) = Q2 := hf2
            have HMs := Lib.hid HMi.out.swap
            have HQ5 := Lib.hid HQ3.out
            have i4 : ¬ (now.length : Int) < (now.length : Int) := by omega
            clear HMi HFi
            go_wp2
            go_roundw
            case rel => exact ⟨k + 1, E2, set2, now, lv3, rfl, by omega, HMs, Lib.hid ⟨HTi.out.e, HTi.out.s, by have := HTi.out.u; simp only at this; omega⟩, HQ5, HGi⟩
            case measure => simp [intOf]; omega
      · have hend : Q = now := by
          rw [← HQ2.out]
          refine goS_end S _ k E1 now ?_
          by_cases h1 : k < b.size
          · exact .inr (Decidable.byContradiction fun h => hgo ⟨h1, h⟩)
          · exact .inl (List.drop_of_length_le (by simp; omega))
        have HEND := Lib.hid hend
        have CC := Lib.hid (contains_any wr B _ now HM.out.nw (by have := HT.out.2.2; omega))
        by_cases h1 : k < b.size
        · obtain rfl : now = [] := Decidable.byContradiction fun h => hgo ⟨h1, h⟩
          have i1 : (k : Int) < (b.size : Int) := by omega
          clear hend HM HT HQ2 hgo
          go_wp2_with (go_at_call 132; refine CC.out.mono ?_; rintro e w2 ⟨rfl, rfl⟩)
          go_ret
          exact ⟨by rw [HEND.out]; simp, HG2.out⟩
        · have i1 : ¬ (k : Int) < (b.size : Int) := by omega
          clear hend HM HT HQ2 hgo
          go_wp2_with (go_at_call 132; refine CC.out.mono ?_; rintro e w2 ⟨rfl, rfl⟩)
          go_ret
          exact ⟨by rw [HEND.out]; simp, HG2.out⟩
end Go.Proofs.YtoooaipbkkiefaaGreatDoor
namespace Go.Proofs.YtoooaipbkkiefaaGreatDoor
open Go.RowKit
set_option maxRecDepth 100000
set_option maxHeartbeats 2000000

/-- a pattern that was compiled -/
structure Pat (W : World) (P : Nat) (n : Nd) : Prop where
  p : ProgAt W P (buildS n)
  w : Wf n
  t : wt n ≤ 4096
theorem Pat.gr {W W' : World} {P : Nat} {n : Nd} (h : Pat W P n) (k : Gr W W') : Pat W' P n := ⟨h.p.gr k, h.w, h.t⟩
/-- does the pattern match? -/
def hits (n : Nd) (b : List UInt8) : Bool := matchS (buildS n) b
theorem hits_iff {n : Nd} (hw : Wf n) (b : List UInt8) : hits n b = true ↔ Lg n b := match_lang hw b
theorem pat_match {P : Nat} {n : Nd} {w : World} (h : Pat w P n) (b : ByteArray) (hb : b.size ≤ 1000000000000) :
    Calls Tryz.prog 98 #[.pointer (some ⟨P, 0, none⟩), .string b] w fun e w' => e = .returned (.bool (hits n b.data.toList)) ∧ Gr w w' :=
  match_any P (buildS n) b w h.p (build_fit n).1 (build_fit n).2 (by have := build_len h.w; have := h.t; omega) hb
/-- the tree of a pattern; or the place and the error -/
def treeS (s : List UInt8) : Nd ⊕ (Nat × Nat) :=
  if 4096 < s.length then .inr (0, 6)
  else match tdS s 0 0 false with
    | some k => .inr (k, 6)
    | none => if (readS s).1 && decide (s.length ≤ (readS s).2.2) then .inl (readS s).2.1 else .inr ((readS s).2.2, 2)
theorem treeS_comp (s : List UInt8) : compS s = match treeS s with | .inl n => .inl (buildS n) | .inr x => .inr x := by
  unfold compS treeS
  split
  · rfl
  · cases tdS s 0 0 false with
    | some k => rfl
    | none =>
      simp only
      split <;> rfl
theorem treeS_ok {s : List UInt8} {n : Nd} (h : treeS s = .inl n) : Wf n ∧ wt n ≤ 4096 ∧ readS s = (true, n, s.length) := by
  unfold treeS at h
  split at h
  · cases h
  rename_i hl
  cases htd : tdS s 0 0 false with
  | some k => rw [htd] at h; cases h
  | none =>
    rw [htd] at h
    simp only at h
    split at h
    · rename_i hr
      simp only [Bool.and_eq_true, decide_eq_true_eq] at hr
      have hle := (patS_le s (s.length + 1) 0 (Nat.zero_le _)).1
      have ho := pat_ok s (s.length + 1) 0 (Nat.zero_le _) hr.1
      have hrm := pat_room (s := s) (d := s.length + 1) (k := 0) (by omega) (Nat.zero_le _) hr.1
      have ht := ho.t
      obtain rfl := Sum.inl.inj h
      unfold readS at hr ⊢
      refine ⟨hrm.1, by omega, ?_⟩
      obtain ⟨r, e⟩ : ∃ r, patS s (s.length + 1) 0 = r := ⟨_, rfl⟩
      rw [e] at hr hle ⊢
      obtain ⟨a, b, c⟩ := r
      simp only at hr hle ⊢
      obtain rfl : c = s.length := by omega
      rw [hr.1]
    · cases h
theorem treeS_inl {s : List UInt8} {n : Nd} (hl : s.length ≤ 4096) (ht : tdS s 0 0 false = none) (hr : readS s = (true, n, s.length)) : treeS s = .inl n := by
  unfold treeS
  rw [if_neg (by omega), ht, hr]
  simp
def TreePost (r : Nd ⊕ (Nat × Nat)) (w : World) (e : Ending) (w' : World) : Prop :=
  Gr w w' ∧ match r with
  | .inl n => ∃ P, e = .returned (.tuple #[.pointer (some ⟨P, 0, none⟩), .int .i64 0, .int .i64 0]) ∧ Pat w' P n
  | .inr (k, c) => e = .returned (.tuple #[.pointer none, .int .i64 k, .int .i64 c])
theorem tree_any (s : ByteArray) (hs : s.size ≤ 1000000) (w : World) : Calls Tryz.prog 30 #[.string s] w (TreePost (treeS s.data.toList) w) := by
  refine (compile_any s hs w).mono ?_
  rintro e w' ⟨hg, h⟩
  rw [treeS_comp] at h
  refine ⟨hg, ?_⟩
  have hk := @treeS_ok s.data.toList
  obtain ⟨r, hr⟩ : ∃ r, treeS s.data.toList = r := ⟨_, rfl⟩
  rw [hr] at h hk ⊢
  cases r with
  | inl n =>
    obtain ⟨P, he, hP⟩ := h
    obtain ⟨h1, h2, -⟩ := hk rfl
    exact ⟨P, he, hP, h1, h2⟩
  | inr x => exact h
theorem tree_yes {s : ByteArray} {n : Nd} (h : treeS s.data.toList = .inl n) (hs : s.size ≤ 1000000) (w : World) :
    Calls Tryz.prog 30 #[.string s] w fun e w' => Gr w w' ∧ ∃ P, e = .returned (.tuple #[.pointer (some ⟨P, 0, none⟩), .int .i64 0, .int .i64 0]) ∧ Pat w' P n := by
  have := tree_any s hs w
  rw [h] at this
  exact this
theorem tree_no {s : ByteArray} {x : Nat × Nat} (h : treeS s.data.toList = .inr x) (hs : s.size ≤ 1000000) (w : World) :
    Calls Tryz.prog 30 #[.string s] w fun e w' => Gr w w' ∧ e = .returned (.tuple #[.pointer none, .int .i64 x.1, .int .i64 x.2]) := by
  have := tree_any s hs w
  rw [h] at this
  exact this
/-- the pattern that is known -/
def knownN : Nd := (readS [97, 40, 98, 124, 99, 41, 42, 100]).2.1
theorem known1 : treeS [97, 40, 98, 124, 99, 41, 42, 100] = .inl knownN := by kernel_rfl
theorem known2 : treeS [97, 41] = .inr (1, 2) := by kernel_rfl
theorem known3 : hits knownN [97, 98, 99, 98, 100] = true := by kernel_rfl
theorem known4 : hits knownN [97, 98, 120] = false := by kernel_rfl
theorem known5 : escS [97, 46, 98] = [97, 92, 46, 98] := by kernel_rfl
end Go.Proofs.YtoooaipbkkiefaaGreatDoor
/- The laws' first test: it answers true. -/
namespace Go.Proofs.YtoooaipbkkiefaaGreatDoor
open Go.RowKit
set_option maxRecDepth 100000
set_option maxHeartbeats 2000000

end Go.Proofs.YtoooaipbkkiefaaGreatDoor
namespace Go.Proofs.YtoooaipbkkiefaaGreatDoor
open Go.RowKit
set_option maxRecDepth 100000
set_option maxHeartbeats 1000000

/-- a matcher: its kind, its name, its value -/
structure Mt where
  k : Int
  n : ByteArray
  v : ByteArray
def Mt.val (m : Mt) : Value := .agg #[.int .i64 m.k, .string m.n, .string m.v]
/-- a slice of matchers reads as a list -/
def MatsAt (W : World) (A : Option Addr) (l : List Mt) : Prop :=
  0 < l.length → ∃ b o, A = some ⟨b, o, none⟩ ∧ ∀ i x, l[i]? = some x → W.cell? ⟨b, o + i * 3, none⟩ = some (.int .i64 x.k) ∧ W.cell? ⟨b, o + i * 3 + 1, none⟩ = some (.string x.n) ∧ W.cell? ⟨b, o + i * 3 + 2, none⟩ = some (.string x.v)
theorem MatsAt.gr {W W' : World} {A : Option Addr} {l : List Mt} (h : MatsAt W A l) (g : Gr W W') : MatsAt W' A l := fun h0 => by
  obtain ⟨b, o, e, hc⟩ := h h0
  exact ⟨b, o, e, fun i x hx => ⟨g.cell (hc i x hx).1, g.cell (hc i x hx).2.1, g.cell (hc i x hx).2.2⟩⟩
theorem MatsAt.at_ {W : World} {A : Option Addr} {l : List Mt} (h : MatsAt W A l) {k : Nat} (hk : k < l.length) :
    ∃ b o, A = some ⟨b, o, none⟩ ∧ W.cell? ⟨b, o + k * 3, none⟩ = some (.int .i64 (l[k]).k) ∧ W.cell? ⟨b, o + k * 3 + 1, none⟩ = some (.string (l[k]).n) ∧ W.cell? ⟨b, o + k * 3 + 2, none⟩ = some (.string (l[k]).v) ∧ b < W.heap.size := by
  obtain ⟨b, o, e, hc⟩ := h (by omega)
  obtain ⟨h1, h2, h3⟩ := hc k l[k] (List.getElem?_eq_getElem hk)
  exact ⟨b, o, e, h1, h2, h3, World.block_lt_of_cell? W _ h1⟩
/-- how queries write a kind -/
def signL (k : Int) : List UInt8 := if k = 1 then [61] else if k = 2 then [33, 61] else if k = 3 then [61, 126] else if k = 4 then [33, 126] else []
def hasP (k : Int) : Bool := decide (k = 3) || decide (k = 4)
def errT (r : Nd ⊕ (Nat × Nat)) : Int := match r with | .inl _ => 0 | .inr (_, c) => c
/-- what is wrong with a matcher -/
def checkM (m : Mt) : Int := if signL m.k = [] ∨ nameB m.n = false ∨ 256 < m.v.size then 1 else if hasP m.k then errT (treeS m.v.data.toList) else 0
theorem kind_cases (k : Int) : k = 1 ∨ k = 2 ∨ k = 3 ∨ k = 4 ∨ (((k : Int) == 1) = false ∧ ((k : Int) == 2) = false ∧ ((k : Int) == 3) = false ∧ ((k : Int) == 4) = false ∧ signL k = [] ∧ hasP k = false) := by
  by_cases h1 : k = 1
  · exact .inl h1
  by_cases h2 : k = 2
  · exact .inr (.inl h2)
  by_cases h3 : k = 3
  · exact .inr (.inr (.inl h3))
  by_cases h4 : k = 4
  · exact .inr (.inr (.inr (.inl h4)))
  · refine .inr (.inr (.inr (.inr ⟨beq_eq_false_iff_ne.2 h1, beq_eq_false_iff_ne.2 h2, beq_eq_false_iff_ne.2 h3, beq_eq_false_iff_ne.2 h4, ?_, ?_⟩)))
    · unfold signL; rw [if_neg h1, if_neg h2, if_neg h3, if_neg h4]
    · unfold hasP; rw [decide_eq_false h3, decide_eq_false h4]; rfl
theorem sign_any (k : Int) (w : World) : Calls Tryz.prog 93 #[.int .i64 k] w fun e w' => e = .returned (.string ⟨(signL k).toArray⟩) ∧ w = w' := by
  rcases kind_cases k with rfl | rfl | rfl | rfl | ⟨h1, h2, h3, h4, h5, -⟩
  all_goals first
    | (have HS := Lib.hid h5; clear h5; go_enter Tryz.func93, Tryz.ntmps93; go_wp2; go_ret; exact ⟨by rw [HS.out]; rfl, rfl⟩)
    | (go_enter Tryz.func93, Tryz.ntmps93; go_wp2; go_ret; exact ⟨rfl, rfl⟩)
theorem hasPat_any (k : Int) (w : World) : Calls Tryz.prog 29 #[.int .i64 k] w fun e w' => e = .returned (.bool (hasP k)) ∧ w = w' := by
  rcases kind_cases k with rfl | rfl | rfl | rfl | ⟨h1, h2, h3, h4, -, h6⟩
  all_goals first
    | (have HS := Lib.hid h6; clear h6; go_enter Tryz.func29, Tryz.ntmps29; go_wp2; go_ret; exact ⟨by rw [HS.out]; rfl, rfl⟩)
    | (go_enter Tryz.func29, Tryz.ntmps29; go_wp2; go_ret; exact ⟨rfl, rfl⟩)
theorem errT_any (s : ByteArray) (hs : s.size ≤ 1000000) (W : World) : Calls Tryz.prog 30 #[.string s] W fun e w' => Gr W w' ∧ ∃ p k, e = .returned (.tuple #[p, k, .int .i64 (errT (treeS s.data.toList))]) := by
  refine (tree_any s hs W).mono ?_
  rintro e w' ⟨hg, h⟩
  refine ⟨hg, ?_⟩
  obtain ⟨r, hr⟩ : ∃ r, treeS s.data.toList = r := ⟨_, rfl⟩
  rw [hr] at h ⊢
  cases r with
  | inl n =>
    obtain ⟨P, he, -⟩ := h
    exact ⟨_, _, he⟩
  | inr x => exact ⟨_, _, h⟩
theorem sign_some {k : Int} (h : k = 1 ∨ k = 2 ∨ k = 3 ∨ k = 4) : ((⟨(signL k).toArray⟩ : ByteArray).toList) = signL k ∧ signL k ≠ [] := by
  rcases h with rfl | rfl | rfl | rfl <;> exact ⟨by kernel_rfl, by decide⟩
theorem check_mat (m : Mt) (w : World) (hn : m.n.size ≤ maxLen) (hv : m.v.size ≤ maxLen) :
    Calls Tryz.prog 62 #[m.val] w fun e w' => e = .returned (.int .i64 (checkM m)) ∧ Gr w w' := by
  obtain ⟨k, n, v⟩ := m
  simp only at hn hv
  show Calls Tryz.prog 62 #[.agg #[.int .i64 k, .string n, .string v]] w _
  unfold maxLen at hv
  have CS := Lib.hid (fun W => sign_any k W)
  have CN := Lib.hid (fun W => name_any n W hn)
  have CH := Lib.hid (fun W => hasPat_any k W)
  obtain ⟨b, hb⟩ : ∃ b, nameB n = b := ⟨_, rfl⟩
  rw [hb] at CN
  by_cases hk : signL k = []
  · have HE : Hid (checkM ⟨k, n, v⟩ = 1) := Lib.hid (by unfold checkM; rw [if_pos (.inl hk)])
    rw [hk] at CS
    obtain ⟨X, hX⟩ : ∃ X : ByteArray, (⟨([] : List UInt8).toArray⟩ : ByteArray) = X := ⟨_, rfl⟩
    have hXe : X.toList = [] := by rw [← hX]; kernel_rfl
    rw [hX] at CS
    clear hk hb hn hX
    go_enter Tryz.func62, Tryz.ntmps62
    go_wp2_with fail
    refine (CS.out _).mono ?_
    rintro e w1 ⟨rfl, rfl⟩
    go_wp2
    go_ret
    exact ⟨by rw [HE.out]; rfl, (Gr.refl w).alloc _ _⟩
  · obtain ⟨X, hX⟩ : ∃ X : ByteArray, (⟨(signL k).toArray⟩ : ByteArray) = X := ⟨_, rfl⟩
    have hXe : X.toList.isEmpty = false := by
      rw [← hX]
      have : k = 1 ∨ k = 2 ∨ k = 3 ∨ k = 4 := by
        rcases kind_cases k with h | h | h | h | h
        · exact .inl h
        · exact .inr (.inl h)
        · exact .inr (.inr (.inl h))
        · exact .inr (.inr (.inr h))
        · exact absurd h.2.2.2.2.1 hk
      rw [(sign_some this).1]
      simpa using hk
    rw [hX] at CS
    cases b
    · have HE : Hid (checkM ⟨k, n, v⟩ = 1) := Lib.hid (by unfold checkM; rw [if_pos (.inr (.inl hb))])
      clear hk hb hn hX
      go_enter Tryz.func62, Tryz.ntmps62
      go_wp2_with fail
      refine (CS.out _).mono ?_
      rintro e w1 ⟨rfl, rfl⟩
      go_wp2_with fail
      refine (CN.out _).mono ?_
      rintro e w2 ⟨rfl, rfl⟩
      go_wp2
      go_ret
      exact ⟨by rw [HE.out]; rfl, (Gr.refl w).alloc _ _⟩
    · by_cases hbig : 256 < v.size
      · have HE : Hid (checkM ⟨k, n, v⟩ = 1) := Lib.hid (by unfold checkM; rw [if_pos (.inr (.inr hbig))])
        have n1 : (256 : Int) < (v.size : Int) := by omega
        clear hk hb hn hX
        go_enter Tryz.func62, Tryz.ntmps62
        go_wp2_with fail
        refine (CS.out _).mono ?_
        rintro e w1 ⟨rfl, rfl⟩
        go_wp2_with fail
        refine (CN.out _).mono ?_
        rintro e w2 ⟨rfl, rfl⟩
        go_wp2
        go_ret
        exact ⟨by rw [HE.out]; rfl, (Gr.refl w).alloc _ _⟩
      · have n1 : ¬ (256 : Int) < (v.size : Int) := by omega
        have CC := Lib.hid (fun W => errT_any v (by omega) W)
        obtain ⟨p, hp⟩ : ∃ p, hasP k = p := ⟨_, rfl⟩
        rw [hp] at CH
        have HE : Hid (checkM ⟨k, n, v⟩ = if p then errT (treeS v.data.toList) else 0) := Lib.hid (by unfold checkM; rw [if_neg (by simp [hk, hb, hbig]), hp])
        clear hk hb hn hX hp
        obtain ⟨er, her⟩ : ∃ er, errT (treeS v.data.toList) = er := ⟨_, rfl⟩
        rw [her] at CC HE
        clear her
        cases p
        · go_enter Tryz.func62, Tryz.ntmps62
          go_wp2_with fail
          refine (CS.out _).mono ?_
          rintro e w1 ⟨rfl, rfl⟩
          go_wp2_with fail
          refine (CN.out _).mono ?_
          rintro e w2 ⟨rfl, rfl⟩
          go_wp2_with fail
          refine (CH.out _).mono ?_
          rintro e w3 ⟨rfl, rfl⟩
          go_wp2
          go_ret
          exact ⟨by rw [HE.out]; rfl, (Gr.refl w).alloc _ _⟩
        · go_enter Tryz.func62, Tryz.ntmps62
          go_wp2_with fail
          refine (CS.out _).mono ?_
          rintro e w1 ⟨rfl, rfl⟩
          go_wp2_with fail
          refine (CN.out _).mono ?_
          rintro e w2 ⟨rfl, rfl⟩
          go_wp2_with fail
          refine (CH.out _).mono ?_
          rintro e w3 ⟨rfl, rfl⟩
          go_wp2_with fail
          refine (CC.out _).mono ?_
          rintro e w4 ⟨g4, P, K, rfl⟩
          go_wp2
          go_ret
          exact ⟨by rw [HE.out]; rfl, ((Gr.refl w).alloc _ _).trans g4⟩
end Go.Proofs.YtoooaipbkkiefaaGreatDoor
namespace Go.Proofs.YtoooaipbkkiefaaGreatDoor
open Go.RowKit Go.Sort Go.Maps Go.WideMaps
set_option maxRecDepth 100000
set_option maxHeartbeats 4000000

/-- does a matcher ask for one value alone, which is not the empty one? -/
def askM (m : Mt) : Prop := m.k = 1 ∧ m.v.size ≠ 0
instance (m : Mt) : Decidable (askM m) := by unfold askM; exact inferInstance
/-- none of the matchers asks; or here is the row of one that asks -/
def RarP (W : World) (gs : List Se) (l : List Mt) (v : Value) (found : Bool) : Prop :=
  (found = false ∧ v = .slice none 0 0 ∧ ∀ m ∈ l, ¬ askM m) ∨
  (found = true ∧ ∃ m, m ∈ l ∧ askM m ∧ ∃ B nr, v = Nr.v nr ∧ OwnI W B (Nr.v nr) (ixOf (prs gs gs.length) m.n m.v))
theorem RarP.skip {W : World} {gs : List Se} {l : List Mt} {v : Value} {found : Bool} {m : Mt} (h : RarP W gs l v found) (hm : ¬ askM m) : RarP W gs (l ++ [m]) v found := by
  rcases h with ⟨h1, h2, h3⟩ | ⟨h1, x, hx, h2⟩
  · refine .inl ⟨h1, h2, fun y hy => ?_⟩
    rcases List.mem_append.1 hy with e | e
    · exact h3 y e
    · rw [List.mem_singleton.1 e]; exact hm
  · exact .inr ⟨h1, x, List.mem_append_left _ hx, h2⟩
theorem RarP.keep {W : World} {gs : List Se} {l : List Mt} {v : Value} {m : Mt} (h : RarP W gs l v true) : RarP W gs (l ++ [m]) v true := by
  rcases h with ⟨h1, -⟩ | ⟨h1, x, hx, h2⟩
  · cases h1
  · exact .inr ⟨h1, x, List.mem_append_left _ hx, h2⟩
/-- the row that the index holds of a name and a value -/
theorem StAt.row {W : World} {S : Nat} {gs : List Se} (h : StAt W S gs) : ∃ A c M, W.cell? ⟨S, 0, none⟩ = some (.slice A gs.length c) ∧ W.cell? ⟨S, 1, none⟩ = some (.map (some M)) ∧
    ∀ (n v : ByteArray), n.size ≤ maxLen → v.size ≤ maxLen → ∃ o nr B, (∀ W', Gr W W' → (Instr.lookup 89 (.map (some M)) (.string n) false).run Tryz.prog W' = .ok (.map o) W') ∧
      (∀ W', Gr W W' → (Instr.lookup 104 (.map o) (.string v) false).run Tryz.prog W' = .ok (Nr.v nr) W') ∧ OwnI W B (Nr.v nr) (ixOf (prs gs gs.length) n v) := by
  obtain ⟨A, c, M, cs, h1, h2, ⟨B, K, mb, sv, hi⟩, h4⟩ := h
  refine ⟨A, c, M, cell_of_row W S 0 _ _ (0, 0) h1, cell_of_row W S 1 _ _ (0, 0) h1, fun n v hn hv => ?_⟩
  refine ⟨mb n, sv n v, B, fun W' g => (hi.gr g).look n hn, fun W' g => ?_, (hi.rows n v).1⟩
  cases hb : mb n with
  | none =>
    rw [(hi.none_ n hb v).1]
    rfl
  | some b => exact (hi.gr g).look2 hb v hv
theorem Nr.form (s : Nr) : ∃ a n c, s.v = .slice a n c := by cases s <;> exact ⟨_, _, _, rfl⟩
theorem RarP.form {W : World} {gs : List Se} {l : List Mt} {v : Value} {f : Bool} (h : RarP W gs l v f) : ∃ a n c, v = .slice a n c := by
  rcases h with ⟨-, h2, -⟩ | ⟨-, x, -, -, B, nr, h2, -⟩
  · exact ⟨_, _, _, h2⟩
  · obtain ⟨a, n, c, e⟩ := nr.form
    exact ⟨a, n, c, h2.trans e⟩
def RarQ (W : World) (gs : List Se) (l : List Mt) (e : Ending) : Prop := ∃ v f, e = .returned (.tuple #[v, .bool f]) ∧ RarP W gs l v f
theorem rarest_any0 (S : Nat) (gs : List Se) (A : Option Addr) (l : List Mt) (c : Nat) (w0 w : World) (g0 : Gr w0 w) (h : StAt w0 S gs) (hA : MatsAt w A l) (hw : ∀ x ∈ l, x.n.size ≤ maxLen ∧ x.v.size ≤ maxLen) (hl : l.length ≤ 1000) :
    Calls Tryz.prog 66 #[.pointer (some ⟨S, 0, none⟩), .slice A l.length c] w fun e w' => Gr w w' ∧ RarQ w0 gs l e := by
  obtain ⟨A0, c0, M, s0, s1, hrow⟩ := h.row
  have HROW := Lib.hid hrow
  have HA := Lib.hid hA; have HW := Lib.hid hw
  have HS1 := Lib.hid (g0.cell s1); have HG0 := Lib.hid g0
  clear hrow hA hw h s0 s1 g0
  go_enter Tryz.func66, Tryz.ntmps66
  go_wp2
  go_loopw [6, 7, 13] (fun v f i wr => ∃ k : Nat, k ≤ l.length ∧ i = .int .i64 k ∧ ∃ b, f = .bool b ∧ Hid (RarP w0 gs (l.take k) v b) ∧ Hid (Gr w wr)) (fun _ _ i _ => l.length - (intOf i).toNat)
  case atStart => exact ⟨0, Nat.zero_le _, rfl, false, rfl, Lib.hid (.inl ⟨rfl, rfl, fun m hm => by simp at hm⟩), Lib.hid (Gr.refl _)⟩
  case round =>
    obtain ⟨k, hk, rfl, fb, rfl, HR, HG⟩ := hrel
    by_cases hlt : k < l.length
    · obtain ⟨b, o, rfl, c1, c2, c3, -⟩ := (HA.out.gr HG.out).at_ hlt
      obtain ⟨m, hm⟩ : ∃ m, l[k] = m := ⟨_, rfl⟩
      have hmem : m ∈ l := by rw [← hm]; exact List.getElem_mem hlt
      have hsz := HW.out m hmem
      have HTk : Hid (l.take (k + 1) = l.take k ++ [m]) := Lib.hid (by rw [List.take_succ_eq_append_getElem hlt, hm])
      rw [hm] at c1 c2 c3
      clear hm
      obtain ⟨mk, mn, mv⟩ := m
      simp only at c1 c2 c3 hsz
      have n3 : (k : Int) < (l.length : Int) := by omega
      have n4 : (0 : Int) ≤ (k : Int) := by omega
      obtain ⟨X, hX, g0, hb⟩ := fresh wr #[.int .i64 mk, .string mn, .string mv] 49
      have b0 := hb 0 (.int .i64 mk) rfl
      have b1 := hb 1 (.string mn) rfl
      have b2 := hb 2 (.string mv) rfl
      have HX := Lib.hid hX
      have HGX := Lib.hid (HG.out.trans g0)
      have sX := HGX.out.cell HS1.out
      obtain ⟨NX, hNX⟩ : ∃ n, wr.heap.size = n := ⟨_, rfl⟩
      clear hb hX g0
      go_upto_region 6 with fail
      rw [HX.out]
      rw [hNX] at b0 b1 b2
      clear c1 c2 c3 hNX
      by_cases hk1 : mk = 1
      case neg =>
        have e1 : (mk != 1) = true := by simpa using hk1
        have HS := Lib.hid (HR.out.skip (m := ⟨mk, mn, mv⟩) (fun h => hk1 h.1))
        rw [← HTk.out] at HS
        clear hk1
        go_wp2_with fail
        go_roundw
        case rel => exact ⟨k + 1, by omega, by go_num, _, rfl, HS, HGX⟩
        case measure => simp [intOf]; omega
      have e1 : (mk != 1) = false := by simpa using hk1
      by_cases hv0 : mv.size = 0
      case pos =>
        have HS := Lib.hid (HR.out.skip (m := ⟨mk, mn, mv⟩) (fun h => h.2 hv0))
        rw [← HTk.out] at HS
        obtain rfl := empty_eq hv0
        clear hk1 hv0
        go_wp2_with fail
        go_roundw
        case rel => exact ⟨k + 1, by omega, by go_num, _, rfl, HS, HGX⟩
        case measure => simp [intOf]; omega
      obtain ⟨p1, p2, p3⟩ := ne_facts (by omega : 0 < mv.size)
      obtain ⟨o2, nr, B, l1, l2, ho⟩ := HROW.out mn mv hsz.1 hsz.2
      have L1 : ∀ n, (Instr.lookup 89 (.map (some M)) (.string mn) false).run Tryz.prog (X.drewN n) = .ok (.map o2) (X.drewN n) := fun n => l1 _ (HG0.out.trans (HGX.out.drewN n))
      have L2 : ∀ n, (Instr.lookup 104 (.map o2) (.string mv) false).run Tryz.prog (X.drewN n) = .ok (Nr.v nr) (X.drewN n) := fun n => l2 _ (HG0.out.trans (HGX.out.drewN n))
      have HY : Hid (RarP w0 gs (l.take (k + 1)) (Nr.v nr) true) := Lib.hid (.inr ⟨rfl, ⟨mk, mn, mv⟩, by rw [HTk.out]; simp, ⟨hk1, hv0⟩, B, nr, rfl, ho⟩)
      obtain ⟨na, nn, nc, hnr⟩ := nr.form
      rw [hnr] at L2 HY
      clear l1 l2 ho hnr hk1 hv0
      go_wp2_with fail
      go_quiet (fail)
      obtain ⟨ba, bn, bc, rfl⟩ := HR.out.form
      have HK : fb = true → Hid (RarP w0 gs (l.take (k + 1)) (.slice ba bn bc) true) := fun h => by
        have h2 := (h ▸ HR.out).keep (m := ⟨mk, mn, mv⟩)
        rw [← HTk.out] at h2
        exact Lib.hid h2
      cases fb with
      | false =>
        clear HK
        go_wp2_with fail
        go_roundw
        case rel => exact ⟨k + 1, by omega, by go_num, _, rfl, HY, Lib.hid (HGX.out.drewN _)⟩
        case measure => simp [intOf]; omega
      | true =>
        have HK2 := HK rfl
        clear HK
        by_cases hlen : nn < bn
        · have d1 : ((nn : Int) < (bn : Int)) := by omega
          go_wp2_with fail
          go_roundw
          case rel => exact ⟨k + 1, by omega, by go_num, _, rfl, HY, Lib.hid (HGX.out.drewN _)⟩
          case measure => simp [intOf]; omega
        · have d1 : ¬ ((nn : Int) < (bn : Int)) := by omega
          go_wp2_with fail
          go_roundw
          case rel => exact ⟨k + 1, by omega, by go_num, _, rfl, HK2, Lib.hid (HGX.out.drewN _)⟩
          case measure => simp [intOf]; omega
    · obtain rfl : k = l.length := by omega
      have n3 : ¬ (l.length : Int) < (l.length : Int) := by omega
      have HE : Hid (RarP w0 gs l u6 fb) := Lib.hid (by have := HR.out; rwa [List.take_length] at this)
      go_wp2
      go_ret2
      exact ⟨HG.out, _, _, rfl, HE.out⟩
theorem rarest_any (S : Nat) (gs : List Se) (A : Option Addr) (l : List Mt) (c : Nat) (w : World) (h : StAt w S gs) (hA : MatsAt w A l) (hw : ∀ x ∈ l, x.n.size ≤ maxLen ∧ x.v.size ≤ maxLen) (hl : l.length ≤ 1000) :
    Calls Tryz.prog 66 #[.pointer (some ⟨S, 0, none⟩), .slice A l.length c] w fun e w' => Gr w w' ∧ RarQ w gs l e := rarest_any0 S gs A l c w w (Gr.refl _) h hA hw hl
end Go.Proofs.YtoooaipbkkiefaaGreatDoor
namespace Go.Proofs.YtoooaipbkkiefaaGreatDoor
open Go.RowKit
set_option maxRecDepth 100000
set_option maxHeartbeats 1000000

/-- the texts are such as the model has -/
def Wm (l : List Mt) : Prop := ∀ x ∈ l, x.n.size ≤ maxLen ∧ x.v.size ≤ maxLen
/-- what is wrong with matchers -/
def checkL : List Mt → Int
  | [] => 0
  | m :: r => if checkM m = 0 then checkL r else checkM m
def checkA (l : List Mt) : Int := if checkL l = 0 then (if 32 < l.length then 1 else 0) else checkL l
theorem checkL_step {l : List Mt} {k : Nat} (h : k < l.length) : checkL (l.drop k) = if checkM l[k] = 0 then checkL (l.drop (k + 1)) else checkM l[k] := by
  rw [List.drop_eq_getElem_cons h]; rfl
theorem mcheck_any (A : Option Addr) (l : List Mt) (c : Nat) (w : World) (h : MatsAt w A l) (hw : Wm l) (hl : l.length ≤ 1099511627776) :
    Calls Tryz.prog 27 #[.slice A l.length c] w fun e w' => e = .returned (.int .i64 (checkA l)) ∧ Gr w w' := by
  have HL := Lib.hid h
  have HW := Lib.hid hw
  clear h hw
  go_enter Tryz.func27, Tryz.ntmps27
  go_wp2
  go_loopw [8] (fun i wr => ∃ k : Nat, k ≤ l.length ∧ i = .int .i64 k ∧ Hid (checkL l = checkL (l.drop k)) ∧ Gr w wr) (fun i _ => l.length - (intOf i).toNat)
  case atStart => exact ⟨0, Nat.zero_le _, rfl, rfl, Gr.refl _⟩
  case round =>
    obtain ⟨k, hk, rfl, HR, hg⟩ := hrel
    by_cases hlt : k < l.length
    · obtain ⟨b, o, rfl, c1, c2, c3, -⟩ := (HL.out.gr hg).at_ hlt
      have HS := Lib.hid (checkL_step hlt)
      have hm := HW.out l[k] (List.getElem_mem hlt)
      obtain ⟨⟨mk, mn, mv⟩, hx⟩ : ∃ x, l[k] = x := ⟨_, rfl⟩
      rw [hx] at c1 c2 c3 HS hm
      have CM : Hid (∀ W, Calls Tryz.prog 62 #[.agg #[.int .i64 mk, .string mn, .string mv]] W fun e w' => e = .returned (.int .i64 (checkM ⟨mk, mn, mv⟩)) ∧ Gr W w') := Lib.hid (fun W => check_mat ⟨mk, mn, mv⟩ W hm.1 hm.2)
      obtain ⟨x, hxe⟩ : ∃ x, checkM ⟨mk, mn, mv⟩ = x := ⟨_, rfl⟩
      rw [hxe] at CM HS
      clear hx hm hxe
      by_cases h0 : x = 0
      · subst h0
        have HN : Hid (checkL l = checkL (l.drop (k + 1))) := Lib.hid (by rw [HR.out, HS.out]; rfl)
        go_wp2_with fail
        refine (CM.out _).mono ?_
        rintro e w1 ⟨rfl, g1⟩
        have hg1 : Gr w w1 := (hg.alloc _ _).trans g1
        clear g1
        go_wp2
        go_roundw
        case rel => exact ⟨k + 1, by omega, by go_num, HN, hg1⟩
        case measure => simp [intOf]; omega
      · have hb : (x != 0) = true := by simpa using h0
        have HN : Hid (checkA l = x) := Lib.hid (by unfold checkA; rw [HR.out, HS.out, if_neg h0, if_neg h0])
        clear h0
        go_wp2_with fail
        refine (CM.out _).mono ?_
        rintro e w1 ⟨rfl, g1⟩
        have hg1 : Gr w w1 := (hg.alloc _ _).trans g1
        clear g1
        go_wp2
        go_ret
        exact ⟨by rw [HN.out]; rfl, hg1⟩
    · obtain rfl : k = l.length := by omega
      have HZ : Hid (checkL l = 0) := Lib.hid (by rw [HR.out, List.drop_length]; rfl)
      by_cases h32 : 32 < l.length
      · have HN : Hid (checkA l = 1) := Lib.hid (by unfold checkA; rw [if_pos HZ.out, if_pos h32])
        have n1 : (32 : Int) < (l.length : Int) := by omega
        go_wp2
        go_ret
        exact ⟨by rw [HN.out]; rfl, hg⟩
      · have HN : Hid (checkA l = 0) := Lib.hid (by unfold checkA; rw [if_pos HZ.out, if_neg h32])
        have n1 : ¬ (32 : Int) < (l.length : Int) := by omega
        go_wp2
        go_ret
        exact ⟨by rw [HN.out]; rfl, hg⟩
end Go.Proofs.YtoooaipbkkiefaaGreatDoor
namespace Go.Proofs.YtoooaipbkkiefaaGreatDoor
open Go.RowKit Go.Maps Go.WideMaps
set_option maxRecDepth 100000
set_option maxHeartbeats 2000000

/-! matchers as cells -/
def encM (m : Mt) : List Value := [.int .i64 m.k, .string m.n, .string m.v]
theorem mflat_len (l : List Mt) : (l.flatMap encM).length = l.length * 3 := by
  induction l with
  | nil => rfl
  | cons x r ih => rw [List.flatMap_cons, List.length_append, ih, List.length_cons]; simp [encM]; omega
theorem mflat_cells : ∀ (l : List Mt) (i : Nat) (x : Mt), l[i]? = some x → (l.flatMap encM)[i * 3]? = some (.int .i64 x.k) ∧ (l.flatMap encM)[i * 3 + 1]? = some (.string x.n) ∧ (l.flatMap encM)[i * 3 + 2]? = some (.string x.v)
  | [], i, x, h => by simp at h
  | y :: r, 0, x, h => by
    simp at h; subst h
    simp [encM]
  | y :: r, i + 1, x, h => by
    rw [List.getElem?_cons_succ] at h
    obtain ⟨h1, h2, h3⟩ := mflat_cells r i x h
    have e : ∀ j, (i + 1) * 3 + j = (encM y).length + (i * 3 + j) := fun j => by simp [encM]; omega
    rw [List.flatMap_cons]
    refine ⟨?_, ?_, ?_⟩
    · rw [show (i + 1) * 3 = (encM y).length + i * 3 from e 0, List.getElem?_append_right (by omega), Nat.add_sub_cancel_left]; exact h1
    · rw [e 1, List.getElem?_append_right (by omega), Nat.add_sub_cancel_left]; exact h2
    · rw [e 2, List.getElem?_append_right (by omega), Nat.add_sub_cancel_left]; exact h3
theorem mflat_one (l : List Mt) : (l.flatMap encM).all (·.oneCell') = true := by
  rw [List.all_eq_true]
  intro v hv
  obtain ⟨m, -, hm⟩ := List.mem_flatMap.1 hv
  simp [encM] at hm
  rcases hm with rfl | rfl | rfl <;> rfl
theorem mflat_at {W : World} {b o : Nat} {l : List Mt} (h : MatsAt W (some ⟨b, o, none⟩) l) : ∀ j u, (l.flatMap encM)[j]? = some u → W.cell? ⟨b, o + j, none⟩ = some u := by
  intro j u hu
  have hj : j < l.length * 3 := by have := (List.getElem?_eq_some_iff.1 hu).1; rwa [mflat_len] at this
  obtain ⟨b', o', e, hc⟩ := h (by omega)
  injection e with e; injection e with e1 e2; subst e1; subst e2
  have hi : j / 3 < l.length := by omega
  have hx := List.getElem?_eq_getElem hi
  obtain ⟨c1, c2, c3⟩ := hc _ _ hx
  obtain ⟨g1, g2, g3⟩ := mflat_cells l _ _ hx
  have hm : j % 3 = 0 ∨ j % 3 = 1 ∨ j % 3 = 2 := by omega
  rcases hm with e | e | e
  · have e2 : j / 3 * 3 = j := by omega
    rw [e2] at c1 g1
    rw [hu] at g1; cases g1; exact c1
  · have e2 : j / 3 * 3 + 1 = j := by omega
    rw [Nat.add_assoc, e2] at c2
    rw [e2] at g2
    rw [hu] at g2; cases g2; exact c2
  · have e2 : j / 3 * 3 + 2 = j := by omega
    rw [Nat.add_assoc, e2] at c3
    rw [e2] at g3
    rw [hu] at g3; cases g3; exact c3
theorem mat_info : (Tryz.prog.info? 49).map (fun i => (i.zero, i.size, i.bytes)) = some (some (.agg #[.int .i64 0, .string ⟨#[]⟩, .string ⟨#[]⟩]), 3, 40) := by kernel_rfl
theorem mats_of_own {W : World} {base n : Nat} {v : Value} {l : List Mt} (h : W.ownsRow base 49 3 v n (l.flatMap encM)) (h0 : 0 < l.length) :
    ∃ g c, v = .slice (some ⟨g, 0, none⟩) l.length c ∧ base ≤ g ∧ l.length ≤ c ∧ c ≤ maxLen ∧ MatsAt W (some ⟨g, 0, none⟩) l := by
  have hl := h.1
  rw [mflat_len] at hl
  have hn : n = l.length := by omega
  have hcell := fun g (hg : v.ownBlock = some g) => h.cells hg
  rcases h.2 with ⟨_, e0⟩ | ⟨g, cap, cur, rfl, hb, hg, hnc, hm, hs, ht⟩
  · omega
  · subst hn
    refine ⟨g, cap, rfl, hb, hnc, hm, fun _ => ⟨g, 0, rfl, fun i x hx => ?_⟩⟩
    have hadd : ∀ j, (⟨g, 0, none⟩ : Addr).add j = ⟨g, j, none⟩ := fun j => by unfold Addr.add; split <;> simp_all
    obtain ⟨c1, c2, c3⟩ := mflat_cells l i x hx
    have d1 := hcell g rfl _ _ c1
    have d2 := hcell g rfl _ _ c2
    have d3 := hcell g rfl _ _ c3
    rw [hadd] at d1 d2 d3
    rw [Nat.zero_add]
    exact ⟨d1, d2, d3⟩
theorem mclone_any (A : Option Addr) (c : Nat) (l : List Mt) (w : World) (h : MatsAt w A l) (hl : l.length ≤ 1099511627776) :
    Calls Tryz.prog 28 #[.slice A l.length c] w fun e w' => ∃ A' c', e = .returned (.slice A' l.length c') ∧ MatsAt w' A' l ∧ Gr w w' := by
  by_cases h0 : 0 < l.length
  · obtain ⟨b, o, rfl, -⟩ := h h0
    obtain ⟨i0, hi, hz0, hz1, hz2⟩ := info_parts mat_info
    have hcon := AnyE.slices_Clone Tryz.cloneM i0 (.agg #[.int .i64 0, .string ⟨#[]⟩, .string ⟨#[]⟩]) 3 40 hi hz0 hz1 hz2 rfl (by omega) Tryz.sizeOf49 b o l.length c (l.flatMap encM) w (mflat_len l) (by unfold maxLen; omega) (by omega) (mflat_at h) (fun u hu => List.all_eq_true.1 (mflat_one l) u hu)
    change Calls Tryz.prog 28 _ _ _ at hcon
    refine hcon.mono fun e w' ⟨v', he, hown, _, hb⟩ => ?_
    obtain ⟨g, c', rfl, hg, h1, h2, hR⟩ := mats_of_own hown h0
    exact ⟨_, c', he, hR, ⟨hb⟩⟩
  · have hn : l.length = 0 := by omega
    obtain rfl := List.eq_nil_of_length_eq_zero hn
    have q22 : ∀ (w : World) (a : Option Addr) (n c n' c' : Nat), (binOp .eql 23 (.slice a n c) (.slice none n' c')).run Tryz.prog w = .ok (.bool a.isNone) w := fun w a n c n' c' => Lib.run_eql_slice_nil w _ _ a n c n' c' Tryz.underlying23
    show Calls Tryz.prog 28 #[.slice A 0 c] w _
    cases A with
    | none =>
      go_enter Tryz.func28, Tryz.ntmps28
      go_wp2
      go_ret
      exact ⟨none, 0, rfl, fun h => absurd h (by simp), Gr.refl _⟩
    | some a =>
      go_enter Tryz.func28, Tryz.ntmps28
      go_wp2
      go_ret
      exact ⟨_, _, rfl, fun h => absurd h (by simp), (Gr.refl _).alloc _ _⟩

/-! programs in a map -/
/-- a program's datum: its block's number -/
def progElem (v : Value) : Option (DataW Unit × List MemPlace) := match v with
  | .pointer none => some (.lit (.int .i64 (-1)), [])
  | .pointer (some ⟨b, 0, none⟩) => some (.lit (.int .i64 b), [])
  | _ => none
theorem progElem_nil : progElem (.pointer none) = some (.lit (.int .i64 (-1)), []) := rfl
theorem progElem_mk (b : Nat) : progElem (.pointer (some ⟨b, 0, none⟩)) = some (.lit (.int .i64 b), []) := rfl
theorem progElem_inv {v : Value} {b : Nat} {ps : List MemPlace} (h : progElem v = some (.lit (.int .i64 b), ps)) : v = .pointer (some ⟨b, 0, none⟩) := by
  unfold progElem at h
  split at h
  · simp at h
  · rename_i c
    simp at h
    obtain rfl : c = b := by omega
    rfl
  · cases h
/-- the map's key -/
def kOf (s : ByteArray) : Lit := .string s.data.toList
/-- the programs of a row of matchers lie in the map at block M -/
structure Progs (W : World) (M : Nat) (l : List Mt) : Prop where
  m : ∃ n D, n ≤ l.length ∧ W.ownsMap Tryz.prog 9 progElem M n D ∧ ∀ x ∈ l, hasP x.k = true → ∃ (b : Nat) (t : Nd), treeS x.v.data.toList = .inl t ∧ D.atKey (kOf x.v) (.lit (.int .i64 (-1))) = .lit (.int .i64 b) ∧ Pat W b t
theorem strKey_m : Keyed Tryz.prog 9 := string_keyed Tryz.underlying9
theorem kOf_key (s : ByteArray) (hs : s.size ≤ maxLen) : keyOf Tryz.prog 9 (.string s) = some (kOf s) := keyOf_string_mk Tryz.underlying9 hs
/-- a set of matchers -/
structure SetB (W : World) (S : Nat) (l : List Mt) : Prop where
  s : ∃ A c M, W.heap[S]? = some (.cells #[.slice A l.length c, .map (some M)] 77 (0, 0)) ∧ MatsAt W A l ∧ Progs W M l
theorem Gr.grown {W W' : World} (g : Gr W W') : W.grownBy W' none := ⟨g.b.os, g.b.tape, g.b.output, g.b.size, fun i hi _ => g.b.block i hi⟩
theorem Progs.gr {W W' : World} {M : Nat} {l : List Mt} (h : Progs W M l) (g : Gr W W') : Progs W' M l := by
  obtain ⟨n, D, hn, ho, hp⟩ := h.m
  refine ⟨n, D, hn, ho.kept g.grown (by simp), fun x hx hk => ?_⟩
  obtain ⟨b, t, h1, h2, h3⟩ := hp x hx hk
  exact ⟨b, t, h1, h2, h3.gr g⟩
theorem SetB.gr {W W' : World} {S : Nat} {l : List Mt} (h : SetB W S l) (g : Gr W W') : SetB W' S l := by
  obtain ⟨A, c, M, h1, h2, h3⟩ := h.s
  exact ⟨A, c, M, (g.b.block S (Array.getElem?_eq_some_iff.1 h1).1).trans h1, h2.gr g, h3.gr g⟩
theorem ne_map {W : World} {M c : Nat} {es ck cs t f} (h : W.heap[M]? = some (.map es ck)) (h2 : W.heap[c]? = some (.cells cs t f)) : c ≠ M := by
  rintro rfl
  rw [h] at h2
  cases h2
theorem Pat.onMap {W W' : World} {P M : Nat} {n : Nd} (h : Pat W P n) (o : W.grownBy W' (some M)) {es ck} (hM : W.heap[M]? = some (.map es ck)) : Pat W' P n := by
  refine ⟨?_, h.w, h.t⟩
  obtain ⟨v, h1, h2⟩ := h.p
  refine ⟨v, (o.block _ (Array.getElem?_eq_some_iff.1 h1).1 (fun e => ne_map hM h1 (Option.some.inj e))).trans h1, h2.keep fun c e => o.block c (h2.lt c e).2 (fun e' => ?_)⟩
  obtain ⟨vs, -, h3, -⟩ := h2
  rcases h3.2 with ⟨e1, -⟩ | ⟨g, cap, cur, e1, -, hg, -⟩
  · rw [e1] at e; cases e
  · rw [e1] at e
    obtain rfl := Option.some.inj e
    exact ne_map hM hg (Option.some.inj e')
/-- one program more -/
theorem progs_put {W W' : World} {b : Nat} {D : DataW Unit} {l : List Mt} {x : Mt} {t : Nd} (hD : IsMap D) (hp : ∀ y ∈ l, hasP y.k = true → ∃ (b : Nat) (t : Nd), treeS y.v.data.toList = .inl t ∧ D.atKey (kOf y.v) (.lit (.int .i64 (-1))) = .lit (.int .i64 b) ∧ Pat W b t)
    (ht : treeS x.v.data.toList = .inl t) (hP : Pat W b t) (keep : ∀ P n, Pat W P n → Pat W' P n) :
    ∀ y ∈ l ++ [x], hasP y.k = true → ∃ (b' : Nat) (t : Nd), treeS y.v.data.toList = .inl t ∧ (D.put (kOf x.v) (.lit (.int .i64 b))).atKey (kOf y.v) (.lit (.int .i64 (-1))) = .lit (.int .i64 b') ∧ Pat W' b' t := by
  intro y hy hk
  by_cases e : kOf y.v = kOf x.v
  · rw [e]
    have e2 : y.v.data.toList = x.v.data.toList := by unfold kOf at e; injection e
    exact ⟨b, t, by rw [e2]; exact ht, atKey_put_same hD (show WideAt.IsKeyLit (.string _) from trivial) _ _, keep _ _ hP⟩
  · rcases List.mem_append.1 hy with h | h
    · obtain ⟨b', t', h1, h2, h3⟩ := hp y h hk
      exact ⟨b', t', h1, by rw [atKey_put_other e]; exact h2, keep _ _ h3⟩
    · rw [List.mem_singleton] at h
      rw [h] at e
      exact absurd rfl e
def NewPost (l : List Mt) (w : World) (e : Ending) (w' : World) : Prop :=
  Gr w w' ∧ if checkA l = 0 then ∃ S, e = .returned (.tuple #[.pointer (some ⟨S, 0, none⟩), .int .i64 0]) ∧ SetB w' S l else e = .returned (.tuple #[.pointer none, .int .i64 (checkA l)])
/-- on the way: the set's block S behind the start, the map's M -/
structure NewAt (w W : World) (S M : Nat) (A : Option Addr) (c : Nat) (l : List Mt) (k : Nat) : Prop where
  g : Gr w W
  s : W.heap[S]? = some (.cells #[.slice A l.length c, .map (some M)] 77 (0, 0))
  h : w.heap.size ≤ M
  a : MatsAt W A l
  m : ∃ n D, n ≤ k ∧ W.ownsMap Tryz.prog 9 progElem M n D ∧ ∀ x ∈ l.take k, hasP x.k = true → ∃ (b : Nat) (t : Nd), treeS x.v.data.toList = .inl t ∧ D.atKey (kOf x.v) (.lit (.int .i64 (-1))) = .lit (.int .i64 b) ∧ Pat W b t
theorem NewAt.gr {w W W' : World} {S M : Nat} {A : Option Addr} {c : Nat} {l : List Mt} {k : Nat} (h : NewAt w W S M A c l k) (g : Gr W W') : NewAt w W' S M A c l k := by
  obtain ⟨n, D, hn, ho, hp⟩ := h.m
  exact ⟨h.g.trans g, (g.b.block S (Array.getElem?_eq_some_iff.1 h.s).1).trans h.s, h.h, h.a.gr g, n, D, hn, ho.kept g.grown (by simp), fun x hx hk => by
    obtain ⟨b, t, h1, h2, h3⟩ := hp x hx hk
    exact ⟨b, t, h1, h2, h3.gr g⟩⟩
theorem NewAt.skip {w W : World} {S M : Nat} {A : Option Addr} {c : Nat} {l : List Mt} {k : Nat} (h : NewAt w W S M A c l k) (hk : k < l.length) (hp : hasP l[k].k = false) : NewAt w W S M A c l (k + 1) := by
  obtain ⟨n, D, hn, ho, hq⟩ := h.m
  refine ⟨h.g, h.s, h.h, h.a, n, D, by omega, ho, fun x hx hxk => ?_⟩
  rw [List.take_succ_eq_append_getElem hk] at hx
  rcases List.mem_append.1 hx with hx | hx
  · exact hq x hx hxk
  · rw [List.mem_singleton] at hx
    rw [hx, hp] at hxk
    cases hxk
theorem NewAt.put {w W : World} {S M b : Nat} {A : Option Addr} {c : Nat} {l : List Mt} {k : Nat} {t : Nd} (h : NewAt w W S M A c l k) (hk : k < l.length) (hl : l.length ≤ 1099511627776) (hs : l[k].v.size ≤ maxLen) (ht : treeS l[k].v.data.toList = .inl t) (hP : Pat W b t) :
    ∃ W', (Instr.mapUpdate 75 (.map (some M)) (.string l[k].v) (.pointer (some ⟨b, 0, none⟩))).run Tryz.prog W = .ok () W' ∧ NewAt w W' S M A c l (k + 1) ∧ W.grownBy W' (some M) := by
  obtain ⟨n, D, hn, ho, hq⟩ := h.m
  obtain ⟨W', hr, ho', hg⟩ := ho.update strKey_m Tryz.underlying75 (by unfold maxLen; omega) (kOf_key _ hs) (progElem_mk b)
  have hD := ho.isMap
  obtain ⟨es, ck, hM, -⟩ := ho
  have hS : S ≠ M := ne_map hM h.s
  have hcell : ∀ {x o : Nat} {v : Value}, W.cell? ⟨x, o, none⟩ = some v → W'.cell? ⟨x, o, none⟩ = some v := fun {x o v} hc => by
    have hne : x ≠ M := by
      rintro rfl
      unfold World.cell? at hc
      rw [hM] at hc
      simp at hc
    exact (hg.cell (a := ⟨x, o, none⟩) hc (by show some x ≠ some M; simpa using hne))
  refine ⟨W', hr, ⟨h.g.only hg h.h, (hg.block S (Array.getElem?_eq_some_iff.1 h.s).1 (by simpa using hS)).trans h.s, h.h, fun h0 => ?_, n + 1, _, by omega, ho', ?_⟩, hg⟩
  · obtain ⟨b', o, e, hc⟩ := h.a h0
    exact ⟨b', o, e, fun i x hx => ⟨hcell (hc i x hx).1, hcell (hc i x hx).2.1, hcell (hc i x hx).2.2⟩⟩
  · rw [List.take_succ_eq_append_getElem hk]
    exact progs_put hD hq ht hP (fun P n hp => hp.onMap hg hM)
theorem NewAt.done {w W : World} {S M : Nat} {A : Option Addr} {c : Nat} {l : List Mt} (h : NewAt w W S M A c l l.length) : SetB W S l := by
  obtain ⟨n, D, hn, ho, hq⟩ := h.m
  rw [List.take_length] at hq
  exact ⟨A, c, M, h.s, h.a, ⟨n, D, hn, ho, hq⟩⟩
theorem NewAt.facts {w W : World} {S M : Nat} {A : Option Addr} {c : Nat} {l : List Mt} {k : Nat} (h : NewAt w W S M A c l k) : W.cell? ⟨S, 1, none⟩ = some (.map (some M)) ∧ S < W.heap.size := ⟨cell_of_row W S 1 _ _ (0, 0) h.s, (Array.getElem?_eq_some_iff.1 h.s).1⟩
end Go.Proofs.YtoooaipbkkiefaaGreatDoor
namespace Go.Proofs.YtoooaipbkkiefaaGreatDoor
open Go.RowKit Go.Maps Go.WideMaps
set_option maxRecDepth 100000
set_option maxHeartbeats 4000000

theorem new_err (A : Option Addr) (l : List Mt) (c : Nat) (w : World) (h : MatsAt w A l) (hw : Wm l) (hl : l.length ≤ 1099511627776) (hc : ¬ checkA l = 0) :
    Calls Tryz.prog 9 #[.slice A l.length c] w (NewPost l w) := by
  have CK := Lib.hid (fun W g => mcheck_any A l c W (h.gr g) hw hl)
  have HE : Hid (∀ w', Gr w w' → NewPost l w (.returned (.tuple #[.pointer none, .int .i64 (checkA l)])) w') := Lib.hid (fun w' g => ⟨g, by rw [if_neg hc]⟩)
  have hb : (checkA l != 0) = true := by simpa using hc
  obtain ⟨x, hx⟩ : ∃ x, checkA l = x := ⟨_, rfl⟩
  rw [hx] at CK HE hb
  clear hx hc h hw
  go_enter Tryz.func9, Tryz.ntmps9
  go_wp2_with fail
  refine (CK.out _ (Gr.refl _)).mono ?_
  rintro e w1 ⟨rfl, g1⟩
  go_wp2
  go_ret2
  exact HE.out _ g1
theorem new_ok (A : Option Addr) (l : List Mt) (c : Nat) (w : World) (h : MatsAt w A l) (hw : Wm l) (hl : l.length ≤ 1099511627776) (hc : checkA l = 0) (ht : ∀ x ∈ l, hasP x.k = true → ∃ t, treeS x.v.data.toList = .inl t) :
    Calls Tryz.prog 9 #[.slice A l.length c] w (NewPost l w) := by
  have CK : Hid (∀ W, Gr w W → Calls Tryz.prog 27 #[.slice A l.length c] W fun e w' => e = .returned (.int .i64 0) ∧ Gr W w') := Lib.hid (fun W g => by
    have := mcheck_any A l c W (h.gr g) hw hl
    rwa [hc] at this)
  have CC := Lib.hid (fun W g => mclone_any A c l W (h.gr g) hl)
  have HE : Hid (∀ S w', Gr w w' → SetB w' S l → NewPost l w (.returned (.tuple #[.pointer (some ⟨S, 0, none⟩), .int .i64 0])) w') := Lib.hid (fun S w' g hs => ⟨g, by rw [if_pos hc]; exact ⟨S, rfl, hs⟩⟩)
  have HL := Lib.hid h
  have HW := Lib.hid hw
  have HT := Lib.hid ht
  have hmm := @run_makeMap Tryz.prog
  clear hc h hw ht
  go_enter Tryz.func9, Tryz.ntmps9
  go_wp2_with fail
  refine (CK.out _ (Gr.refl _)).mono ?_
  rintro e w1 ⟨rfl, g1⟩
  go_wp2_with fail
  refine (CC.out _ g1).mono ?_
  rintro e w2 ⟨A', c', rfl, hA, g2⟩
  have hz1 := g1.size
  have hz2 := g2.size
  have H0 : Hid (NewAt w ((w2.alloc (.map #[] 0)).alloc (.cells #[.slice A' l.length c', .map (some w2.heap.size)] 77)) (w2.heap.size + 1) w2.heap.size A' c' l 0) := Lib.hid (by
    have gm : Gr w2 (w2.alloc (.map #[] 0)) := ⟨(Below.refl _ _).alloc (Nat.le_refl _) _⟩
    have hm := World.ownsMap_made w2 Tryz.prog 9 progElem
    refine ⟨(g1.trans (g2.trans gm)).alloc _ _, ?_, by omega, hA.gr (gm.alloc _ _), 0, .map [], Nat.le_refl _, hm.alloc _, fun x hx => by simp at hx⟩
    have := heap_alloc_new (w2.alloc (.map #[] 0)) (.cells #[.slice A' l.length c', .map (some w2.heap.size)] 77)
    simpa using this)
  clear hz1 hz2 hA g1 g2 CK CC
  go_wp2
  obtain ⟨M, hM⟩ : ∃ M, w2.heap.size = M := ⟨_, rfl⟩
  rw [hM] at H0 ⊢
  obtain ⟨W0, hW0⟩ : ∃ W0, (w2.alloc (.map #[] 0)).alloc (.cells #[.slice A' l.length c', .map (some M)] 77) = W0 := ⟨_, rfl⟩
  rw [hW0] at H0 ⊢
  clear hW0 hM hmm
  go_loopw [20] (fun i wr => ∃ k : Nat, k ≤ l.length ∧ i = .int .i64 k ∧ Hid (NewAt w wr (M + 1) M A' c' l k)) (fun i _ => l.length - (intOf i).toNat)
  case atStart => exact ⟨0, Nat.zero_le _, rfl, H0⟩
  case round =>
    clear H0
    obtain ⟨k, hk, rfl, HN⟩ := hrel
    by_cases hlt : k < l.length
    · obtain ⟨b, o, rfl, c1, c2, c3, -⟩ := (HL.out.gr HN.out.g).at_ hlt
      have hm := HW.out l[k] (List.getElem_mem hlt)
      have ht := HT.out l[k] (List.getElem_mem hlt)
      have n3 : (k : Int) < (l.length : Int) := by omega
      cases hp : hasP l[k].k
      · have HS := Lib.hid (fun (W : World) (g : Gr wr W) => (HN.out.gr g).skip hlt hp)
        obtain ⟨⟨mk, mn, mv⟩, hx⟩ : ∃ x, l[k] = x := ⟨_, rfl⟩
        rw [hx] at c1 c2 c3 hp
        have CH : Hid (∀ W, Calls Tryz.prog 29 #[.int .i64 mk] W fun e w' => e = .returned (.bool false) ∧ W = w') := Lib.hid (by have := hasPat_any mk; rwa [hp] at this)
        clear hx hp hm ht
        go_wp2_with fail
        refine (CH.out _).mono ?_
        rintro e w3 ⟨rfl, rfl⟩
        go_wp2
        go_roundw
        case rel => exact ⟨k + 1, by omega, by go_num, Lib.hid (HS.out _ ((Gr.refl wr).alloc _ _))⟩
        case measure => simp [intOf]; omega
      · obtain ⟨t, ht⟩ := ht hp
        have hs0 := fun (W : World) (b : Nat) (g : Gr wr W) (hP : Pat W b t) => (HN.out.gr g).put hlt hl hm.2 ht hP
        obtain ⟨f1, f2⟩ := HN.out.facts
        have hv1 := hm.2
        obtain ⟨⟨mk, mn, mv⟩, hx⟩ : ∃ x, l[k] = x := ⟨_, rfl⟩
        rw [hx] at c1 c2 c3 hp ht hv1 hs0
        simp only at ht hs0
        have HS := Lib.hid hs0
        clear hs0
        have CH : Hid (∀ W, Calls Tryz.prog 29 #[.int .i64 mk] W fun e w' => e = .returned (.bool true) ∧ W = w') := Lib.hid (by have := hasPat_any mk; rwa [hp] at this)
        have hsz : mv.size ≤ 1000000 := by
          have h4 := (treeS_ok ht)
          have : mv.size = mv.data.toList.length := by simp
          unfold treeS at ht
          split at ht
          · cases ht
          · omega
        have CT := Lib.hid (fun W => tree_yes ht hsz W)
        clear hx hp hm ht hv1 hsz
        go_upto_region 9 with (go_at_call 29; refine (CH.out _).mono ?_; rintro e w3 ⟨rfl, rfl⟩)
        have f3 : (wr.alloc (.cells #[.int .i64 mk, .string mn, .string mv] 49)).drew.cell? ⟨M + 1, 1, none⟩ = some (.map (some M)) := ((Gr.refl wr).alloc _ _).drew.cell f1
        have f4 : (wr.alloc (.cells #[.int .i64 mk, .string mn, .string mv] 49)).drew.cell? ⟨wr.heap.size, 2, none⟩ = some (.string mv) := by go_simp
        have HG : Hid (Gr wr (wr.alloc (.cells #[.int .i64 mk, .string mn, .string mv] 49)).drew) := Lib.hid ((Gr.refl wr).alloc _ _).drew
        clear c1 c2 c3 CH f1
        go_region_held3 (fun w' => w'.cell? ⟨M + 1, 1, none⟩ = some (.map (some M)) ∧ w'.cell? ⟨wr.heap.size, 2, none⟩ = some (.string mv))
          (first | exact ⟨k5, k6⟩ | exact ⟨k3, k4⟩ | exact ⟨f3, f4⟩ | go_keep)
          (first
            | (go_at_call 30
               refine (CT.out _).mono ?_
               rintro e w4 ⟨g4, P, rfl, hP⟩
               obtain ⟨W5, hr5, hn5, hg5⟩ := HS.out w4 P (HG.out.trans g4) hP
               have k3 := g4.cell f3
               have k4 := g4.cell f4
               have k5 := hn5.facts.1
               have k6 := hg5.cell (a := ⟨wr.heap.size, 2, none⟩) k4 (by show some wr.heap.size ≠ some M; simp; omega)
               have HN5 := Lib.hid hn5
               clear hP hn5 hg5))
        all_goals
          go_wp2
          go_roundw
          case rel => exact ⟨k + 1, by omega, by go_num, HN5⟩
          case measure => simp [intOf]; omega
    · obtain rfl : k = l.length := by omega
      have HD := Lib.hid HN.out.done
      have HG := Lib.hid HN.out.g
      have n3 : ¬ (l.length : Int) < (l.length : Int) := by omega
      clear HN
      go_wp2
      go_ret2
      exact HE.out _ _ HG.out HD.out
end Go.Proofs.YtoooaipbkkiefaaGreatDoor
namespace Go.Proofs.YtoooaipbkkiefaaGreatDoor
open Go.RowKit Go.Maps Go.WideMaps
set_option maxRecDepth 100000
set_option maxHeartbeats 2000000

theorem treeS_err {s : List UInt8} {k c : Nat} (h : treeS s = .inr (k, c)) : c = 2 ∨ c = 6 := by
  unfold treeS at h
  split at h
  · cases h; exact .inr rfl
  · split at h
    · cases h; exact .inr rfl
    · split at h
      · cases h
      · cases h; exact .inl rfl
theorem checkM_tree {m : Mt} (h : checkM m = 0) (hp : hasP m.k = true) : ∃ t, treeS m.v.data.toList = .inl t := by
  unfold checkM at h
  split at h
  · cases h
  · unfold errT at h
    split at h
    · exact ⟨_, ‹_›⟩
    · rename_i c e
      rcases treeS_err e with r | r <;> subst r <;> simp at h
theorem checkL_all {l : List Mt} (h : checkL l = 0) : ∀ x ∈ l, checkM x = 0 := by
  induction l with
  | nil => intro x hx; cases hx
  | cons y r ih =>
    unfold checkL at h
    by_cases hy : checkM y = 0
    · rw [if_pos hy] at h
      intro x hx
      rcases List.mem_cons.1 hx with rfl | hx
      · exact hy
      · exact ih h x hx
    · rw [if_neg hy] at h
      exact absurd h hy
theorem checkA_all {l : List Mt} (h : checkA l = 0) : (∀ x ∈ l, checkM x = 0) ∧ l.length ≤ 32 := by
  unfold checkA at h
  split at h
  · rename_i e
    split at h
    · cases h
    · exact ⟨checkL_all e, by omega⟩
  · rename_i e; exact absurd h e
theorem new_any (A : Option Addr) (l : List Mt) (c : Nat) (w : World) (h : MatsAt w A l) (hw : Wm l) (hl : l.length ≤ 1099511627776) :
    Calls Tryz.prog 9 #[.slice A l.length c] w (NewPost l w) := by
  by_cases hc : checkA l = 0
  · exact new_ok A l c w h hw hl hc (fun x hx hp => checkM_tree ((checkA_all hc).1 x hx) hp)
  · exact new_err A l c w h hw hl hc
/-- does a pattern's text match? -/
def likeB (p v : ByteArray) : Bool := match treeS p.data.toList with | .inl t => hits t v.data.toList | .inr _ => false
def holdM (m : Mt) (v : ByteArray) : Bool := if m.k = 1 then (v.toList == m.v.toList) else if m.k = 2 then !(v.toList == m.v.toList) else if m.k = 3 then likeB m.v v else !likeB m.v v
theorem SetB.prog {W : World} {S : Nat} {l : List Mt} (h : SetB W S l) {m : Mt} (hm : m ∈ l) (hp : hasP m.k = true) (hs : m.v.size ≤ maxLen) :
    ∃ M b t, W.cell? ⟨S, 1, none⟩ = some (.map (some M)) ∧ Pat W b t ∧ (∀ v : ByteArray, likeB m.v v = hits t v.data.toList) ∧ ∀ W', Gr W W' → (Instr.lookup 75 (.map (some M)) (.string m.v) false).run Tryz.prog W' = .ok (.pointer (some ⟨b, 0, none⟩)) W' := by
  obtain ⟨A, c, M, h1, h2, h3⟩ := h.s
  obtain ⟨n, D, hn, ho, hq⟩ := h3.m
  obtain ⟨b, t, e1, e2, e3⟩ := hq m hm hp
  refine ⟨M, b, t, cell_of_row W S 1 _ _ (0, 0) h1, e3, fun v => by unfold likeB; rw [e1], fun W' g => ?_⟩
  obtain ⟨v, ps, hr, hv⟩ := (ho.kept g.grown (by simp)).lookup strKey_m Tryz.underlying75 (z := .pointer none) (by kernel_rfl) progElem_nil (kOf_key m.v hs)
  rw [e2] at hv
  rw [progElem_inv hv] at hr
  exact hr
theorem holds_plain (S : Nat) (m : Mt) (v : ByteArray) (w : World) (hk : m.k = 1 ∨ m.k = 2) :
    Calls Tryz.prog 67 #[.pointer (some ⟨S, 0, none⟩), m.val, .string v] w fun e w' => e = .returned (.bool (holdM m v)) ∧ Gr w w' := by
  obtain ⟨k, n, mv⟩ := m
  simp only at hk
  show Calls Tryz.prog 67 #[.pointer (some ⟨S, 0, none⟩), .agg #[.int .i64 k, .string n, .string mv], .string v] w _
  rcases hk with rfl | rfl
  · have HE : Hid (holdM ⟨1, n, mv⟩ v = (v.toList == mv.toList)) := Lib.hid (by unfold holdM; simp)
    go_enter Tryz.func67, Tryz.ntmps67
    go_wp2
    go_ret
    exact ⟨by rw [HE.out]; rfl, (Gr.refl w).alloc _ _⟩
  · have HE : Hid (holdM ⟨2, n, mv⟩ v = !(v.toList == mv.toList)) := Lib.hid (by unfold holdM; simp)
    go_enter Tryz.func67, Tryz.ntmps67
    go_wp2
    go_ret
    exact ⟨by rw [HE.out]; rfl, (Gr.refl w).alloc _ _⟩
theorem holds_like (S : Nat) (l : List Mt) (m : Mt) (v : ByteArray) (w : World) (h : SetB w S l) (hm : m ∈ l) (hs : m.v.size ≤ maxLen) (hv : v.size ≤ 1000000000000) (hk : m.k = 3 ∨ m.k = 4) :
    Calls Tryz.prog 67 #[.pointer (some ⟨S, 0, none⟩), m.val, .string v] w fun e w' => e = .returned (.bool (holdM m v)) ∧ Gr w w' := by
  obtain ⟨M, b, t, c1, hP, hlk, hrun⟩ := h.prog hm (by unfold hasP; rcases hk with e | e <;> rw [e] <;> rfl) hs
  have hS : S < w.heap.size := World.block_lt_of_cell? w _ c1
  have hh : likeB m.v v = hits t v.data.toList := hlk v
  clear hlk h hm hs
  obtain ⟨k, n, mv⟩ := m
  simp only at hk hrun hh
  show Calls Tryz.prog 67 #[.pointer (some ⟨S, 0, none⟩), .agg #[.int .i64 k, .string n, .string mv], .string v] w _
  have HG : Hid (Gr w (w.alloc (.cells #[.int .i64 k, .string n, .string mv] 49)).drew) := Lib.hid ((Gr.refl w).alloc _ _).drew
  have f1 := HG.out.cell c1
  have f2 : (w.alloc (.cells #[.int .i64 k, .string n, .string mv] 49)).drew.cell? ⟨w.heap.size, 2, none⟩ = some (.string mv) := by go_simp
  have f3 := hrun _ HG.out
  have CM := Lib.hid (fun W (g : Gr w W) => pat_match (hP.gr g) v hv)
  rw [← hh] at CM
  obtain ⟨x, hx⟩ : ∃ x, likeB mv v = x := ⟨_, rfl⟩
  rw [hx] at CM
  clear hh hP c1 hrun hv
  rcases hk with rfl | rfl
  · have HE : Hid (holdM ⟨3, n, mv⟩ v = x) := Lib.hid (by unfold holdM; simp [hx])
    clear hx
    go_enter Tryz.func67, Tryz.ntmps67
    go_upto_region 7 with fail
    go_region_held3 (fun w' => w'.cell? ⟨S, 1, none⟩ = some (.map (some M)) ∧ w'.cell? ⟨w.heap.size, 2, none⟩ = some (.string mv))
      (first | exact ⟨k1, k2⟩ | exact ⟨f1, f2⟩ | go_keep)
      (first
        | (go_at_call 98
           refine (CM.out _ HG.out).mono ?_
           rintro e w4 ⟨rfl, g4⟩
           have k1 := g4.cell f1
           have k2 := g4.cell f2))
    all_goals
      go_wp2
      go_ret
      exact ⟨by rw [HE.out]; rfl, HG.out.trans g4⟩
  · have HE : Hid (holdM ⟨4, n, mv⟩ v = !x) := Lib.hid (by unfold holdM; simp [hx])
    clear hx
    go_enter Tryz.func67, Tryz.ntmps67
    go_upto_region 8 with fail
    go_region_held3 (fun w' => w'.cell? ⟨S, 1, none⟩ = some (.map (some M)) ∧ w'.cell? ⟨w.heap.size, 2, none⟩ = some (.string mv))
      (first | exact ⟨k1, k2⟩ | exact ⟨f1, f2⟩ | go_keep)
      (first
        | (go_at_call 98
           refine (CM.out _ HG.out).mono ?_
           rintro e w4 ⟨rfl, g4⟩
           have k1 := g4.cell f1
           have k2 := g4.cell f2))
    all_goals
      go_wp2
      go_ret
      exact ⟨by rw [HE.out]; rfl, HG.out.trans g4⟩
end Go.Proofs.YtoooaipbkkiefaaGreatDoor
namespace Go.Proofs.YtoooaipbkkiefaaGreatDoor
open Go.RowKit Go.Maps Go.WideMaps
set_option maxRecDepth 100000
set_option maxHeartbeats 4000000

theorem kind_of {m : Mt} (h : checkM m = 0) : m.k = 1 ∨ m.k = 2 ∨ m.k = 3 ∨ m.k = 4 := by
  rcases kind_cases m.k with e | e | e | e | e
  · exact .inl e
  · exact .inr (.inl e)
  · exact .inr (.inr (.inl e))
  · exact .inr (.inr (.inr e))
  · exfalso
    unfold checkM at h
    rw [if_pos (.inl e.2.2.2.2.1)] at h
    cases h
theorem holds_any (S : Nat) (l : List Mt) (m : Mt) (v : ByteArray) (w : World) (h : SetB w S l) (hm : m ∈ l) (hs : m.v.size ≤ maxLen) (hv : v.size ≤ 1000000000000) (hc : checkM m = 0) :
    Calls Tryz.prog 67 #[.pointer (some ⟨S, 0, none⟩), .agg #[.int .i64 m.k, .string m.n, .string m.v], .string v] w fun e w' => e = .returned (.bool (holdM m v)) ∧ Gr w w' := by
  rcases kind_of hc with e | e | e | e
  · exact holds_plain S m v w (.inl e)
  · exact holds_plain S m v w (.inr e)
  · exact holds_like S l m v w h hm hs hv (.inl e)
  · exact holds_like S l m v w h hm hs hv (.inr e)
theorem getL_size_m {l : List Lb} (n : ByteArray) (h : ∀ x ∈ l, x.2.size ≤ 1000000000000) : (getL l n).size ≤ 1000000000000 := by
  induction l with
  | nil => exact Nat.zero_le _
  | cons x r ih =>
    unfold getL
    split
    · exact h x (List.mem_cons_self ..)
    · exact ih fun y hy => h y (List.mem_cons_of_mem _ hy)
/-- do all matchers hold of a list of labels? -/
def matchL (l : List Mt) (s : List Lb) : Bool := l.all fun m => holdM m (getL s m.n)
theorem matchL_step {l : List Mt} {k : Nat} (h : k < l.length) (s : List Lb) : matchL (l.drop k) s = (holdM l[k] (getL s l[k].n) && matchL (l.drop (k + 1)) s) := by
  unfold matchL
  rw [List.drop_eq_getElem_cons h, List.all_cons]
theorem SetB.row {W : World} {S : Nat} {l : List Mt} (h : SetB W S l) : ∃ A c, W.cell? ⟨S, 0, none⟩ = some (.slice A l.length c) ∧ MatsAt W A l := by
  obtain ⟨A, c, M, h1, h2, -⟩ := h.s
  exact ⟨A, c, cell_of_row W S 0 _ _ (0, 0) h1, h2⟩
theorem match_set (S : Nat) (l : List Mt) (B : Option Addr) (s : List Lb) (d : Nat) (w : World) (h : SetB w S l) (hw : Wm l) (hc : ∀ x ∈ l, checkM x = 0) (hn : l.length ≤ 32) (hB : LabsAt w B s) (hs : s.length ≤ 1099511627776) (hv : ∀ x ∈ s, x.2.size ≤ 1000000000000) :
    Calls Tryz.prog 33 #[.pointer (some ⟨S, 0, none⟩), .slice B s.length d] w fun e w' => e = .returned (.bool (matchL l s)) ∧ Gr w w' := by
  have CH := Lib.hid (fun (m : Mt) (v : ByteArray) W (g : Gr w W) (hm : m ∈ l) (hv : v.size ≤ 1000000000000) => holds_any S l m v W (h.gr g) hm (hw m hm).2 hv (hc m hm))
  have CG := Lib.hid (fun (n : ByteArray) W (g : Gr w W) => get_any B s d n W (hB.gr g) hs)
  have HV := Lib.hid (fun n => getL_size_m n hv)
  obtain ⟨A, c, c0, hA⟩ := h.row
  have HA := Lib.hid hA
  clear h hw hc hB hs hv hA
  go_enter Tryz.func33, Tryz.ntmps33
  go_wp2
  have HC := Lib.hid c0
  clear c0
  go_loopw [12] (fun i wr => ∃ k : Nat, k ≤ l.length ∧ i = .int .i64 k ∧ Hid (matchL l s = matchL (l.drop k) s) ∧ Gr w wr) (fun i _ => l.length - (intOf i).toNat)
  case atStart => exact ⟨0, Nat.zero_le _, rfl, rfl, Gr.refl _⟩
  case round =>
    obtain ⟨k, hk, rfl, HR, hg⟩ := hrel
    by_cases hlt : k < l.length
    · obtain ⟨b, o, rfl, c1, c2, c3, -⟩ := (HA.out.gr hg).at_ hlt
      have n3 : (k : Int) < (l.length : Int) := by omega
      have HS := Lib.hid (matchL_step hlt s)
      have hm := List.getElem_mem hlt
      have c4 := fun W g v hv => CH.out l[k] v W g hm hv
      obtain ⟨⟨mk, mn, mv⟩, hx⟩ : ∃ x, l[k] = x := ⟨_, rfl⟩
      rw [hx] at c1 c2 c3 HS c4
      simp only at c1 c2 c3 c4
      have C4 := Lib.hid c4
      have CG2 := Lib.hid (CG.out mn)
      have hgs := HV.out mn
      obtain ⟨v, hv⟩ : ∃ v, getL s mn = v := ⟨_, rfl⟩
      rw [hv] at CG2 hgs
      have HS2 : Hid (matchL (l.drop k) s = (holdM ⟨mk, mn, mv⟩ v && matchL (l.drop (k + 1)) s)) := Lib.hid (by rw [HS.out, hv])
      have HZ := Lib.hid hgs
      obtain ⟨x, hxe⟩ : ∃ x, holdM ⟨mk, mn, mv⟩ v = x := ⟨_, rfl⟩
      have C5 : Hid (∀ W, Gr w W → Calls Tryz.prog 67 #[.pointer (some ⟨S, 0, none⟩), .agg #[.int .i64 mk, .string mn, .string mv], .string v] W fun e w' => e = .returned (.bool x) ∧ Gr W w') := Lib.hid (fun W g => by rw [← hxe]; exact C4.out W g v HZ.out)
      rw [hxe] at HS2
      clear hx hm c4 C4 hv hgs HS hxe
      go_upto_region 4 with fail
      obtain ⟨W1, hW1⟩ : ∃ W1, (wr.alloc (.cells #[.int .i64 mk, .string mn, .string mv] 49)) = W1 := ⟨_, rfl⟩
      have g1 : Gr w W1 := by rw [← hW1]; exact hg.alloc _ _
      have f1 : W1.cell? ⟨wr.heap.size, 0, none⟩ = some (.int .i64 mk) := by subst hW1; go_simp
      have f2 : W1.cell? ⟨wr.heap.size, 1, none⟩ = some (.string mn) := by subst hW1; go_simp
      have f3 : W1.cell? ⟨wr.heap.size, 2, none⟩ = some (.string mv) := by subst hW1; go_simp
      rw [hW1]
      have HG1 := Lib.hid g1.drew
      clear hW1 c1 c2 c3 g1
      cases x
      all_goals
        go_region_held3 (fun w' => w'.cell? ⟨wr.heap.size, 0, none⟩ = some (.int .i64 mk) ∧ w'.cell? ⟨wr.heap.size, 1, none⟩ = some (.string mn) ∧ w'.cell? ⟨wr.heap.size, 2, none⟩ = some (.string mv))
          (first | exact ⟨j1, j2, j3⟩ | exact ⟨i1, i2, i3⟩ | exact ⟨f1, f2, f3⟩ | go_keep)
          (first
            | (go_at_call 68
               refine (CG2.out _ HG1.out).mono ?_
               rintro e w4 ⟨rfl, g4⟩
               have i1 := g4.cell (b := wr.heap.size) (o := 0) f1
               have i2 := g4.cell (b := wr.heap.size) (o := 1) f2
               have i3 := g4.cell (b := wr.heap.size) (o := 2) f3
               have HG4 := Lib.hid (HG1.out.trans g4)
               clear g4)
            | (go_at_call 67
               refine (C5.out _ HG4.out).mono ?_
               rintro e w5 ⟨rfl, g5⟩
               have j1 := g5.cell i1
               have j2 := g5.cell i2
               have j3 := g5.cell i3
               have HG5 := Lib.hid (HG4.out.trans g5)
               clear g5))
      · have HN : Hid (matchL l s = false) := Lib.hid (by rw [HR.out, HS2.out]; rfl)
        go_wp2
        go_ret
        exact ⟨by rw [HN.out]; rfl, HG5.out⟩
      · have HN : Hid (matchL l s = matchL (l.drop (k + 1)) s) := Lib.hid (by rw [HR.out, HS2.out]; rfl)
        go_wp2
        go_roundw
        case rel => exact ⟨k + 1, by omega, by go_num, HN, HG5.out⟩
        case measure => simp [intOf]; omega
    · obtain rfl : k = l.length := by omega
      have HN : Hid (matchL l s = true) := Lib.hid (by rw [HR.out, List.drop_length]; rfl)
      have n3 : ¬ (l.length : Int) < (l.length : Int) := by omega
      go_wp2
      go_ret
      exact ⟨by rw [HN.out]; rfl, hg⟩
end Go.Proofs.YtoooaipbkkiefaaGreatDoor
namespace Go.Proofs.YtoooaipbkkiefaaGreatDoor
open Go.RowKit Go.Maps Go.Sort
set_option maxRecDepth 100000
set_option maxHeartbeats 4000000
attribute [local irreducible] wpQuiet

/-! ### which series match -/
theorem prs_mem {gs : List Se} {k i : Nat} {x : Lb} : (i, x) ∈ prs gs k ↔ i < k ∧ ∃ s, gs[i]? = some s ∧ x ∈ s.1 := by
  unfold prs
  rw [List.mem_flatMap]
  constructor
  · rintro ⟨j, hj, h⟩
    rw [List.mem_range] at hj
    cases hs : gs[j]? with
    | none => rw [hs] at h; simp at h
    | some s =>
      rw [hs] at h
      obtain ⟨y, hy, e⟩ := List.mem_map.1 h
      injection e with e1 e2
      subst e1; subst e2
      exact ⟨hj, s, hs, hy⟩
  · rintro ⟨hi, s, hs, hx⟩
    refine ⟨i, List.mem_range.2 hi, ?_⟩
    rw [hs]
    exact List.mem_map_of_mem hx
theorem ixOf_mem {ps : List (Nat × Lb)} {n v : ByteArray} {i : Nat} : i ∈ ixOf ps n v ↔ (i, (n, v)) ∈ ps := by
  unfold ixOf
  rw [List.mem_map]
  constructor
  · rintro ⟨p, hp, rfl⟩
    obtain ⟨h1, h2⟩ := List.mem_filter.1 hp
    obtain ⟨e1, e2⟩ := of_decide_eq_true h2
    obtain ⟨a, b, c⟩ := p
    simp only at e1 e2
    subst e1; subst e2
    exact h1
  · intro h
    exact ⟨_, List.mem_filter.2 ⟨h, by simp⟩, rfl⟩
theorem prs_len {gs : List Se} (h : ∀ s ∈ gs, s.1.length ≤ 1000) : ∀ k, (prs gs k).length ≤ k * 1000
  | 0 => by simp [prs]
  | k + 1 => by
    have ih := prs_len h k
    cases hs : gs[k]? with
    | some s =>
      have h1 := h s (List.mem_of_getElem? hs)
      rw [prs_s hs, List.length_append, List.length_map]
      omega
    | none =>
      have : prs gs (k + 1) = prs gs k := by
        unfold prs
        rw [List.range_succ, List.flatMap_append]
        simp [hs]
      rw [this]
      omega
theorem getL_mem : ∀ {s : List Lb} {n : ByteArray}, (getL s n).size ≠ 0 → (n, getL s n) ∈ s
  | [], n, h => absurd rfl h
  | x :: r, n, h => by
    unfold getL at h ⊢
    by_cases e : (x.1.toList == n.toList) = true
    · rw [if_pos e] at h ⊢
      have e2 : x.1 = n := by
        have := eq_of_beq e
        rw [Lib.toList_data, Lib.toList_data] at this
        have h3 := Array.toList_inj.1 this
        cases hx : x.1; cases hn : n; rw [hx, hn] at h3; simp_all
      subst e2
      exact List.mem_cons_self ..
    · rw [if_neg e] at h ⊢
      exact List.mem_cons_of_mem _ (getL_mem h)
def hitS (gs : List Se) (l : List Mt) (i : Nat) : Bool := match gs[i]? with | some s => matchL l s.1 | none => false
def PPs (gs : List Se) (l : List Mt) (ns : List Nat) (f : Bool) : Prop := (f = false ∧ ns = []) ∨ (f = true ∧ ∃ m ∈ l, askM m ∧ ns = ixOf (prs gs gs.length) m.n m.v)
theorem pps_ok (gs : List Se) (l : List Mt) (ns : List Nat) (f : Bool) (q : List Nat) (h : PPs gs l ns f) (h1 : f = true → q = ns) (h2 : f = false → q = ns ++ List.range gs.length) :
    (∀ i ∈ q, i < gs.length) ∧ (∀ i, i < gs.length → hitS gs l i = true → i ∈ q) := by
  rcases h with ⟨rfl, rfl⟩ | ⟨rfl, m, hm, ha, rfl⟩
  · obtain rfl := h2 rfl
    exact ⟨fun i hi => by simpa using hi, fun i hi _ => by simpa using hi⟩
  · obtain rfl := h1 rfl
    refine ⟨fun i hi => (prs_mem.1 (ixOf_mem.1 hi)).1, fun i hi hh => ixOf_mem.2 (prs_mem.2 ⟨hi, ?_⟩)⟩
    unfold hitS at hh
    cases hs : gs[i]? with
    | none => rw [hs] at hh; cases hh
    | some s =>
      rw [hs] at hh
      have hq := List.all_eq_true.1 hh m hm
      unfold holdM at hq
      rw [if_pos ha.1] at hq
      have e : getL s.1 m.n = m.v := by
        have := eq_of_beq hq
        rw [Lib.toList_data, Lib.toList_data] at this
        have h3 := Array.toList_inj.1 this
        cases hx : getL s.1 m.n; cases hn : m.v; rw [hx, hn] at h3; simp_all
      refine ⟨s, rfl, ?_⟩
      have := getL_mem (s := s.1) (n := m.n) (by rw [e]; exact ha.2)
      rwa [e] at this

theorem rarI_any (S : Nat) (gs : List Se) (A : Option Addr) (l : List Mt) (c : Nat) (w0 w : World) (g0 : Gr w0 w) (h : StAt w0 S gs) (hA : MatsAt w A l) (hw : Wm l) (hl : l.length ≤ 1000) (hb : ∀ s ∈ gs, s.1.length ≤ 1000) :
    Calls Tryz.prog 66 #[.pointer (some ⟨S, 0, none⟩), .slice A l.length c] w (RarI (PPs gs l) w0 w) := by
  have hN : gs.length ≤ 1000 := by obtain ⟨_, _, _, _, _, _, _, h4⟩ := h; exact h4
  refine (rarest_any0 S gs A l c w0 w g0 h hA hw hl).mono ?_
  rintro e w' ⟨g, v, f, rfl, hr⟩
  refine ⟨g, ?_⟩
  rcases hr with ⟨rfl, rfl, -⟩ | ⟨rfl, m, hm, ha, B, nr, rfl, ho⟩
  · exact ⟨none, [], 0, false, rfl, fun h0 => absurd h0 (by simp), by simp, by simp, .inl ⟨rfl, rfl⟩⟩
  · obtain ⟨a, cc, e1, hi⟩ := ints_form ho
    refine ⟨a, _, cc, true, by rw [e1], hi, ?_, fun x hx => ?_, .inr ⟨rfl, m, hm, ha, rfl⟩⟩
    · unfold ixOf
      rw [List.length_map]
      have h1 := List.length_filter_le (fun p : Nat × Lb => decide (p.2.1 = m.n ∧ p.2.2 = m.v)) (prs gs gs.length)
      have h2 := prs_len hb gs.length
      omega
    · have := (prs_mem.1 (ixOf_mem.1 hx)).1
      omega
/-- All: the matchers -/
theorem all_any (M : Nat) (l : List Mt) (w : World) (h : SetB w M l) (hl : l.length ≤ 1099511627776) :
    Calls Tryz.prog 32 #[.pointer (some ⟨M, 0, none⟩)] w fun e w' => ∃ A' c', e = .returned (.slice A' l.length c') ∧ MatsAt w' A' l ∧ Gr w w' := by
  obtain ⟨A, c, c0, hA⟩ := h.row
  have CC := Lib.hid (fun W (g : Gr w W) => mclone_any A c l W (hA.gr g) hl)
  clear h hA
  go_enter Tryz.func32, Tryz.ntmps32
  go_wp2_with fail
  refine (CC.out _ (Gr.refl _)).mono ?_
  rintro e w' ⟨A', c', rfl, hm, g⟩
  have HM := Lib.hid hm
  obtain ⟨n, hn⟩ : ∃ n, l.length = n := ⟨_, rfl⟩
  rw [hn]
  have HN := Lib.hid hn
  clear hm hn
  go_wp2
  go_ret
  exact ⟨A', c', by rw [HN.out]; rfl, HM.out, g⟩
theorem select_any (S M : Nat) (gs : List Se) (l : List Mt) (w : World) (hS : StAt w S gs) (hM : SetB w M l) (hw : Wm l) (hc : ∀ x ∈ l, checkM x = 0) (hn : l.length ≤ 32) (hb : ∀ s ∈ gs, s.1.length ≤ 1000 ∧ ∀ x ∈ s.1, x.2.size ≤ 1000000000000) :
    Calls Tryz.prog 10 #[.pointer (some ⟨S, 0, none⟩), .pointer (some ⟨M, 0, none⟩)] w (SelP gs.length (hitS gs l) w) := by
  obtain ⟨A0, c0, Mp, cs, h1, h2, h3, h4⟩ := hS
  have hS : StAt w S gs := ⟨A0, c0, Mp, cs, h1, h2, h3, h4⟩
  refine sel_any (PPs gs l) S M l.length A0 gs.length c0 (hitS gs l) w (by omega) (cell_of_row w S 0 _ _ (0, 0) h1) (fun W g => ?_) (fun h0 => ?_) (pps_ok gs l)
  · refine (all_any M l W (hM.gr g) (by omega)).mono ?_
    rintro e w' ⟨A, c, rfl, hm, g'⟩
    exact ⟨g', A, c, rfl, fun W' g2 => rarI_any S gs A l c w' W' g2 (hS.gr (g.trans g')) (hm.gr g2) hw (by omega) (fun s hs => (hb s hs).1)⟩
  · obtain ⟨b, o, e, hc2⟩ := h2.row (by rw [h2.len]; exact h0)
    refine ⟨b, o, e, fun i hi => ?_⟩
    have hi2 : i < cs.length := by rw [h2.len]; exact hi
    have q1 := List.getElem?_eq_getElem hi2
    have q2 := List.getElem?_eq_getElem hi
    obtain ⟨hl, -⟩ := h2.s i _ _ q1 q2
    obtain ⟨t, ht⟩ : ∃ t, gs[i] = t := ⟨_, rfl⟩
    obtain ⟨y, hy⟩ : ∃ y, cs[i] = y := ⟨_, rfl⟩
    have hmem : t ∈ gs := by rw [← ht]; exact List.getElem_mem hi
    rw [hy] at hl q1
    rw [ht] at hl q2
    obtain ⟨d1, -⟩ := hc2 i y q1 _ _ rfl
    refine ⟨y.1.a, y.1.n, y.1.c, d1, fun W g => ?_⟩
    have hbt := hb t hmem
    have := match_set M l y.1.a t.1 y.1.c W (hM.gr g) hw hc hn (hl.2.gr g) (by omega) hbt.2
    rw [← hl.1] at this
    have e2 : hitS gs l i = matchL l t.1 := by unfold hitS; rw [q2]
    rw [e2]
    exact this
end Go.Proofs.YtoooaipbkkiefaaGreatDoor
namespace Go.Proofs.YtoooaipbkkiefaaGreatDoor
open Go.RowKit

theorem selN_lt (N : Nat) (fl : Nat → Bool) : (selN N fl).Pairwise (· < ·) := List.Pairwise.filter _ List.pairwise_lt_range
theorem selN_nodup (N : Nat) (fl : Nat → Bool) : (selN N fl).Nodup := (selN_lt N fl).imp fun {a b} h => by omega
theorem selN_mem {N : Nat} {fl : Nat → Bool} {i : Nat} : i ∈ selN N fl ↔ i < N ∧ fl i = true := by
  unfold selN; rw [List.mem_filter, List.mem_range]
theorem selN_len (N : Nat) (fl : Nat → Bool) : (selN N fl).length ≤ N := by
  have := List.length_filter_le fl (List.range N)
  rwa [List.length_range] at this
theorem selN_both {N : Nat} {f g h : Nat → Bool} (e : ∀ i, i < N → h i = (f i && g i)) : selN N h = (selN N f).filter g := by
  unfold selN
  rw [List.filter_filter]
  exact List.filter_congr fun i hi => by rw [e i (List.mem_range.1 hi), Bool.and_comm]
theorem selN_not {N : Nat} {f g : Nat → Bool} (e : ∀ i, i < N → g i = !f i) : (selN N f).length + (selN N g).length = N := by
  have e2 : selN N g = (List.range N).filter fun i => !f i := List.filter_congr fun i hi => e i (List.mem_range.1 hi)
  have h := (List.filter_append_perm f (List.range N)).length_eq
  rw [List.length_append, List.length_range] at h
  rw [e2]
  exact h
/-- how many have been found when i of p are done and j of q beside the next one -/
def fndN (p q : List Nat) (g : Nat → Bool) (i j : Nat) : Nat := ((p.take i).filter g).length + (if p[i]?.any (fun x => (q.take j).contains x) then 1 else 0)
theorem fnd_zero (p q : List Nat) (g : Nat → Bool) (i : Nat) : fndN p q g i 0 = ((p.take i).filter g).length := by
  unfold fndN; cases p[i]? <;> simp
theorem fnd_miss {p q : List Nat} {g : Nat → Bool} {i j : Nat} (hi : i < p.length) (hj : j < q.length) (h : p[i] ≠ q[j]) : fndN p q g i (j + 1) = fndN p q g i j := by
  have hm : p[i] ∈ q.take (j + 1) ↔ p[i] ∈ q.take j ∨ p[i] = q[j] := by rw [List.take_succ_eq_append_getElem hj, List.mem_append, List.mem_singleton]
  unfold fndN
  rw [List.getElem?_eq_getElem hi]
  simp [hm, h]
theorem fnd_hit {p q : List Nat} {g : Nat → Bool} {i j : Nat} (hq : q.Nodup) (hg : ∀ x ∈ q, g x = true) (hi : i < p.length) (hj : j < q.length) (h : p[i] = q[j]) :
    fndN p q g i (j + 1) = fndN p q g i j + 1 ∧ (p.filter g)[fndN p q g i j]? = some p[i] := by
  have hn : ¬ q[j] ∈ q.take j := fun hm => by
    obtain ⟨k, hk, e⟩ := List.mem_take_iff_getElem.1 hm
    have := (List.getElem_inj hq).1 e
    omega
  have e0 : fndN p q g i j = ((p.take i).filter g).length := by
    unfold fndN
    rw [List.getElem?_eq_getElem hi]
    simp [h, hn]
  refine ⟨?_, ?_⟩
  · rw [e0]
    have hm : p[i] ∈ q.take (j + 1) := by rw [List.take_succ_eq_append_getElem hj, List.mem_append, List.mem_singleton]; exact .inr h
    unfold fndN
    rw [List.getElem?_eq_getElem hi]
    simp [hm]
  · rw [e0]
    have e1 : p.filter g = (p.take i).filter g ++ (p[i] :: (p.drop (i + 1)).filter g) := by
      conv => lhs; rw [← List.take_append_drop i p, List.drop_eq_getElem_cons hi, List.filter_append]
      rw [List.filter_cons_of_pos (by rw [h]; exact hg _ (List.getElem_mem hj))]
    rw [e1, List.getElem?_append_right (Nat.le_refl _), Nat.sub_self]
    rfl
theorem fnd_end {p q : List Nat} {g : Nat → Bool} {i : Nat} (hq : ∀ x ∈ p, x ∈ q ↔ g x = true) (hi : i < p.length) : fndN p q g i q.length = ((p.take (i + 1)).filter g).length := by
  unfold fndN
  rw [List.getElem?_eq_getElem hi, List.take_length, List.take_succ_eq_append_getElem hi, List.filter_append, List.length_append]
  have h := hq _ (List.getElem_mem hi)
  by_cases hm : g p[i] = true
  · simp [hm, h.2 hm]
  · have : ¬ p[i] ∈ q := fun e => hm (h.1 e)
    simp [hm, this]
end Go.Proofs.YtoooaipbkkiefaaGreatDoor
namespace Go.Proofs.YtoooaipbkkiefaaGreatDoor
open Go.RowKit Go.Sort
set_option maxRecDepth 100000
set_option maxHeartbeats 4000000

/-- both stores hold gs -/
def MadePost (l : List Rwm) (w : World) (e : Ending) (w' : World) : Prop :=
  Gr w w' ∧ ((fewR l ∧ errA l = 0 ∧ ∃ S R v cs gs, e = .returned (.tuple #[.pointer (some ⟨S, 0, none⟩), .pointer (some ⟨R, 0, none⟩), .bool true]) ∧ StAt w' S gs ∧ (∃ wr, RSt wr w' R v cs gs) ∧ StL gs l)
    ∨ (¬ (fewR l ∧ errA l = 0) ∧ e = .returned (.tuple #[.pointer none, .pointer none, .bool false])))
theorem made_any (A : Option Addr) (c : Nat) (l : List Rwm) (w : World) (h : RawsAt w A l) (hw : WdR l) (hl : l.length ≤ maxLen) (hll : ∀ r ∈ l, r.l.length ≤ maxLen) (hk : Kn w) (ht : Tab w) :
    Calls Tryz.prog 6 #[.slice A l.length c] w (MadePost l w) := by
  have CF := Lib.hid (fewS_any A c l w h hw hl hll)
  by_cases hf : fewR l
  · have hwr := fewR_wr hf hw
    have CF1 : Hid (Calls Tryz.prog 22 #[.slice A l.length c] w fun e w' => e = .returned (.bool true) ∧ w = w') := Lib.hid (CF.out.mono fun e w' ⟨h1, h2⟩ => by
      rcases h2 with ⟨-, rfl⟩ | ⟨h3, -⟩
      · exact ⟨rfl, h1⟩
      · exact absurd hf h3)
    have CO := Lib.hid (fun W (g : Gr w W) => of_any A c l W (h.gr g) hwr.n)
    by_cases he : errA l = 0
    · obtain ⟨gs, huq⟩ : ∃ gs, ∀ g, StL g l → g = gs := by
        by_cases hx : ∃ g, StL g l
        · obtain ⟨g, hg⟩ := hx
          exact ⟨g, fun g' h' => h'.unique hg⟩
        · exact ⟨[], fun g hg => absurd ⟨g, hg⟩ hx⟩
      have CN : Hid (∀ W, Gr w W → Calls Tryz.prog 21 #[.slice A l.length c] W fun e w' => Gr W w' ∧ ∃ S, e = .returned (.tuple #[.pointer (some ⟨S, 0, none⟩), .int .i64 0]) ∧ StAt w' S gs ∧ StL gs l) := Lib.hid (fun W g => (newS_any A c l W (h.gr g) hwr (hk.gr g) (ht.gr g)).mono fun e w' ⟨h1, h2⟩ => by
        rw [if_pos he] at h2
        obtain ⟨S, g', rfl, h3, h4⟩ := h2
        have := huq g' h4
        subst this
        exact ⟨h1, S, rfl, h3, h4⟩)
      have CR : Hid (∀ W A' c', RawsAt W A' l → Calls Tryz.prog 23 #[.slice A' l.length c'] W fun e w' => Gr W w' ∧ ∃ R v cs, e = .returned (.tuple #[.pointer (some ⟨R, 0, none⟩), .int .i64 0]) ∧ RSt W w' R v cs gs) := Lib.hid (fun W A' c' h' => (rNew_any A' c' l W h' hwr).mono fun e w' ⟨h1, h2⟩ => by
        rw [if_pos he] at h2
        obtain ⟨R, v, cs, g', rfl, h3, h4⟩ := h2
        have := huq g' h4
        subst this
        exact ⟨h1, R, v, cs, rfl, h3⟩)
      have HF := Lib.hid hf; have HE := Lib.hid he
      have HP : Hid (∀ W S R v cs wr, Gr w W → StAt W S gs → RSt wr W R v cs gs → StL gs l → MadePost l w (.returned (.tuple #[.pointer (some ⟨S, 0, none⟩), .pointer (some ⟨R, 0, none⟩), .bool true])) W) := Lib.hid (fun W S R v cs wr g h1 h2 h3 => ⟨g, .inl ⟨HF.out, HE.out, S, R, v, cs, gs, rfl, h1, ⟨wr, h2⟩, h3⟩⟩)
      clear h hw hl hll hk ht hf he hwr huq CF
      go_enter Tryz.func6, Tryz.ntmps6
      go_wp2_with (first
        | (go_at_call 22; refine CF1.out.mono ?_; rintro e w' ⟨rfl, rfl⟩)
        | (go_at_call 24; refine (CO.out _ (Gr.refl _)).mono ?_; rintro e w3 ⟨g3, A3, c3, rfl, hr3⟩)
        | (go_at_call 23; refine (CR.out _ A3 c3 hr3).mono ?_; rintro e w4 ⟨g4, R, v, cs, rfl, hrs⟩)
        | (go_at_call 21; refine (CN.out _ (g3.trans g4)).mono ?_; rintro e w5 ⟨g5, S, rfl, hst, hsl⟩)
        | fail)
      go_ret3
      exact HP.out _ _ _ _ _ _ ((g3.trans g4).trans g5) hst (hrs.gr g5) hsl
    · have CR : Hid (∀ W A' c', RawsAt W A' l → Calls Tryz.prog 23 #[.slice A' l.length c'] W fun e w' => e = .returned (.tuple #[.pointer none, .int .i64 (errA l)]) ∧ Gr W w') := Lib.hid (fun W A' c' h' => (rNew_any A' c' l W h' hwr).mono fun e w' ⟨h1, h2⟩ => by
        rw [if_neg he] at h2
        exact ⟨h2, h1⟩)
      have hb : (errA l != 0) = true := by simpa using he
      have HP : Hid (∀ W, Gr w W → MadePost l w (.returned (.tuple #[.pointer none, .pointer none, .bool false])) W) := Lib.hid (fun W g => ⟨g, .inr ⟨fun h => he h.2, rfl⟩⟩)
      obtain ⟨d, hd⟩ : ∃ d, errA l = d := ⟨_, rfl⟩
      rw [hd] at CR hb he
      clear h hw hl hll hk ht hf hwr CF hd
      go_enter Tryz.func6, Tryz.ntmps6
      go_wp2_with (first
        | (go_at_call 22; refine CF1.out.mono ?_; rintro e w' ⟨rfl, rfl⟩)
        | (go_at_call 24; refine (CO.out _ (Gr.refl _)).mono ?_; rintro e w3 ⟨g3, A3, c3, rfl, hr3⟩)
        | (go_at_call 23; refine (CR.out _ A3 c3 hr3).mono ?_; rintro e w4 ⟨rfl, g4⟩)
        | fail)
      go_ret3
      exact HP.out _ (g3.trans g4)
  · have CF0 : Hid (Calls Tryz.prog 22 #[.slice A l.length c] w fun e w' => e = .returned (.bool false) ∧ w = w') := Lib.hid (CF.out.mono fun e w' ⟨h1, h2⟩ => by
      rcases h2 with ⟨h3, -⟩ | ⟨-, rfl⟩
      · exact absurd h3 hf
      · exact ⟨rfl, h1⟩)
    have HP : Hid (∀ W, Gr w W → MadePost l w (.returned (.tuple #[.pointer none, .pointer none, .bool false])) W) := Lib.hid (fun W g => ⟨g, .inr ⟨fun h => hf h.1, rfl⟩⟩)
    clear h hw hl hll hk ht hf CF
    go_enter Tryz.func6, Tryz.ntmps6
    go_wp2_with (first
      | (go_at_call 22; refine CF0.out.mono ?_; rintro e w' ⟨rfl, rfl⟩)
      | fail)
    go_ret3
    exact HP.out _ (Gr.refl _)
end Go.Proofs.YtoooaipbkkiefaaGreatDoor
namespace Go.Proofs.YtoooaipbkkiefaaGreatDoor
open Go.RowKit Go.Sort
set_option maxRecDepth 100000
set_option maxHeartbeats 2000000

def hexV (c : Nat) : Int := if 48 ≤ c ∧ c ≤ 57 then (c : Int) - 48 else if 97 ≤ c ∧ c ≤ 102 then (c : Int) - 87 else -1
def hexB (a b : UInt8) : Option UInt8 :=
  if hexV a.toNat < 0 ∨ hexV b.toNat < 0 then none else if prnI (16 * hexV a.toNat + hexV b.toNat) then none else some (UInt8.ofNat (16 * hexV a.toNat + hexV b.toNat).toNat)
def spellL : List UInt8 → Option (UInt8 × Nat)
  | [] => none
  | c :: r =>
    if c.toNat = 34 ∨ prnI c.toNat = false then none
    else if c.toNat ≠ 92 then some (c, 1)
    else match r with
      | [] => none
      | d :: r' => if d.toNat = 92 ∨ d.toNat = 34 then some (d, 2) else if d.toNat = 120 then (match r' with | a :: b :: _ => (hexB a b).map fun x => (x, 4) | _ => none) else none
def unqL : Nat → List UInt8 → List UInt8 → Nat → Option (List UInt8 × Nat)
  | 0, _, _, _ => none
  | f + 1, l, acc, k => match spellL l with
    | some (c, n) => unqL f (l.drop n) (acc ++ [c]) (k + n)
    | none => if l.head?.map (·.toNat) = some 34 then some (acc, k + 1) else none
def unquoteL (l : List UInt8) : Option (List UInt8 × Nat) := if l.head?.map (·.toNat) = some 34 then unqL (l.length + 1) (l.drop 1) [] 1 else none

theorem hexV_hexD : ∀ q : Fin 16, hexV (hexD q.val).toNat = (q.val : Int) := by decide +kernel
theorem toNat_eq {c : UInt8} {n : Nat} (h : c.toNat = n) : c = UInt8.ofNat n := by rw [← h]; simp
theorem spell_q (c : UInt8) (r : List UInt8) : spellL (qB c ++ r) = some (c, (qB c).length) := by
  unfold qB
  by_cases h1 : c.toNat = 92 ∨ c.toNat = 34
  · rw [if_pos h1]
    have e : prnI 92 = true := by decide
    simp only [List.cons_append, List.nil_append, spellL]
    rw [if_neg (by simp [e]), if_neg (by simp), if_pos h1]; rfl
  · rw [if_neg h1]
    cases h2 : prnI (c.toNat : Int)
    · have hc := c.toNat_lt
      have e : prnI 92 = true := by decide
      have g1 := hexV_hexD ⟨c.toNat / 16, by omega⟩
      have g2 := hexV_hexD ⟨c.toNat % 16, by omega⟩
      simp only at g1 g2
      have hs : 16 * ((c.toNat / 16 : Nat) : Int) + ((c.toNat % 16 : Nat) : Int) = (c.toNat : Int) := by omega
      have hx : hexB (hexD (c.toNat / 16)) (hexD (c.toNat % 16)) = some c := by
        unfold hexB
        rw [g1, g2, if_neg (by omega), hs, h2]
        simp
      simp only [Bool.false_eq_true, if_false, List.cons_append, List.nil_append, spellL]
      rw [if_neg (by simp [e]), if_neg (by simp), if_neg (by simp), if_pos (by simp), hx]; rfl
    · simp only [if_true, List.cons_append, List.nil_append, spellL]
      rw [if_neg (by simp [h2]; omega), if_pos (by omega)]; rfl
theorem unq_q : ∀ (s more acc : List UInt8) (f k : Nat), (s.flatMap qB ++ 34 :: more).length < f → unqL f (s.flatMap qB ++ 34 :: more) acc k = some (acc ++ s, k + (s.flatMap qB).length + 1)
  | [], more, acc, 0, k, h => absurd h (by omega)
  | [], more, acc, f + 1, k, h => by
    have : spellL (34 :: more) = none := by simp [spellL]
    simp [unqL, this]
  | c :: s, more, acc, 0, k, h => absurd h (by omega)
  | c :: s, more, acc, f + 1, k, h => by
    have e : (c :: s).flatMap qB ++ 34 :: more = qB c ++ (s.flatMap qB ++ 34 :: more) := by simp
    rw [e] at h ⊢
    have h1 := spell_q c (s.flatMap qB ++ 34 :: more)
    have h2 := qB_len c
    rw [List.length_append] at h
    simp only [unqL, h1]
    rw [List.drop_left, unq_q s more (acc ++ [c]) f (k + (qB c).length) (by omega)]
    simp [List.flatMap_cons]; omega
theorem unquote_quote (s more : List UInt8) : unquoteL (quoteL s ++ more) = some (s, (quoteL s).length) := by
  have e : quoteL s ++ more = 34 :: (s.flatMap qB ++ 34 :: more) := by simp [quoteL]
  unfold unquoteL
  rw [e, if_pos (by simp)]
  rw [show (34 :: (s.flatMap qB ++ 34 :: more)).drop 1 = s.flatMap qB ++ 34 :: more from rfl, unq_q s more [] _ 1 (by simp; omega)]
  simp [quoteL]; omega

/-! by places -/
section
variable (s : ByteArray) (k : Nat)
theorem dk (h : k < s.size) : s.data.toList.drop k = s[k] :: s.data.toList.drop (k + 1) := drop_byte s k h
theorem sp_end (h : s.size ≤ k) : spellL (s.data.toList.drop k) = none := by rw [List.drop_of_length_le (by simpa using h)]; rfl
theorem sp_no (h : k < s.size) (h1 : s[k].toNat = 34 ∨ prnI s[k].toNat = false) : spellL (s.data.toList.drop k) = none := by
  rw [dk s k h]; simp only [spellL]; rw [if_pos h1]
theorem sp_1 (h : k < s.size) (h1 : ¬ (s[k].toNat = 34 ∨ prnI s[k].toNat = false)) (h2 : s[k].toNat ≠ 92) : spellL (s.data.toList.drop k) = some (s[k], 1) := by
  rw [dk s k h]; simp only [spellL]; rw [if_neg h1, if_pos h2]
theorem bs_ok : ¬ ((92 : Nat) = 34 ∨ prnI ((92 : Nat) : Int) = false) := by decide
theorem sp_e1 (h : k < s.size) (h1 : s[k].toNat = 92) (h2 : s.size ≤ k + 1) : spellL (s.data.toList.drop k) = none := by
  rw [dk s k h, List.drop_of_length_le (by simpa using h2)]
  simp only [spellL, h1]; rw [if_neg bs_ok, if_neg (by simp)]
theorem sp_2 (h : k + 1 < s.size) (h1 : s[k].toNat = 92) (h2 : s[k + 1].toNat = 92 ∨ s[k + 1].toNat = 34) : spellL (s.data.toList.drop k) = some (s[k + 1], 2) := by
  rw [dk s k (by omega), dk s (k + 1) h]
  simp only [spellL, h1]; rw [if_neg bs_ok, if_neg (by simp), if_pos h2]
theorem sp_ex (h : k + 1 < s.size) (h1 : s[k].toNat = 92) (h2 : ¬ (s[k + 1].toNat = 92 ∨ s[k + 1].toNat = 34)) (h3 : s.size ≤ k + 3 ∨ s[k + 1].toNat ≠ 120) : spellL (s.data.toList.drop k) = none := by
  rw [dk s k (by omega), dk s (k + 1) h]
  simp only [spellL, h1]; rw [if_neg bs_ok, if_neg (by simp), if_neg h2]
  by_cases hx : s[k + 1].toNat = 120
  · rw [if_pos hx]
    have hs : s.size ≤ k + 3 := by rcases h3 with h3 | h3; exact h3; exact absurd hx h3
    by_cases h4 : k + 2 < s.size
    · rw [dk s (k + 1 + 1) (by omega), List.drop_of_length_le (by simp; omega)]
    · rw [List.drop_of_length_le (by simp; omega)]
  · rw [if_neg hx]
theorem sp_h (h : k + 3 < s.size) (h1 : s[k].toNat = 92) (h2 : s[k + 1].toNat = 120) : spellL (s.data.toList.drop k) = (hexB s[k + 2] s[k + 3]).map fun x => (x, 4) := by
  rw [dk s k (by omega), dk s (k + 1) (by omega), dk s (k + 1 + 1) (by omega), dk s (k + 1 + 1 + 1) (by omega)]
  simp only [spellL, h1, h2]; rw [if_neg bs_ok, if_neg (by simp), if_neg (by simp), if_pos (by simp)]
theorem unq_some {f : Nat} {acc : List UInt8} {c : UInt8} {n : Nat} (h : spellL (s.data.toList.drop k) = some (c, n)) : unqL (f + 1) (s.data.toList.drop k) acc k = unqL f (s.data.toList.drop (k + n)) (acc ++ [c]) (k + n) := by
  simp only [unqL, h, List.drop_drop]
theorem unq_none {f : Nat} {acc : List UInt8} (h : k < s.size) (h1 : spellL (s.data.toList.drop k) = none) : unqL (f + 1) (s.data.toList.drop k) acc k = if s[k].toNat = 34 then some (acc, k + 1) else none := by
  simp only [unqL, h1]
  rw [dk s k h]; simp
theorem unq_end {f : Nat} {acc : List UInt8} (h : s.size ≤ k) : unqL (f + 1) (s.data.toList.drop k) acc k = none := by
  simp only [unqL, sp_end s k h]
  rw [List.drop_of_length_le (by simpa using h)]; simp
end
end Go.Proofs.YtoooaipbkkiefaaGreatDoor
namespace Go.Proofs.YtoooaipbkkiefaaGreatDoor
open Go.RowKit Go.Sort
set_option maxRecDepth 100000
set_option maxHeartbeats 4000000

/-- a new row of bytes is the call's lb_own -/
theorem own_lit (w : World) (bs : List UInt8) (n : Nat) (cs : Array Value) (hn : n = bs.length) (h : cs = (Lib.byteCells bs).toArray) (hm : n ≤ maxLen) : Hid (OwnB (w.alloc (.cells cs 5)) w.heap.size (.slice (some ⟨w.heap.size, 0, none⟩) n n) bs) := by
  subst h hn
  refine Lib.hid ⟨by simp [Lib.byteCells], .inr ⟨w.heap.size, bs.length, _, rfl, Nat.le_refl _, heap_alloc_new w _, Nat.le_refl _, hm, by simp [Lib.byteCells], ?_⟩⟩
  rw [List.take_of_length_le (by simp [Lib.byteCells])]
theorem rGet_any (A : Option Addr) (l : List Lb) (c : Nat) (n : ByteArray) (w : World) (h : LabsAt w A l) (hl : l.length ≤ 1099511627776) :
    Calls Tryz.prog 39 #[.slice A l.length c, .string n] w fun e w' => e = .returned (.string (getL l n)) ∧ Gr w w' := by
  have HL := Lib.hid h
  clear h
  go_enter Tryz.func39, Tryz.ntmps39
  go_wp2
  go_loopw [5] (fun i wr => ∃ k : Nat, k ≤ l.length ∧ i = .int .i64 k ∧ Hid (getL l n = getL (l.drop k) n) ∧ Gr w wr) (fun i _ => l.length - (intOf i).toNat)
  case atStart => exact ⟨0, Nat.zero_le _, rfl, rfl, Gr.refl _⟩
  case round =>
    obtain ⟨k, hk, rfl, HR, hg⟩ := hrel
    by_cases hlt : k < l.length
    · obtain ⟨b, o, rfl, c1, c2, -⟩ := (HL.out.gr hg).at_ hlt
      have HS := Lib.hid (getL_step hlt n)
      obtain ⟨x, hx⟩ : ∃ x, l[k] = x := ⟨_, rfl⟩
      rw [hx] at c1 c2 HS
      clear hx
      cases e1 : (x.1.toList == n.toList)
      · have HN : Hid (getL l n = getL (l.drop (k + 1)) n) := Lib.hid (by rw [HR.out, HS.out, e1]; rfl)
        go_wp2
        go_roundw
        case rel => exact ⟨k + 1, by omega, by go_num, HN, hg⟩
        case measure => simp [intOf]; omega
      · have HN : Hid (getL l n = x.2) := Lib.hid (by rw [HR.out, HS.out, e1]; rfl)
        go_wp2
        go_ret
        exact ⟨by rw [HN.out]; rfl, hg⟩
    · obtain rfl : k = l.length := by omega
      have HN : Hid (getL l n = ⟨#[]⟩) := Lib.hid (by rw [HR.out, List.drop_length]; rfl)
      go_wp2
      go_ret
      exact ⟨by rw [HN.out]; rfl, hg⟩
end Go.Proofs.YtoooaipbkkiefaaGreatDoor
namespace Go.Proofs.YtoooaipbkkiefaaGreatDoor
open Go.RowKit
set_option maxRecDepth 100000
set_option maxHeartbeats 4000000

def textM (m : Mt) : ByteArray := if signL m.k = [] then ⟨#[]⟩ else m.n ++ ⟨(signL m.k).toArray⟩ ++ ⟨(quoteL m.v.data.toList).toArray⟩
theorem quote_size (s : ByteArray) (h : s.size ≤ 1000000) : (⟨(quoteL s.data.toList).toArray⟩ : ByteArray).size ≤ 4000002 := by
  have h1 : (⟨(quoteL s.data.toList).toArray⟩ : ByteArray).size = (quoteL s.data.toList).length := by show (quoteL s.data.toList).toArray.size = _; simp
  have h2 := qBs_len s.data.toList
  have h3 : s.data.toList.length = s.size := by simp
  rw [h1]
  unfold quoteL
  rw [List.length_cons, List.length_append]
  simp only [List.length_cons, List.length_nil]
  omega
end Go.Proofs.YtoooaipbkkiefaaGreatDoor
namespace Go.Proofs.YtoooaipbkkiefaaGreatDoor
open Go.RowKit Go.Maps Go.WideMaps
set_option maxRecDepth 100000
set_option maxHeartbeats 4000000

def ma : Mt := ⟨1, ⟨#[97]⟩, ⟨#[49]⟩⟩
def mb : Mt := ⟨4, ⟨#[98]⟩, ⟨#[120, 46, 42]⟩⟩
def mq : Mt := ⟨3, ⟨#[97]⟩, ⟨#[113]⟩⟩
def mz : Mt := ⟨0, ⟨#[]⟩, ⟨#[]⟩⟩
theorem km1 : checkA [ma, mb] = 0 := by kernel_rfl
theorem km2 : matchL [ma, mb] [(⟨#[97]⟩, ⟨#[49]⟩)] = true := by kernel_rfl
theorem km3 : matchL [ma, mb] [(⟨#[97]⟩, ⟨#[49]⟩), (⟨#[98]⟩, ⟨#[120, 121]⟩)] = false := by kernel_rfl
theorem km4 : textM mq = ⟨#[97, 61, 126, 34, 113, 34]⟩ := by kernel_rfl
theorem km5 : checkA [mz] = 1 := by kernel_rfl
theorem wm_small {l : List Mt} (h : ∀ x ∈ l, x.n.size ≤ 3 ∧ x.v.size ≤ 3) : Wm l := fun x hx => by
  have := h x hx
  unfold maxLen
  omega
/-- matchers in a block of their own -/
theorem mats_new {W : World} {N : Nat} {l : List Mt} (h : W.heap[N]? = some (.cells (l.flatMap encM).toArray 49 (0, 0))) : MatsAt W (some ⟨N, 0, none⟩) l := fun _ => by
  refine ⟨N, 0, rfl, fun i x hx => ?_⟩
  obtain ⟨c1, c2, c3⟩ := mflat_cells l i x hx
  have hc := fun j (v : Value) (hv : (l.flatMap encM)[j]? = some v) => (cell_of_row W N j _ _ (0, 0) h).trans (by simpa using hv)
  rw [Nat.zero_add]
  exact ⟨hc _ _ c1, hc _ _ c2, hc _ _ c3⟩
theorem labs_new {W : World} {N : Nat} {l : List Lb} (h : W.heap[N]? = some (.cells (l.flatMap fun x => [Value.string x.1, .string x.2]).toArray 53 (0, 0))) : LabsAt W (some ⟨N, 0, none⟩) l := fun _ => by
  refine ⟨N, 0, rfl, fun i x hx => ?_⟩
  have key : ∀ (l : List Lb) (i : Nat) (x : Lb), l[i]? = some x → (l.flatMap fun x => [Value.string x.1, .string x.2])[i * 2]? = some (.string x.1) ∧ (l.flatMap fun x => [Value.string x.1, .string x.2])[i * 2 + 1]? = some (.string x.2) := by
    intro l
    induction l with
    | nil => intro i x h; simp at h
    | cons y r ih =>
      intro i x h
      cases i with
      | zero => simp at h; subst h; simp
      | succ i =>
        rw [List.getElem?_cons_succ] at h
        obtain ⟨h1, h2⟩ := ih i x h
        rw [show (i + 1) * 2 = i * 2 + 1 + 1 by omega, show i * 2 + 1 + 1 + 1 = (i * 2 + 1) + 1 + 1 by omega, List.flatMap_cons]
        exact ⟨by simpa using h1, by simpa using h2⟩
  obtain ⟨c1, c2⟩ := key l i x hx
  have hc := fun j (v : Value) (hv : (l.flatMap fun x => [Value.string x.1, .string x.2])[j]? = some v) => (cell_of_row W N j _ _ (0, 0) h).trans (by simpa using hv)
  rw [Nat.zero_add]
  exact ⟨hc _ _ c1, hc _ _ c2⟩
/-- are matchers such that a play is worth its while? -/
def okS (m : Mt) : Bool := decide (m.n.size ≤ 300) && decide (m.v.size ≤ 300)
def mfewB (l : List Mt) : Bool := (l.take 41).all okS && decide ((l.length : Int) ≤ 40)
theorem mfewB_ok {l : List Mt} (h : mfewB l = true) : l.length ≤ 40 ∧ ∀ x ∈ l, x.n.size ≤ 300 ∧ x.v.size ≤ 300 := by
  unfold mfewB at h
  simp only [Bool.and_eq_true, decide_eq_true_eq] at h
  have hl : l.length ≤ 40 := by omega
  rw [List.take_of_length_le (by omega)] at h
  refine ⟨hl, fun x hx => ?_⟩
  have := List.all_eq_true.1 h.1 x hx
  unfold okS at this
  simpa using this
theorem mfew_any (A : Option Addr) (l : List Mt) (c : Nat) (w : World) (h : MatsAt w A l) (hw : Wm l) (hl : l.length ≤ maxLen) :
    Calls Tryz.prog 7 #[.slice A l.length c] w fun e w' => e = .returned (.bool (mfewB l)) ∧ w = w' := by
  unfold maxLen at hl
  have HL := Lib.hid h
  have HW := Lib.hid hw
  clear h hw
  go_enter Tryz.func7, Tryz.ntmps7
  go_wp2
  go_loop [3] (fun i => ∃ k : Nat, k ≤ l.length ∧ k ≤ 41 ∧ i = .int .i64 k ∧ Hid ((l.take 41).all okS = ((l.take 41).drop k).all okS)) (fun i => l.length - (intOf i).toNat)
  case atStart => exact ⟨0, Nat.zero_le _, by omega, rfl, rfl⟩
  case round =>
    obtain ⟨k, hk, hk2, rfl, HR⟩ := hrel
    by_cases hlt : k < l.length ∧ k ≤ 40
    · obtain ⟨hlt, hle⟩ := hlt
      have n1 : (k : Int) < (l.length : Int) := by omega
      have n2 : (k : Int) ≤ 40 := by omega
      obtain ⟨b, o, rfl, c1, c2, c3, -⟩ := HL.out.at_ hlt
      have HS : Hid (((l.take 41).drop k).all okS = (okS l[k] && ((l.take 41).drop (k + 1)).all okS)) := Lib.hid (by
        rw [List.drop_eq_getElem_cons (by rw [List.length_take]; omega), List.all_cons, List.getElem_take])
      have hm := HW.out l[k] (List.getElem_mem hlt)
      obtain ⟨⟨mk, mn, mv⟩, hx⟩ : ∃ x, l[k] = x := ⟨_, rfl⟩
      rw [hx] at c1 c2 c3 HS hm
      simp only at c1 c2 c3 hm
      clear hx
      unfold maxLen at hm
      obtain ⟨hm1, hm2⟩ := hm
      by_cases h1 : 300 < mn.size
      · have HN : Hid (mfewB l = false) := Lib.hid (by unfold mfewB; rw [HR.out, HS.out]; unfold okS; rw [decide_eq_false (by simpa using h1)]; rfl)
        have n3 : (300 : Int) < (mn.size : Int) := by omega
        go_wp2
        go_ret
        exact ⟨by rw [HN.out]; rfl, rfl⟩
      · have n3 : ¬ (300 : Int) < (mn.size : Int) := by omega
        by_cases h2 : 300 < mv.size
        · have HN : Hid (mfewB l = false) := Lib.hid (by unfold mfewB; rw [HR.out, HS.out]; unfold okS; rw [decide_eq_false (p := mv.size ≤ 300) (by simpa using h2), Bool.and_false]; rfl)
          have n4 : (300 : Int) < (mv.size : Int) := by omega
          go_wp2
          go_ret
          exact ⟨by rw [HN.out]; rfl, rfl⟩
        · have n4 : ¬ (300 : Int) < (mv.size : Int) := by omega
          have HN : Hid ((l.take 41).all okS = ((l.take 41).drop (k + 1)).all okS) := Lib.hid (by rw [HR.out, HS.out]; unfold okS; rw [decide_eq_true (by simpa using h1), decide_eq_true (by simpa using h2)]; rfl)
          go_wp2
          go_round
          case rel => exact ⟨k + 1, by omega, by omega, by go_num, HN⟩
          case measure => simp [intOf]; omega
    · have HN : Hid (mfewB l = decide ((l.length : Int) ≤ 40)) := Lib.hid (by
        unfold mfewB
        rw [HR.out, List.drop_of_length_le (by rw [List.length_take]; omega)]
        rfl)
      have key : ¬ (k : Int) < (l.length : Int) ∨ ((k : Int) < (l.length : Int) ∧ ¬ (k : Int) ≤ 40) := by omega
      clear hlt
      rcases key with n1 | ⟨n1, n2⟩
      all_goals
        go_wp2
        go_ret
        exact ⟨by rw [HN.out]; rfl, rfl⟩
end Go.Proofs.YtoooaipbkkiefaaGreatDoor
namespace Go.Proofs.YtoooaipbkkiefaaGreatDoor
open Go.RowKit Go.Sort
set_option maxRecDepth 100000
set_option maxHeartbeats 8000000
attribute [local irreducible] wpQuiet

/-! ### what the calls answer, in one form each -/
/-- match.New: an error, a set -/
def NewV (l : List Mt) (w : World) (e : Ending) (w' : World) : Prop := Gr w w' ∧ ∃ p, e = .returned (.tuple #[.pointer p, .int .i64 (checkA l)]) ∧ (checkA l = 0 → ∃ S, p = some ⟨S, 0, none⟩ ∧ SetB w' S l)
theorem newV_any (l : List Mt) (N : Nat) (W : World) (h : W.heap[N]? = some (.cells (l.flatMap encM).toArray 49 (0, 0))) (hw : Wm l) (hl : l.length ≤ 1000) :
    Calls Tryz.prog 9 #[.slice (some ⟨N, 0, none⟩) l.length l.length] W (NewV l W) := by
  refine (new_any _ l l.length W (mats_new h) hw (by omega)).mono ?_
  rintro e w' ⟨g, h⟩
  refine ⟨g, ?_⟩
  by_cases hc : checkA l = 0
  · rw [if_pos hc] at h
    obtain ⟨S, h1, h2⟩ := h
    exact ⟨_, by rw [hc]; exact h1, fun _ => ⟨S, rfl, h2⟩⟩
  · rw [if_neg hc] at h
    exact ⟨none, h, fun e => absurd e hc⟩
/-- Made: nothing, or a store -/
def MadeV (_l : List Rwm) (w : World) (e : Ending) (w' : World) : Prop := Gr w w' ∧ ∃ p q k, e = .returned (.tuple #[.pointer p, .pointer q, .bool k]) ∧
  (k = true → ∃ S gs, p = some ⟨S, 0, none⟩ ∧ StAt w' S gs ∧ ∀ s ∈ gs, s.1.length ≤ 1000 ∧ ∀ x ∈ s.1, x.2.size ≤ 1000000000000)
/-! ### the opposite -/
def oppK (k : Int) : Int := if k = 1 then 2 else if k = 2 then 1 else if k = 3 then 4 else 3
def oppM (m : Mt) : Mt := ⟨oppK m.k, m.n, m.v⟩
theorem chk_one {m : Mt} (h : checkA [m] = 0) : checkM m = 0 := by
  unfold checkA at h
  simp only [checkL] at h
  by_cases e : checkM m = 0
  · exact e
  · simp [e] at h
theorem chk_all {l : List Mt} (h : ∀ m ∈ l, checkM m = 0) (hl : l.length ≤ 32) : checkA l = 0 := by
  have : checkL l = 0 := by
    induction l with
    | nil => rfl
    | cons m r ih =>
      unfold checkL
      rw [if_pos (h m (List.mem_cons_self ..))]
      exact ih (fun x hx => h x (List.mem_cons_of_mem _ hx)) (by simp at hl; omega)
  unfold checkA
  rw [if_pos this, if_neg (by omega)]
theorem chk_opp {m : Mt} (h : checkM m = 0) : checkM (oppM m) = 0 := by
  rcases kind_of h with e | e | e | e <;> (unfold checkM at h ⊢; simp only [oppM, oppK, e] at h ⊢; simpa [signL, hasP] using h)
theorem hold_opp {m : Mt} (h : checkM m = 0) (v : ByteArray) : holdM (oppM m) v = !holdM m v := by
  rcases kind_of h with e | e | e | e <;> (unfold holdM; simp [oppM, oppK, e])
theorem hit_opp {gs : List Se} {m : Mt} (h : checkM m = 0) (i : Nat) (hi : i < gs.length) : hitS gs [oppM m] i = !hitS gs [m] i := by
  unfold hitS
  rw [List.getElem?_eq_getElem hi]
  unfold matchL
  simp only [List.all_cons, List.all_nil, Bool.and_true]
  exact hold_opp h _
theorem hit_two {gs : List Se} {a b : Mt} (i : Nat) (hi : i < gs.length) : hitS gs [a, b] i = (hitS gs [a] i && hitS gs [b] i) := by
  unfold hitS
  rw [List.getElem?_eq_getElem hi]
  unfold matchL
  simp only [List.all_cons, List.all_nil, Bool.and_true]
theorem madeV_any (A : Option Addr) (c : Nat) (l : List Rwm) (w : World) (h : RawsAt w A l) (hw : WdR l) (hl : l.length ≤ maxLen) (hll : ∀ r ∈ l, r.l.length ≤ maxLen) (hk : Kn w) (ht : Tab w) :
    Calls Tryz.prog 6 #[.slice A l.length c] w (MadeV l w) := by
  refine (made_any A c l w h hw hl hll hk ht).mono ?_
  rintro e w' ⟨g, h⟩
  refine ⟨g, ?_⟩
  rcases h with ⟨-, -, S, R, v, cs, gs, rfl, h1, -, h2⟩ | ⟨-, rfl⟩
  · refine ⟨_, _, true, rfl, fun _ => ⟨S, gs, rfl, h1, fun s hs => ?_⟩⟩
    obtain ⟨r, -, hr⟩ := (h2.mem s.1).1 (List.mem_map_of_mem hs)
    rw [← hr]
    exact ⟨by have := setV_len r.l; omega, fun x hx => by have := (set_sizes r.l x hx).2; omega⟩
  · exact ⟨_, _, false, rfl, fun e => by cases e⟩

theorem walkSel (A : Option Addr) (c : Nat) (l : List Rwm) (a b : Mt) (w : World) (h : RawsAt w A l) (hw : WdR l) (hl : l.length ≤ maxLen) (hll : ∀ r ∈ l, r.l.length ≤ maxLen) (hwa : Wm [a]) (hwb : Wm [b]) (hk : Kn w) (ht : Tab w) :
    Calls Tryz.prog 4 #[.slice A l.length c, .agg #[.int .i64 a.k, .string a.n, .string a.v], .agg #[.int .i64 b.k, .string b.n, .string b.v]] w fun e w' => e = .returned (.bool true) ∧ Gr w w' := by
  have CK := Lib.hid (fun W (g : Gr w W) => knownS_any W (hk.gr g) (ht.gr g))
  have CM := Lib.hid (fun W (g : Gr w W) => madeV_any A c l W (h.gr g) hw hl hll (hk.gr g) (ht.gr g))
  have hwab : Wm [a, b] := fun x hx => by
    rcases List.mem_cons.1 hx with rfl | hx
    · exact hwa _ (List.mem_cons_self ..)
    · exact hwb x hx
  have hwo : Wm [oppM a] := fun x hx => by rw [List.mem_singleton.1 hx]; exact hwa a (List.mem_cons_self ..)
  have NA := Lib.hid (fun N W h => newV_any [a] N W h hwa (by simp))
  have NB := Lib.hid (fun N W h => newV_any [b] N W h hwb (by simp))
  have NAB := Lib.hid (fun N W h => newV_any [a, b] N W h hwab (by simp))
  have NO := Lib.hid (fun N W h => newV_any [oppM a] N W h hwo (by simp))
  obtain ⟨ea, hea⟩ : ∃ e, checkA [a] = e := ⟨_, rfl⟩
  obtain ⟨eb, heb⟩ : ∃ e, checkA [b] = e := ⟨_, rfl⟩
  obtain ⟨eab, heab⟩ : ∃ e, checkA [a, b] = e := ⟨_, rfl⟩
  have HEA := Lib.hid hea; have HEB := Lib.hid heb; have HEAB := Lib.hid heab
  obtain ⟨ak, an, av⟩ := a
  obtain ⟨bk, bn, bv⟩ := b
  have HWA := Lib.hid hwa; have HWB := Lib.hid hwb; have HWAB := Lib.hid hwab; have HWO := Lib.hid hwo
  clear h hw hll hk ht hwa hwb hwab hwo hea heb heab
  unfold maxLen at hl
  obtain ⟨W1, hW1, g1, hq1⟩ := fresh w #[.int .i64 ak, .string an, .string av] 49
  obtain ⟨W2, hW2, g2, hq2⟩ := fresh W1 #[.int .i64 bk, .string bn, .string bv] 49
  have hz : W1.heap.size = w.heap.size + 1 := by rw [← hW1]; simp
  have p0 := g2.cell (hq1 0 _ rfl); have p1 := g2.cell (hq1 1 _ rfl); have p2 := g2.cell (hq1 2 _ rfl)
  have q0 := hq2 0 _ rfl; have q1 := hq2 1 _ rfl; have q2 := hq2 2 _ rfl
  rw [hz] at q0 q1 q2
  have HW1 := Lib.hid hW1; have HW2 := Lib.hid hW2; have G2 := Lib.hid (g1.trans g2)
  obtain ⟨N, hN⟩ : ∃ N, w.heap.size = N := ⟨_, rfl⟩
  rw [hN] at p0 p1 p2 q0 q1 q2
  have HNN := Lib.hid hN
  have HP : Hid (W2.cell? ⟨N, 0, none⟩ = some (.int .i64 ak) ∧ W2.cell? ⟨N, 1, none⟩ = some (.string an) ∧ W2.cell? ⟨N, 2, none⟩ = some (.string av)) := Lib.hid ⟨p0, p1, p2⟩
  have HQ : Hid (W2.cell? ⟨N + 1, 0, none⟩ = some (.int .i64 bk) ∧ W2.cell? ⟨N + 1, 1, none⟩ = some (.string bn) ∧ W2.cell? ⟨N + 1, 2, none⟩ = some (.string bv)) := Lib.hid ⟨q0, q1, q2⟩
  clear hW1 hW2 g1 g2 hq1 hq2 hz p0 p1 p2 q0 q1 q2 hN
  go_enter Tryz.func4, Tryz.ntmps4
  go_wp2_with fail
  rw [HW1.out, HW2.out, HNN.out]
  refine (CK.out _ G2.out).mono ?_
  rintro e w3 ⟨rfl, g3⟩
  have G3 := Lib.hid (G2.out.trans g3); have E3 := Lib.hid g3; clear g3
  go_wp2_with fail
  refine (CM.out _ G3.out).mono ?_
  rintro e w4 ⟨g4, ps, rs, mk, rfl, hmk⟩
  have G4 := Lib.hid (G3.out.trans g4); have E4 := Lib.hid (E3.out.trans g4); have HMK := Lib.hid hmk; clear g4 hmk E3 G3
  have p0 := E4.out.cell HP.out.1; have p1 := E4.out.cell HP.out.2.1; have p2 := E4.out.cell HP.out.2.2
  go_wp2_with fail
  refine (NA.out _ _ (heap_alloc_new w4 _)).mono ?_
  rintro e w5 ⟨g5, pa, he, ha⟩
  rw [HEA.out] at he ha
  subst he
  have E5 := Lib.hid (((Gr.refl w4).alloc _ _).trans g5); have HA := Lib.hid ha; clear g5 ha p0 p1 p2
  have q0 := (E4.out.trans E5.out).cell HQ.out.1; have q1 := (E4.out.trans E5.out).cell HQ.out.2.1; have q2 := (E4.out.trans E5.out).cell HQ.out.2.2
  go_wp2_with fail
  refine (NB.out _ _ (heap_alloc_new w5 _)).mono ?_
  rintro e w6 ⟨g6, pb, he, hb⟩
  rw [HEB.out] at he hb
  subst he
  have E6 := Lib.hid (((Gr.refl w5).alloc _ _).trans g6); have HB := Lib.hid hb; clear g6 hb q0 q1 q2
  have E46 := Lib.hid (E4.out.trans (E5.out.trans E6.out))
  have p0 := E46.out.cell HP.out.1; have p1 := E46.out.cell HP.out.2.1; have p2 := E46.out.cell HP.out.2.2
  have q0 := E46.out.cell HQ.out.1; have q1 := E46.out.cell HQ.out.2.1; have q2 := E46.out.cell HQ.out.2.2
  go_wp2_with fail
  refine (NAB.out _ _ (heap_alloc_new w6 _)).mono ?_
  rintro e w7 ⟨g7, pab, he, hab⟩
  rw [HEAB.out] at he hab
  subst he
  have E7 := Lib.hid (((Gr.refl w6).alloc _ _).trans g7); have HAB := Lib.hid hab; clear g7 hab p0 p1 p2 q0 q1 q2
  have G7 := Lib.hid (G4.out.trans (E5.out.trans (E6.out.trans E7.out)))
  have E47 := Lib.hid (E5.out.trans (E6.out.trans E7.out))
  go_upto_region 7 with fail
  by_cases hg : mk = true ∧ ea = 0 ∧ eb = 0
  case neg =>
    cases mk
    · go_wp2
      all_goals
        go_ret
        exact ⟨rfl, G7.out⟩
    by_cases z1 : ea = 0
    · subst z1
      have z2 : ¬ eb = 0 := fun e => hg ⟨rfl, rfl, e⟩
      clear hg
      go_wp2
      all_goals
        go_ret
        exact ⟨rfl, G7.out⟩
    · clear hg
      go_wp2
      all_goals
        go_ret
        exact ⟨rfl, G7.out⟩
  case pos =>
  obtain ⟨rfl, rfl, rfl⟩ := hg
  obtain ⟨S, gs, rfl, hS, hgs⟩ := HMK.out rfl
  obtain ⟨X, rfl, hX⟩ := HA.out rfl
  obtain ⟨Y, rfl, hY⟩ := HB.out rfl
  have ca := chk_one HEA.out
  have cb := chk_one HEB.out
  have hz0 : eab = 0 := by
    rw [← HEAB.out]
    exact chk_all (fun m hm => by
      rcases List.mem_cons.1 hm with rfl | hm
      · exact ca
      · rw [List.mem_singleton.1 hm]; exact cb) (by simp)
  subst hz0
  obtain ⟨Z, rfl, hZ⟩ := HAB.out rfl
  have HS := Lib.hid (hS.gr E47.out)
  have HX := Lib.hid (hX.gr (E6.out.trans E7.out))
  have HY := Lib.hid (hY.gr E7.out)
  have HZ := Lib.hid hZ
  have HGS := Lib.hid hgs; have CA := Lib.hid ca; have CB := Lib.hid cb
  clear hS hX hY hZ hgs ca cb HMK HA HB HAB
  have p0 := (E4.out.trans E47.out).cell HP.out.1; have p1 := (E4.out.trans E47.out).cell HP.out.2.1; have p2 := (E4.out.trans E47.out).cell HP.out.2.2
  go_upto_region 10 with fail
  obtain ⟨W8, hW8, g8, hq8⟩ := fresh w7 #[.int .i64 ak, .string an, .string av] 49
  have hb8 : W8.heap[w7.heap.size]? = some (.cells #[.int .i64 ak, .string an, .string av] 49 (0, 0)) := by rw [← hW8]; exact heap_alloc_new w7 _
  have hs8 : W8.heap.size = w7.heap.size + 1 := by rw [← hW8]; simp
  obtain ⟨P, hPP⟩ : ∃ P, w7.heap.size = P := ⟨_, rfl⟩
  rw [hW8]
  rw [hPP] at hb8 hs8 ⊢
  have E8 := Lib.hid g8
  have HB8 := Lib.hid hb8; have HS8 := Lib.hid hs8; have HPP := Lib.hid hPP
  have pc : ∀ (cs : Array Value) (T : TypeId), (W8.alloc (.cells cs T)).cell? ⟨N, 0, none⟩ = some (.int .i64 ak) := fun cs T => ((Gr.refl W8).alloc _ _).cell (g8.cell p0)
  have hq8' : ∀ (cs : Array Value) (T : TypeId), (W8.alloc (.cells cs T)).heap[P]? = some (.cells #[.int .i64 ak, .string an, .string av] 49 (0, 0)) := fun cs T => (((Gr.refl W8).alloc cs T).b.block P (by rw [hs8]; omega)).trans hb8
  have pf : ∀ (cs : Array Value) (T : TypeId), (W8.alloc (.cells cs T)).frozen? ⟨P, 0, none⟩ = false := fun cs T => frozen_of_row _ P 0 _ _ (hq8' cs T)
  have pd : ∀ (cs : Array Value) (T : TypeId), (W8.alloc (.cells cs T)).cell? ⟨P, 0, none⟩ = some (.int .i64 ak) := fun cs T => cell_of_row _ P 0 _ _ (0, 0) (hq8' cs T)
  have hp8 : ∀ (cs : Array Value) (T : TypeId) (u : Value), ((W8.alloc (.cells cs T)).setCell ⟨P, 0, none⟩ u).heap[P]? = some (.cells #[u, .string an, .string av] 49 (0, 0)) := fun cs T u => by
    have h1 : (W8.alloc (.cells cs T)).heap[P]? = some (.cells #[.int .i64 ak, .string an, .string av] 49 (0, 0)) := (((Gr.refl W8).alloc cs T).b.block P (by rw [hs8]; omega)).trans hb8
    have h2 := heap_setCell_same _ P 0 _ _ u h1
    simpa using h2
  have HP8 := Lib.hid hp8
  have hk4 := kind_of CA.out
  simp only at hk4
  have HK4 := Lib.hid hk4
  have g88 : ∀ (cs : Array Value) (T : TypeId) (u : Value), Gr w7 ((W8.alloc (.cells cs T)).setCell ⟨P, 0, none⟩ u) := fun cs T u => (g8.trans ((Gr.refl W8).alloc _ _)).setCell (by rw [hPP]; exact Nat.le_refl _) u
  have HG88 := Lib.hid g88
  clear hW8 g8 hq8 hq8' hb8 hs8 hPP hp8 hk4 p0 p1 p2 g88
  go_cut [] from 63 to 69 (fun wx => Hid (Gr w7 wx) ∧ Hid (wx.heap[P]? = some (.cells #[.int .i64 (oppK ak), .string an, .string av] 49 (0, 0))))
  case first =>
    rcases HK4.out with rfl | rfl | rfl | rfl
    all_goals
      clear HK4
      go_wp2
      go_meet
      exact ⟨Lib.hid (HG88.out _ _ _), Lib.hid (HP8.out _ _ _)⟩
  case rest =>
  obtain ⟨HG9, HB9⟩ := hcut
  obtain ⟨w9, rfl⟩ : ∃ wa : World, wa = wc := ⟨_, rfl⟩
  have o0 : w9.cell? ⟨P, 0, none⟩ = some (.int .i64 (oppK ak)) := cell_of_row w9 P 0 _ _ (0, 0) HB9.out
  have o1 : w9.cell? ⟨P, 1, none⟩ = some (.string an) := cell_of_row w9 P 1 _ _ (0, 0) HB9.out
  have o2 : w9.cell? ⟨P, 2, none⟩ = some (.string av) := cell_of_row w9 P 2 _ _ (0, 0) HB9.out
  have HOC := Lib.hid (chk_all (l := [oppM ⟨ak, an, av⟩]) (fun m hm => by rw [List.mem_singleton.1 hm]; exact chk_opp CA.out) (by simp))
  clear pc pf pd HG88 HP8 HK4 HB8 HS8 E8
  go_wp2_with fail
  refine (NO.out _ _ (heap_alloc_new w9 _)).mono ?_
  rintro e w10 ⟨g10, po, he, ho⟩
  rw [HOC.out] at he
  subst he
  obtain ⟨V, rfl, hV⟩ := ho HOC.out
  have HV := Lib.hid hV
  have E9 := Lib.hid (HG9.out.trans (((Gr.refl w9).alloc _ _).trans g10))
  clear hV ho g10 HB9 o0 o1 o2
  have G10 := Lib.hid (G7.out.trans E9.out)
  have hgl : gs.length ≤ 1000 := by obtain ⟨_, _, _, _, _, _, _, h4⟩ := HS.out; exact h4
  have SX := Lib.hid (fun W (g : Gr w7 W) => select_any S X gs [⟨ak, an, av⟩] W (HS.out.gr g) (HX.out.gr g) HWA.out (fun m hm => by rw [List.mem_singleton.1 hm]; exact CA.out) (by simp) HGS.out)
  have SY := Lib.hid (fun W (g : Gr w7 W) => select_any S Y gs [⟨bk, bn, bv⟩] W (HS.out.gr g) (HY.out.gr g) HWB.out (fun m hm => by rw [List.mem_singleton.1 hm]; exact CB.out) (by simp) HGS.out)
  have SZ := Lib.hid (fun W (g : Gr w7 W) => select_any S Z gs [⟨ak, an, av⟩, ⟨bk, bn, bv⟩] W (HS.out.gr g) (HZ.out.gr g) HWAB.out (fun m hm => by
    rcases List.mem_cons.1 hm with rfl | hm
    · exact CA.out
    · rw [List.mem_singleton.1 hm]; exact CB.out) (by simp) HGS.out)
  have SV := Lib.hid (fun W (g : Gr w10 W) => select_any S V gs [oppM ⟨ak, an, av⟩] W (HS.out.gr (E9.out.trans g)) (HV.out.gr g) HWO.out (fun m hm => by rw [List.mem_singleton.1 hm]; exact chk_opp CA.out) (by simp) HGS.out)
  have LP : Hid ((selN gs.length (hitS gs [⟨ak, an, av⟩])).length + (selN gs.length (hitS gs [oppM ⟨ak, an, av⟩])).length = gs.length) := Lib.hid (selN_not fun i hi => hit_opp CA.out i hi)
  have RB : Hid (selN gs.length (hitS gs [⟨ak, an, av⟩, ⟨bk, bn, bv⟩]) = (selN gs.length (hitS gs [⟨ak, an, av⟩])).filter (hitS gs [⟨bk, bn, bv⟩])) := Lib.hid (selN_both fun i hi => hit_two i hi)
  have QN : Hid ((selN gs.length (hitS gs [⟨bk, bn, bv⟩])).Nodup ∧ ∀ x ∈ selN gs.length (hitS gs [⟨bk, bn, bv⟩]), hitS gs [⟨bk, bn, bv⟩] x = true) := Lib.hid ⟨selN_nodup _ _, fun x hx => (selN_mem.1 hx).2⟩
  have PQ : Hid (∀ x ∈ selN gs.length (hitS gs [⟨ak, an, av⟩]), x ∈ selN gs.length (hitS gs [⟨bk, bn, bv⟩]) ↔ hitS gs [⟨bk, bn, bv⟩] x = true) := Lib.hid fun x hx => ⟨fun h => (selN_mem.1 h).2, fun h => selN_mem.2 ⟨(selN_mem.1 hx).1, h⟩⟩
  have zp := selN_len gs.length (hitS gs [⟨ak, an, av⟩])
  have zq := selN_len gs.length (hitS gs [⟨bk, bn, bv⟩])
  obtain ⟨p, hp⟩ : ∃ p, selN gs.length (hitS gs [⟨ak, an, av⟩]) = p := ⟨_, rfl⟩
  obtain ⟨q, hq⟩ : ∃ p, selN gs.length (hitS gs [⟨bk, bn, bv⟩]) = p := ⟨_, rfl⟩
  obtain ⟨r, hr⟩ : ∃ p, selN gs.length (hitS gs [⟨ak, an, av⟩, ⟨bk, bn, bv⟩]) = p := ⟨_, rfl⟩
  obtain ⟨v, hv⟩ : ∃ p, selN gs.length (hitS gs [oppM ⟨ak, an, av⟩]) = p := ⟨_, rfl⟩
  rw [hp] at LP RB PQ zp
  rw [hq] at QN PQ zq
  rw [hr] at RB
  rw [hv] at LP
  have HPE := Lib.hid hp; have HQE := Lib.hid hq; have HRE := Lib.hid hr; have HVE := Lib.hid hv
  obtain ⟨g, hg⟩ : ∃ g, hitS gs [⟨bk, bn, bv⟩] = g := ⟨_, rfl⟩
  rw [hg] at RB QN PQ
  have CL := Lib.hid (fun W (g : Gr w10 W) => len_any S gs W (HS.out.gr (E9.out.trans g)))
  have HGL := Lib.hid hgl
  clear hp hq hr hv hg hgl HX HY HZ HV HGS CA CB HWA HWB HWAB HWO HOC NA NB NAB NO CM CK HEA HEB HEAB HP HQ HW1 HW2 HNN G2 G4 E4 E5 E6 E7 E46 E47
  go_upto_region 14 with fail
  go_wp2_with fail
  refine (SX.out _ E9.out).mono ?_
  rintro e w11 ⟨A1, c1, he, hi1, g11⟩
  rw [HPE.out] at he hi1
  subst he
  have I1 := Lib.hid hi1; have E11 := Lib.hid g11; clear hi1 g11
  go_wp2_with fail
  refine (SY.out _ (E9.out.trans E11.out)).mono ?_
  rintro e w12 ⟨A2, c2, he, hi2, g12⟩
  rw [HQE.out] at he hi2
  subst he
  have I2 := Lib.hid hi2; have J1 := Lib.hid (I1.out.gr g12); have E12 := Lib.hid (E11.out.trans g12); clear hi2 g12
  go_wp2_with fail
  refine (SZ.out _ (E9.out.trans E12.out)).mono ?_
  rintro e w13 ⟨A3, c3, he, hi3, g13⟩
  rw [HRE.out] at he hi3
  subst he
  have I3 := Lib.hid hi3; have K1 := Lib.hid (J1.out.gr g13); have J2 := Lib.hid (I2.out.gr g13); have E13 := Lib.hid (E12.out.trans g13); clear hi3 g13 I1 I2 J1
  clear SX SY SZ HPE HQE HRE E11 E12
  obtain ⟨np, hnp⟩ : ∃ n, p.length = n := ⟨_, rfl⟩
  obtain ⟨nq, hnq⟩ : ∃ n, q.length = n := ⟨_, rfl⟩
  obtain ⟨nr, hnr⟩ : ∃ n, r.length = n := ⟨_, rfl⟩
  rw [hnp, hnq, hnr]
  rw [hnp] at zp
  rw [hnq] at zq
  have NP := Lib.hid hnp; have NQ := Lib.hid hnq; have NR := Lib.hid hnr
  clear hnp hnq hnr
  have hgl := HGL.out
  have zr : nr ≤ np := by rw [← NR.out, ← NP.out, RB.out]; exact List.length_filter_le _ _
  go_wp2
  go_loopw [22, 23] (fun k9 i9 wr => ∃ i : Nat, i ≤ np ∧ i9 = .int .i64 i ∧ k9 = .int .i64 (((p.take i).filter g).length : Nat) ∧ Hid (Gr w13 wr)) (fun _ i9 _ => np - (intOf i9).toNat)
  case atStart => exact ⟨0, Nat.zero_le _, rfl, by simp, Lib.hid (Gr.refl _)⟩
  case round =>
    obtain ⟨i, hi, rfl, rfl, HGW⟩ := hrel
    by_cases hil : i < np
    · have i3 : i < p.length := by rw [NP.out]; exact hil
      have KE : Hid (fndN p q g i nq = ((p.take (i + 1)).filter g).length) := Lib.hid (by have := fnd_end PQ.out i3; rwa [NQ.out] at this)
      have KZ : Hid (fndN p q g i 0 = ((p.take i).filter g).length) := Lib.hid (fnd_zero p q g i)
      rw [← KZ.out]
      obtain ⟨b1, o1, rfl, hc1⟩ := K1.out (by omega)
      have d1 := HGW.out.cell (hc1 i _ (List.getElem?_eq_getElem i3))
      have D1 := Lib.hid d1
      clear hc1 d1
      have f1 : (i : Int) < (np : Int) := by omega
      have f2 : (0 : Int) ≤ (i : Int) := by omega
      obtain ⟨wo, rfl⟩ : ∃ wo : World, wo = wr := ⟨_, rfl⟩
      go_wp2
      go_loopw [22, 24] (fun k9 i9 wr => ∃ j : Nat, j ≤ nq ∧ i9 = .int .i64 j ∧ k9 = .int .i64 (fndN p q g i j : Nat) ∧ Hid (Gr wo wr)) (fun _ i9 _ => nq - (intOf i9).toNat)
      case atStart => exact ⟨0, Nat.zero_le _, rfl, rfl, Lib.hid (Gr.refl _)⟩
      case round =>
        obtain ⟨j, hj, rfl, rfl, HGI⟩ := hrel
        by_cases hjl : j < nq
        · have j3 : j < q.length := by rw [NQ.out]; exact hjl
          obtain ⟨b2, o2, rfl, hc2⟩ := J2.out (by omega)
          have d1 := HGI.out.cell D1.out
          have d2 := (HGW.out.trans HGI.out).cell (hc2 j _ (List.getElem?_eq_getElem j3))
          have f3 : (j : Int) < (nq : Int) := by omega
          have f4 : (0 : Int) ≤ (j : Int) := by omega
          by_cases he : p[i] = q[j]
          · have hh := fnd_hit QN.out.1 QN.out.2 i3 j3 he
            rw [← RB.out] at hh
            have hkr := (List.getElem?_eq_some_iff.1 hh.2).1
            rw [NR.out] at hkr
            obtain ⟨b3, o3, rfl, hc3⟩ := I3.out (by have := NR.out; omega)
            have d3 := (HGW.out.trans HGI.out).cell (hc3 _ _ hh.2)
            have HH1 := Lib.hid hh.1
            rw [← he] at d2
            obtain ⟨x, hx⟩ : ∃ x, p[i] = x := ⟨_, rfl⟩
            rw [hx] at d1 d2 d3
            obtain ⟨m, hm⟩ : ∃ m, fndN p q g i j = m := ⟨_, rfl⟩
            rw [hm] at d3 hkr HH1 ⊢
            have f5 : ¬ (nr : Int) ≤ (m : Int) := by omega
            have f6 : (m : Int) < (nr : Int) := by omega
            have f7 : (0 : Int) ≤ (m : Int) := by omega
            clear he hh hc2 hc3 hx hm D1 i3 j3
            go_wp2_with fail
            go_quiet (fail)
            go_wp2_with fail
            go_quiet (fail)
            go_wp2
            go_roundw
            case rel => exact ⟨j + 1, by omega, by go_num, by rw [HH1.out]; go_num, Lib.hid (HGI.out.drewN _)⟩
            case measure => simp [intOf]; omega
          · have HH1 := Lib.hid (fnd_miss (g := g) i3 j3 he)
            obtain ⟨x, hx⟩ : ∃ x, p[i] = x := ⟨_, rfl⟩
            obtain ⟨y, hy⟩ : ∃ y, q[j] = y := ⟨_, rfl⟩
            rw [hx] at d1 he
            rw [hy] at d2 he
            have f5 : ((x : Int) == (y : Int)) = false := by simpa using fun e : (x : Int) = (y : Int) => he (by omega)
            clear he hc2 hx hy D1 i3 j3
            go_wp2_with fail
            go_quiet (fail)
            go_wp2
            go_roundw
            case rel => exact ⟨j + 1, by omega, by go_num, by rw [HH1.out], Lib.hid (HGI.out.drewN _)⟩
            case measure => simp [intOf]; omega
        · obtain rfl : j = nq := by omega
          rw [KE.out]
          go_wp2
          go_roundw
          case rel => exact ⟨i + 1, by omega, by go_num, rfl, Lib.hid (HGW.out.trans HGI.out)⟩
          case measure => simp [intOf]; omega
    · obtain rfl : i = np := by omega
      have HE : Hid (((p.take i).filter g).length = nr) := Lib.hid (by rw [← NP.out, List.take_length, ← RB.out]; exact NR.out)
      rw [HE.out]
      have G14 := Lib.hid (E13.out.trans HGW.out)
      obtain ⟨nv, hnv⟩ : ∃ n, v.length = n := ⟨_, rfl⟩
      have hsum := LP.out
      rw [NP.out, hnv] at hsum
      have f1 : (i : Int) + (nv : Int) = (gs.length : Int) := by omega
      have HNV := Lib.hid hnv
      clear hnv hsum
      obtain ⟨ng, hng⟩ : ∃ n, gs.length = n := ⟨_, rfl⟩
      have NG := Lib.hid hng
      rw [hng] at f1 hgl
      clear hng
      have f2 : IntKind.i64.wrap (ng : Int) = (ng : Int) := IntWalk.i64_in _ (by omega)
      go_wp2_with fail
      refine (SV.out _ G14.out).mono ?_
      rintro e w15 ⟨A5, c5, he, -, g15⟩
      rw [HVE.out, HNV.out] at he
      subst he
      go_wp2_with fail
      refine (CL.out _ (G14.out.trans g15)).mono ?_
      rintro e w16 ⟨he, rfl⟩
      rw [NG.out] at he
      subst he
      go_wp2
      go_ret
      exact ⟨rfl, G10.out.trans (G14.out.trans g15)⟩
end Go.Proofs.YtoooaipbkkiefaaGreatDoor
namespace Go.Proofs.YtoooaipbkkiefaaGreatDoor
open Go.RowKit
set_option maxRecDepth 100000

theorem laid_one {P : Program} {W : World} {L : List (String × DataW Unit)} (name : String) (d : DataW Unit) (hf : (L.filter fun x => x.1 == name) = [(name, d)]) (hp : ([(name, d)].all fun x => x.2.handleName?.isNone) = true) (h : laidMetH P L W) : laidMet P [(name, d)] W := by
  have h1 := h.filter (fun x => x.1 == name)
  rw [hf, MakeChecks.laidMetH_plain _ _ _ hp] at h1
  exact h1
theorem kn_of {W : World} (hu : laidMet Tryz.prog [("internal/strconv.uint64pow10", Lib.tabData .u64 Lib.pow10Tab)] W) : Kn W :=
  Lib.tabIs_of_head (rest := []) (show Tryz.prog.globalNamed "internal/strconv.uint64pow10" = some 2 by kernel_rfl) (t := 277) (e := 111) (n := 20) (by kernel_rfl) Tryz.underlying277 Tryz.underlying111 (by kernel_rfl) (by kernel_rfl) hu
theorem tab_of {W : World} (hb : laidMet Tryz.prog [("isobar/fval.bits", Lib.tabData .u64 [9221120237041090561, 9218868437227405314, 9218868437227405312, 9223372036854775808])] W) : Tab W := by
  have gB : Tryz.prog.globalNamed "isobar/fval.bits" = some 0 := by kernel_rfl
  have tB := Lib.tabIs_of_head (rest := []) gB (t := 138) (e := 111) (n := 4) (by kernel_rfl) Tryz.underlying138 Tryz.underlying111 (by kernel_rfl) (by kernel_rfl) hb
  exact ⟨tB.cell gB 0 (by decide), tB.cell gB 1 (by decide), tB.cell gB 2 (by decide), tB.cell gB 3 (by decide)⟩
theorem addr_plain {W : World} {a : Addr} {v : Value} (h : W.cell? (a.add 0) = some v) : ∃ b o, a = ⟨b, o, none⟩ := by
  obtain ⟨b, o, s⟩ := a
  have hs : s = none := by simpa [Addr.add] using World.cell?_spot h
  exact ⟨b, o, by rw [hs]⟩
theorem add_flat (b o j : Nat) : (⟨b, o, none⟩ : Addr).add j = ⟨b, o + j, none⟩ := by unfold Addr.add; split <;> simp_all
section
variable {H : Type} {enc : TypeId × Value → H} {W : World} {base : Nat} {sp : Nat → Bool} {held : Bool}
/-- a list that a function of the place gives -/
theorem list_of {α : Type} (n : Nat) (p : Nat → α → Prop) (h : ∀ i, i < n → ∃ a, p i a) : ∃ l : List α, l.length = n ∧ ∀ i a, l[i]? = some a → p i a := by
  induction n with
  | zero => exact ⟨[], rfl, fun i a h => by simp at h⟩
  | succ n ih =>
    obtain ⟨l, hl, hp⟩ := ih fun i hi => h i (by omega)
    obtain ⟨a, ha⟩ := h n (by omega)
    refine ⟨l ++ [a], by simp [hl], fun i b hb => ?_⟩
    by_cases hi : i < n
    · rw [List.getElem?_append_left (by omega)] at hb; exact hp i b hb
    · have : i < (l ++ [a]).length := (List.getElem?_eq_some_iff.1 hb).1
      simp at this
      obtain rfl : i = n := by omega
      rw [List.getElem?_append_right (by omega), hl] at hb
      simp at hb; subst hb; exact ha
/-- labels that came in, within something else -/
theorem labs_of {v : Value} {fuel : Nat} {x : DataW H × List MemPlace} (hf : DataW.trod enc Tryz.prog W base sp held fuel 54 [v] = some x) :
    ∃ A c, ∃ l : List Lb, v = .slice A l.length c ∧ l.length ≤ c ∧ c ≤ maxLen ∧ LabsAt W A l ∧ Wd l := by
  rcases Go.Deep.open_slice Tryz.underlying54 hf with ⟨hcs, _⟩ | ⟨a, len, cap, m, n, D, Pl, hcs, _, hl, hm, hmm, _, hi⟩
  · simp only [List.cons.injEq, and_true] at hcs
    exact ⟨none, 0, [], hcs, Nat.le_refl _, Nat.zero_le _, LabsAt.none_ _ _, fun x hx => by simp at hx⟩
  · simp only [List.cons.injEq, and_true] at hcs
    have hC : Tryz.prog.cellsOf 53 = 2 := by kernel_rfl
    have hC9 : Tryz.prog.cellsOf 9 = 1 := by kernel_rfl
    have hlm : len ≤ m := by rw [hmm]; split <;> omega
    have key : ∀ i, i < len → ∃ x : Lb, W.cell? (a.add (i * 2)) = some (.string x.1) ∧ W.cell? ((a.add (i * 2)).add 1) = some (.string x.2) ∧ x.1.size ≤ maxLen ∧ x.2.size ≤ maxLen := by
      intro i hin
      obtain ⟨cs', hc, ht⟩ := hi i (by omega)
      rw [hC] at hc
      obtain ⟨_, hlen, hat⟩ := World.cells?_some hc
      obtain ⟨ys, n2, _, _, _, _, hfl⟩ := DataW.trod_struct Tryz.underlying53 ht
      match cs', hlen with
      | [u0, u1], _ =>
        have q0 := hfl 0 _ rfl
        have q1 := hfl 1 _ rfl
        have hy : ys.length = 2 := by assumption
        match ys, hy with
        | [y0, y1], _ =>
          obtain ⟨s0, e0, _, g0⟩ := DataW.trod_string Tryz.underlying9 q0
          obtain ⟨s1, e1, _, g1⟩ := DataW.trod_string Tryz.underlying9 q1
          change List.take (Tryz.prog.cellsOf 9) (List.drop 0 [u0, u1]) = _ at e0
          change List.take (Tryz.prog.cellsOf 9) (List.drop 1 [u0, u1]) = _ at e1
          rw [hC9] at e0 e1
          obtain rfl : u0 = .string s0 := by simpa using e0
          obtain rfl : u1 = .string s1 := by simpa using e1
          have h0 := hat 0 (by omega)
          have h1 := hat 1 (by omega)
          rw [show (a.add (i * 2)).add 0 = a.add (i * 2) by unfold Addr.add; simp] at h0
          exact ⟨(s0, s1), h0, h1, g0, g1⟩
    obtain ⟨l, hll, hp⟩ := list_of len _ key
    refine ⟨some a, cap, l, by rw [hcs, hll], by omega, hm, fun h0 => ?_, fun x hx => ?_⟩
    · have hx0 := (hp 0 _ (List.getElem?_eq_getElem h0)).1
      rw [Nat.zero_mul] at hx0
      obtain ⟨b, o, rfl⟩ := addr_plain hx0
      refine ⟨b, o, rfl, fun i x hx => ?_⟩
      obtain ⟨c1, c2, _⟩ := hp i x hx
      rw [add_flat] at c1
      rw [add_flat, add_flat] at c2
      exact ⟨c1, c2⟩
    · obtain ⟨i, hi', rfl⟩ := List.getElem_of_mem hx
      obtain ⟨_, _, g⟩ := hp i _ (List.getElem?_eq_getElem hi')
      exact g
/-- samples that came in -/
theorem open_raws {v : Value} {d : DataW H} {p : List MemPlace} (h : DataW.Trod enc Tryz.prog W base sp held 22 v d p) (hv : ∃ a n c, v = .slice a n c) :
    ∃ A c, ∃ l : List Rwm, v = .slice A l.length c ∧ l.length ≤ c ∧ l.length ≤ maxLen ∧ RawsAt W A l ∧ WdR l ∧ ∀ r ∈ l, r.l.length ≤ maxLen := by
  obtain ⟨fuel, hf⟩ := h
  obtain ⟨a0, n0, c0, rfl⟩ := hv
  rcases Go.Deep.open_slice Tryz.underlying22 hf with ⟨hcs, _⟩ | ⟨a, len, cap, m, n, D, Pl, hcs, _, hl, hm, hmm, _, hi⟩
  · simp [Value.cells] at hcs
    obtain ⟨rfl, rfl, rfl⟩ := hcs
    exact ⟨none, 0, [], rfl, Nat.le_refl _, Nat.zero_le _, fun h => by simp at h, fun x hx => by simp at hx, fun x hx => by simp at hx⟩
  · simp [Value.cells] at hcs
    obtain ⟨rfl, rfl, rfl⟩ := hcs
    have hC : Tryz.prog.cellsOf 58 = 3 := by kernel_rfl
    have hC1 : Tryz.prog.cellsOf 54 = 1 := by kernel_rfl
    have hC2 : Tryz.prog.cellsOf 3 = 1 := by kernel_rfl
    have hC3 : Tryz.prog.cellsOf 40 = 1 := by kernel_rfl
    have hlm : n0 ≤ m := by rw [hmm]; split <;> omega
    have key : ∀ i, i < n0 → ∃ x : Rwm, (∃ LA lc, W.cell? (a.add (i * 3)) = some (.slice LA x.l.length lc) ∧ LabsAt W LA x.l) ∧ W.cell? ((a.add (i * 3)).add 1) = some (.int .i64 x.t) ∧ W.cell? ((a.add (i * 3)).add 2) = some (.float .f64 x.v) ∧ Wd x.l ∧ x.l.length ≤ maxLen := by
      intro i hin
      obtain ⟨cs', hc, ht⟩ := hi i (by omega)
      rw [hC] at hc
      obtain ⟨_, hlen, hat⟩ := World.cells?_some hc
      obtain ⟨ys, n2, _, _, _, _, hfl⟩ := DataW.trod_struct Tryz.underlying58 ht
      match cs', hlen with
      | [u0, u1, u2], _ =>
        have q0 := hfl 0 _ rfl
        have q1 := hfl 1 _ rfl
        have q2 := hfl 2 _ rfl
        have hy : ys.length = 3 := by assumption
        match ys, hy with
        | [y0, y1, y2], _ =>
          change DataW.trod enc Tryz.prog W base sp held n2 54 (List.take (Tryz.prog.cellsOf 54) (List.drop 0 [u0, u1, u2])) = some y0 at q0
          rw [hC1] at q0
          obtain ⟨LA, lc, ll, rfl, f1, f2, f3, f4⟩ := labs_of (v := u0) q0
          obtain ⟨t0, e1, _, _⟩ := DataW.trod_int Tryz.underlying3 q1
          change List.take (Tryz.prog.cellsOf 3) (List.drop 1 [.slice LA ll.length lc, u1, u2]) = _ at e1
          rw [hC2] at e1
          obtain rfl : u1 = .int .i64 t0 := by simpa using e1
          change DataW.trod enc Tryz.prog W base sp held n2 40 (List.take (Tryz.prog.cellsOf 40) (List.drop 2 [.slice LA ll.length lc, .int .i64 t0, u2])) = some y2 at q2
          rw [hC3] at q2
          have e2 : ∃ b, u2 = .float .f64 b := by
            change DataW.trod enc Tryz.prog W base sp held n2 40 [u2] = some y2 at q2
            cases n2 with
            | zero => simp [DataW.trod] at q2
            | succ n2 =>
              unfold DataW.trod at q2
              rw [Tryz.underlying40] at q2
              split at q2 <;> simp_all
          obtain ⟨b0, rfl⟩ := e2
          have h0 := hat 0 (by omega)
          have h1 := hat 1 (by omega)
          have h2 := hat 2 (by omega)
          rw [show (a.add (i * 3)).add 0 = a.add (i * 3) by unfold Addr.add; simp] at h0
          exact ⟨⟨ll, t0, b0⟩, ⟨LA, lc, h0, f3⟩, h1, h2, f4, Nat.le_trans f1 f2⟩
    obtain ⟨l, hll, hp⟩ := list_of n0 _ key
    refine ⟨some a, c0, l, by rw [hll], by omega, by omega, fun h0 => ?_, fun x hx => ?_, fun x hx => ?_⟩
    · obtain ⟨⟨LA, lc, hx0, -⟩, -⟩ := hp 0 _ (List.getElem?_eq_getElem h0)
      rw [Nat.zero_mul] at hx0
      obtain ⟨b, o, rfl⟩ := addr_plain hx0
      refine ⟨b, o, rfl, fun i x hx => ?_⟩
      obtain ⟨⟨LA, lc, c1, c2⟩, c3, c4, -⟩ := hp i x hx
      rw [add_flat] at c1
      rw [add_flat, add_flat] at c3 c4
      exact ⟨LA, lc, c1, c2, c3, c4⟩
    · obtain ⟨i, hi', rfl⟩ := List.getElem_of_mem hx
      exact (hp i _ (List.getElem?_eq_getElem hi')).2.2.2.1
    · obtain ⟨i, hi', rfl⟩ := List.getElem_of_mem hx
      exact (hp i _ (List.getElem?_eq_getElem hi')).2.2.2.2
end
end Go.Proofs.YtoooaipbkkiefaaGreatDoor
