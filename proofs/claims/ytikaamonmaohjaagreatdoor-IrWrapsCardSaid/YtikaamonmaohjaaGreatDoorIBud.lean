/- budget, Few: how large a plan may be for a play. -/
import Derived.Test.YtikaamonmaohjaaGreatDoorIBu0
import Derived.Test.YtikaamonmaohjaaGreatDoorIGrp
namespace Go.Proofs.YtikaamonmaohjaaGreatDoor.Ir
open Go.RowKit
set_option maxRecDepth 100000
set_option maxHeartbeats 2000000

theorem bud_any (t : Tr) : ∀ (p : Np) (deep left : Nat) (w : World), TrP w t p → deep ≤ 1000 → left ≤ 1000 →
    Calls Tryz.prog 15 #[.agg (nV t.d p t.ks.length).toArray, .int .i64 deep, .int .i64 left] w (BudPost t deep left w) := by
  induction t using Tr.ind with
  | h d ks ih =>
  intro p deep left w h hd hl
  by_cases hbad : left = 0 ∨ deep = 0 ∨ 40 < d.m.length ∨ 40 < d.gn.length ∨ 40 < d.xn.length ∨ 40 < d.inc.length ∨ 300 < d.name.size ∨ 600 < d.value.size ∨ 1000 < ks.length
  · exact bud_bad d ks p deep left w h hd hl hbad
  have IH := Lib.hid ih
  clear ih
  have hd0 : 0 < deep := by omega
  have hl0 : 0 < left := by omega
  have c3 : d.m.length ≤ 40 := by omega
  have c4 : d.gn.length ≤ 40 := by omega
  have c5 : d.xn.length ≤ 40 := by omega
  have c6 : d.inc.length ≤ 40 := by omega
  have c7 : d.name.size ≤ 300 := by omega
  have c8 : d.value.size ≤ 600 := by omega
  have c9 : ks.length ≤ 1000 := by omega
  clear hbad
  have HOK : Hid (OkD d ks.length) := Lib.hid ⟨c3, c4, c5, c6, c9⟩
  obtain ⟨lf, hlf⟩ : ∃ lf, left = lf + 1 := ⟨left - 1, by omega⟩
  have hlfi : (left : Int) - 1 = (lf : Int) := by omega
  have HLF := Lib.hid hlf
  have hlf2 : lf ≤ 1000 := by omega
  obtain ⟨dp, hdp⟩ : ∃ dp, deep = dp + 1 := ⟨deep - 1, by omega⟩
  have hdpi : (deep : Int) - 1 = (dp : Int) := by omega
  have HDP := Lib.hid hdp
  have hdp2 : dp ≤ 1000 := by omega
  clear hlf hdp
  have e3 : decide ((40 : Int) < (d.m.length : Int)) = false := decide_eq_false (by omega)
  have e4 : decide ((40 : Int) < (d.gn.length : Int)) = false := decide_eq_false (by omega)
  have e5 : decide ((40 : Int) < (d.xn.length : Int)) = false := decide_eq_false (by omega)
  have e6 : decide ((40 : Int) < (d.inc.length : Int)) = false := decide_eq_false (by omega)
  have e7 : decide ((300 : Int) < (d.name.size : Int)) = false := decide_eq_false (by omega)
  have e8 : decide ((600 : Int) < (d.value.size : Int)) = false := decide_eq_false (by omega)
  have e9 : decide ((1000 : Int) < (ks.length : Int)) = false := decide_eq_false (by omega)
  have HT := Lib.hid h
  have hk1 := h.w.b.k1
  have hk2 := h.w.b.k2
  have hm2 := Nat.le_trans h.w.b.m1 h.w.b.m2
  have hg2 := Nat.le_trans h.w.b.g1 h.w.b.g2
  have hx2 := Nat.le_trans h.w.b.x1 h.w.b.x2
  have hi2 := Nat.le_trans h.w.b.i1 h.w.b.i2
  have hnm := h.w.b.nm
  have hvl := h.w.b.vl
  have HB := Lib.hid h.w.b
  simp only [Tr.d, Tr.ks] at hk1 hk2 hm2 hg2 hx2 hi2 hnm hvl ⊢
  unfold maxLen at hnm hvl
  clear h
  obtain ⟨W1, hW1, g1, hb1, -, hsz⟩ := nbox w (nV d p ks.length) 31
  obtain ⟨-, -, -, a3, -, -, -, -, a8, -, a10, -, a12, -, a14, a15, a16⟩ := hb1.all
  simp only [Nat.zero_add] at a3 a8 a10 a12 a14 a15 a16
  obtain ⟨P, hP⟩ : ∃ P, w.heap.size = P := ⟨_, rfl⟩
  rw [hP] at a3 a8 a10 a12 a14 a15 a16
  have HP := Lib.hid hP; have HW1 := Lib.hid hW1; have HG1 := Lib.hid g1; have HT1 : Hid (TrP W1 (.mk d ks) p) := Lib.hid (HT.out.gr g1)
  have HWN := Lib.hid HT1.out.w
  simp only [Tr.d, Tr.ks] at HWN
  obtain ⟨pm, hpm⟩ : ∃ x, p.mA = x := ⟨_, rfl⟩
  obtain ⟨pg, hpg⟩ : ∃ x, p.gA = x := ⟨_, rfl⟩
  obtain ⟨px, hpx⟩ : ∃ x, p.xA = x := ⟨_, rfl⟩
  obtain ⟨pi, hpi⟩ : ∃ x, p.iA = x := ⟨_, rfl⟩
  obtain ⟨A, hAe⟩ : ∃ A, p.kA = A := ⟨_, rfl⟩
  rw [hpm] at a3; rw [hpg] at a8; rw [hpx] at a10; rw [hpi] at a12; rw [hAe] at a16
  have HAe := Lib.hid hAe
  have HMA : Hid (MatsAt W1 pm d.m) := Lib.hid (by rw [← hpm]; exact HWN.out.m)
  have HGA : Hid (StrsAt W1 pg d.gn) := Lib.hid (by rw [← hpg]; exact HWN.out.g)
  have HXA : Hid (StrsAt W1 px d.xn) := Lib.hid (by rw [← hpx]; exact HWN.out.x)
  have HIA : Hid (StrsAt W1 pi d.inc) := Lib.hid (by rw [← hpi]; exact HWN.out.i)
  clear hW1 g1 hb1 hsz hP hpm hpg hpx hpi hAe
  have zero : BudPost (.mk d ks) deep left w (.returned (.int .i64 0)) W1 := ⟨0, rfl, Nat.zero_le _, fun h => absurd h (by omega), HG1.out⟩
  have ZE := Lib.hid zero
  clear zero
  go_enter Tryz.func15, Tryz.ntmps15
  go_upto_region 1 with fail
  rw [HW1.out, HP.out]
  go_upto_region 5 with fail
  go_loop [7] (fun i => ∃ k : Nat, k ≤ d.m.length ∧ i = .int .i64 k) (fun i => d.m.length - (intOf i).toNat)
  case atStart => exact ⟨0, Nat.zero_le _, rfl⟩
  case round =>
    obtain ⟨k, hk, rfl⟩ := hrel
    by_cases hlt : k < d.m.length
    · obtain ⟨b, o, rfl, e1, e2, e3, -⟩ := HMA.out.at_ hlt
      have hwm := HB.out.wm _ (List.getElem_mem hlt)
      obtain ⟨⟨mk, mn, mv⟩, hx⟩ : ∃ x, d.m[k] = x := ⟨_, rfl⟩
      rw [hx] at e2 e3 hwm
      obtain ⟨hw1, hw2⟩ := hwm
      simp only at e2 e3 hw1 hw2
      unfold maxLen at hw1 hw2
      clear hx e1
      by_cases g1 : 300 < mn.size
      · have g1' : (300 : Int) < (mn.size : Int) := by omega
        go_wp2
        go_ret
        exact ZE.out
      · have g1' : (mn.size : Int) ≤ 300 := by omega
        by_cases g2 : 300 < mv.size
        · have g2' : (300 : Int) < (mv.size : Int) := by omega
          go_wp2
          go_ret
          exact ZE.out
        · have g2' : (mv.size : Int) ≤ 300 := by omega
          go_wp2
          go_round
          case rel => exact ⟨k + 1, by omega, by go_num⟩
          case measure => simp [intOf]; omega
    · go_upto_region 10 with fail
      obtain ⟨W3, hW3, g3, hb3⟩ := fresh W1 #[.slice pg d.gn.length p.gC, .slice px d.xn.length p.xC, .slice pi d.inc.length p.iC] 24
      have q0 := hb3 0 (.slice pg d.gn.length p.gC) rfl
      have q1 := hb3 1 (.slice px d.xn.length p.xC) rfl
      have q2 := hb3 2 (.slice pi d.inc.length p.iC) rfl
      obtain ⟨N3, hN3⟩ : ∃ N, W1.heap.size = N := ⟨_, rfl⟩
      rw [hN3] at q0 q1 q2
      have HN3 := Lib.hid hN3; have HW3 := Lib.hid hW3
      have G3 := Lib.hid g3
      have ZE3 : Hid (BudPost (.mk d ks) deep left w (.returned (.int .i64 0)) W3) := Lib.hid ⟨0, rfl, Nat.zero_le _, fun h => absurd h (by omega), HG1.out.trans G3.out⟩
      have b16 := g3.cell a16
      clear hb3 hN3 hW3 g3
      rw [HW3.out, HN3.out]
      go_loop [103] (fun i => ∃ j : Nat, j ≤ 3 ∧ i = .int .i64 j) (fun i => 3 - (intOf i).toNat)
      case atStart => exact ⟨0, Nat.zero_le _, rfl⟩
      case round =>
        obtain ⟨j, hj, rfl⟩ := hrel
        have hj' : j = 0 ∨ j = 1 ∨ j = 2 ∨ j = 3 := by omega
        rcases hj' with rfl | rfl | rfl | rfl
        · skip
          go_wp2
          go_loop [10] (fun i => ∃ k : Nat, k ≤ d.gn.length ∧ i = .int .i64 k) (fun i => d.gn.length - (intOf i).toNat)
          case atStart => exact ⟨0, Nat.zero_le _, rfl⟩
          case round =>
            obtain ⟨k2, hk2', rfl⟩ := hrel
            by_cases hlt2 : k2 < d.gn.length
            · obtain ⟨b, o, rfl, c1⟩ := (HGA.out.gr G3.out).at_ hlt2
              have hws := HB.out.wg _ (List.getElem_mem hlt2)
              obtain ⟨s, hs⟩ : ∃ s, d.gn[k2] = s := ⟨_, rfl⟩
              rw [hs] at c1 hws
              unfold maxLen at hws
              clear hs
              by_cases g1 : 300 < s.size
              · have g1' : (300 : Int) < (s.size : Int) := by omega
                go_wp2
                go_ret
                exact ZE3.out
              · have g1' : (s.size : Int) ≤ 300 := by omega
                go_wp2
                go_round
                case rel => exact ⟨k2 + 1, by omega, by go_num⟩
                case measure => simp [intOf]; omega
            · go_wp2
              go_round
              case rel => exact ⟨1, by omega, by go_num⟩
              case measure => simp [intOf]
        · skip
          go_wp2
          go_loop [10] (fun i => ∃ k : Nat, k ≤ d.xn.length ∧ i = .int .i64 k) (fun i => d.xn.length - (intOf i).toNat)
          case atStart => exact ⟨0, Nat.zero_le _, rfl⟩
          case round =>
            obtain ⟨k2, hk2', rfl⟩ := hrel
            by_cases hlt2 : k2 < d.xn.length
            · obtain ⟨b, o, rfl, c1⟩ := (HXA.out.gr G3.out).at_ hlt2
              have hws := HB.out.wx _ (List.getElem_mem hlt2)
              obtain ⟨s, hs⟩ : ∃ s, d.xn[k2] = s := ⟨_, rfl⟩
              rw [hs] at c1 hws
              unfold maxLen at hws
              clear hs
              by_cases g1 : 300 < s.size
              · have g1' : (300 : Int) < (s.size : Int) := by omega
                go_wp2
                go_ret
                exact ZE3.out
              · have g1' : (s.size : Int) ≤ 300 := by omega
                go_wp2
                go_round
                case rel => exact ⟨k2 + 1, by omega, by go_num⟩
                case measure => simp [intOf]; omega
            · go_wp2
              go_round
              case rel => exact ⟨2, by omega, by go_num⟩
              case measure => simp [intOf]
        · skip
          go_wp2
          go_loop [10] (fun i => ∃ k : Nat, k ≤ d.inc.length ∧ i = .int .i64 k) (fun i => d.inc.length - (intOf i).toNat)
          case atStart => exact ⟨0, Nat.zero_le _, rfl⟩
          case round =>
            obtain ⟨k2, hk2', rfl⟩ := hrel
            by_cases hlt2 : k2 < d.inc.length
            · obtain ⟨b, o, rfl, c1⟩ := (HIA.out.gr G3.out).at_ hlt2
              have hws := HB.out.wi _ (List.getElem_mem hlt2)
              obtain ⟨s, hs⟩ : ∃ s, d.inc[k2] = s := ⟨_, rfl⟩
              rw [hs] at c1 hws
              unfold maxLen at hws
              clear hs
              by_cases g1 : 300 < s.size
              · have g1' : (300 : Int) < (s.size : Int) := by omega
                go_wp2
                go_ret
                exact ZE3.out
              · have g1' : (s.size : Int) ≤ 300 := by omega
                go_wp2
                go_round
                case rel => exact ⟨k2 + 1, by omega, by go_num⟩
                case measure => simp [intOf]; omega
            · go_wp2
              go_round
              case rel => exact ⟨3, by omega, by go_num⟩
              case measure => simp [intOf]
        · go_upto_region 19 with fail
          go_loopw [2, 11] (fun l i wr => ∃ (k2 lv : Nat), k2 ≤ ks.length ∧ i = .int .i64 k2 ∧ l = .int .i64 lv ∧ lv ≤ lf ∧ Hid (0 < lv → lv + cnts (ks.take k2) ≤ lf ∧ deps (ks.take k2) ≤ dp ∧ OkK (ks.take k2)) ∧ Gr W3 wr) (fun _ i _ => ks.length - (intOf i).toNat)
          case atStart => exact ⟨0, lf, Nat.zero_le _, rfl, rfl, Nat.le_refl _, Lib.hid (fun _ => by rw [List.take_zero, cnts, deps]; exact ⟨by omega, by omega, trivial⟩), Gr.refl _⟩
          case round =>
            obtain ⟨k2, lv, hk2', rfl, rfl, hlv, HI, hg⟩ := hrel
            have d16 := hg.cell b16
            by_cases hlt2 : k2 < ks.length
            · obtain ⟨b, o, q, hA, hc, ht, -⟩ := ((HT1.out.gr G3.out).gr hg).kids hlt2
              obtain rfl : A = some ⟨b, o, none⟩ := HAe.out.symm.trans hA
              clear hA
              by_cases hz : 0 < lv
              · have HS1 := Lib.hid (cnts_take hlt2)
                have HS2 := Lib.hid (deps_take hlt2)
                have HS3 := Lib.hid (List.take_succ_eq_append_getElem hlt2)
                have CC := Lib.hid (IH.out ks[k2] (List.getElem_mem hlt2) q dp lv wr ht hdp2 (by omega))
                obtain ⟨t, htt⟩ : ∃ t, ks[k2] = t := ⟨_, rfl⟩
                rw [htt] at hc HS1 HS2 HS3 CC
                have hz' : (0 : Int) < (lv : Int) := by omega
                have HZ := Lib.hid hz
                clear htt ht hz
                go_wp2_with (first
                  | (refine load_node rfl (.tmp 134) rfl _ _ rfl hc ?_)
                  | (go_at_call 15; refine CC.out.mono ?_; rintro e w3 ⟨bb, rfl, hb1, hb2, g3⟩; have HB2 := Lib.hid hb2; have hg3 : Gr W3 w3 := hg.trans g3; clear hb2 g3))
                go_roundw
                case rel =>
                  refine ⟨k2 + 1, bb, by omega, by go_num, rfl, by omega, Lib.hid (fun h0 => ?_), hg3⟩
                  obtain ⟨x1, x2, x3⟩ := HB2.out h0
                  obtain ⟨y1, y2, y3⟩ := HI.out HZ.out
                  rw [HS1.out, HS2.out, HS3.out]
                  exact ⟨by omega, by omega, okK_snoc y3 x3⟩
                case measure => simp [intOf]; omega
              · obtain rfl : lv = 0 := by omega
                clear hz
                go_wp2
                go_ret
                exact ⟨0, rfl, Nat.zero_le _, fun h => absurd h (by omega), (HG1.out.trans G3.out).trans hg⟩
            · obtain rfl : k2 = ks.length := by omega
              have HLT := HLF.out
              have HDT := HDP.out
              have fin : BudPost (.mk d ks) deep left w (.returned (.int .i64 lv)) wr := ⟨lv, rfl, by omega, fun h0 => by
                obtain ⟨y1, y2, y3⟩ := HI.out h0
                rw [List.take_length] at y1 y2 y3
                refine ⟨by unfold cnt; omega, by unfold dep; omega, ?_⟩
                rw [OkT]
                exact ⟨HOK.out, y3⟩, (HG1.out.trans G3.out).trans hg⟩
              have FN := Lib.hid fin
              clear fin HLT HDT
              go_wp2
              go_ret
              exact FN.out
/-- Few: yes, then every node is small, and there are not too many -/
def FewPost (t : Tr) (w : World) (e : Ending) (w' : World) : Prop := ∃ b : Bool, e = .returned (.bool b) ∧ (b = true → cnt t ≤ 1000 ∧ dep t ≤ 100 ∧ OkT t) ∧ Gr w w'
theorem few_any (t : Tr) (p : Np) (w : World) (h : TrP w t p) : Calls Tryz.prog 6 #[.agg (nV t.d p t.ks.length).toArray] w (FewPost t w) := by
  obtain ⟨W1, hW1, g1, hb1, -, hsz⟩ := nbox w (nV t.d p t.ks.length) 31
  have CC := Lib.hid (bud_any t p 100 1000 W1 (TrP.gr g1 t p h) (by omega) (by omega))
  have HW1 := Lib.hid hW1
  have HG1 := Lib.hid g1
  clear hW1 h hsz g1
  go_enter Tryz.func6, Tryz.ntmps6
  go_upto_region 1 with fail
  rw [HW1.out]
  go_wp2_with (first
    | (refine load_node rfl (.tmp 1) rfl _ _ rfl hb1 ?_)
    | (go_at_call 15; refine CC.out.mono ?_; rintro e w3 ⟨bb, rfl, hb1', hb2, g3⟩; have HB2 := Lib.hid hb2; clear hb2))
  go_ret
  refine ⟨decide (0 < bb), rfl, fun h => ?_, HG1.out.trans g3⟩
  have h0 : 0 < bb := of_decide_eq_true h
  obtain ⟨x1, x2, x3⟩ := HB2.out h0
  exact ⟨by omega, x2, x3⟩
end Go.Proofs.YtikaamonmaohjaaGreatDoor.Ir
