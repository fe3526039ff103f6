/- vector.Same; slices.EqualFunc, slices.Equal at its types. -/
import Derived.Test.YtihiklmomhhdbaaGreatDoorPSca
import Derived.Test.YtihiklmomhhdbaaGreatDoorPRef
namespace Go.Proofs.YtihiklmomhhdbaaGreatDoor.Pt
open Go.RowKit Go.Sort
set_option maxRecDepth 100000
set_option maxHeartbeats 4000000
attribute [local irreducible] wpQuiet

theorem neq_lab (a b c d : ByteArray) (w : World) : (binOp .neq 71 (.agg #[.string a, .string b]) (.agg #[.string c, .string d])).run Tryz.prog w = .ok (.bool (!(a.toList == c.toList && b.toList == d.toList))) w := by
  have u9 := Tryz.underlying9
  have a9 := Tryz.isAgg9
  have z9 := Tryz.sizeOf9
  have hS : Tryz.prog.underlying 71 = some (.struct (Tryz.prog.fieldsOf 71)) := by kernel_rfl
  have hp : Tryz.prog.stoodInHeld 71 = false := by kernel_rfl
  rw [run_neq_struct, show (10000 : Nat) = 9999 + 1 from rfl, run_equalIn_agg w 9999 71 _ _ hS hp]
  simp only [Program.fieldsOf, Tryz.underlying71]
  go_simp
  by_cases h1 : a.toList = c.toList <;> by_cases h2 : b.toList = d.toList <;> simp [h1, h2]
theorem drop_eq_step {α : Type} {a b : List α} {k : Nat} (ha : k < a.length) (hb : k < b.length) : (a.drop k = b.drop k) ↔ (a[k] = b[k] ∧ a.drop (k + 1) = b.drop (k + 1)) := by
  rw [List.drop_eq_getElem_cons ha, List.drop_eq_getElem_cons hb, List.cons.injEq]
theorem equalL_any (A B : Option Addr) (a b : List Lb) (c d : Nat) (w : World) (ha : LabsAt w A a) (hb : LabsAt w B b) (la : a.length ≤ 1000) :
    Calls Tryz.prog 140 #[.slice A a.length c, .slice B b.length d] w fun e w' => e = .returned (.bool (decide (a = b))) ∧ ∃ n, w' = w.drewN n := by
  have HA := Lib.hid ha; have HB := Lib.hid hb
  clear ha hb
  by_cases hl : a.length = b.length
  · obtain ⟨n, hn⟩ : ∃ n, b.length = n := ⟨_, rfl⟩
    have hn' : a.length = n := by omega
    rw [hn, hn']
    have HNA := Lib.hid hn'; have HNB := Lib.hid hn
    have hn5 : n ≤ 1000 := by omega
    clear hl la hn hn'
    go_enter Tryz.func140, Tryz.ntmps140
    go_wp2
    go_loopw [13] (fun i wr => ∃ k : Nat, k ≤ n ∧ i = .int .i64 k ∧ Hid (decide (a = b) = decide (a.drop k = b.drop k)) ∧ ∃ q, wr = w.drewN q) (fun i _ => n - (intOf i).toNat)
    case atStart => exact ⟨0, Nat.zero_le _, rfl, rfl, 0, rfl⟩
    case round =>
      obtain ⟨k, hk, rfl, HR, q, rfl⟩ := hrel
      by_cases hlt : k < n
      · have ka : k < a.length := by rw [HNA.out]; exact hlt
        have kb : k < b.length := by rw [HNB.out]; exact hlt
        obtain ⟨b1, o1, rfl, c1, c2, -⟩ := HA.out.at_ ka
        obtain ⟨b2, o2, rfl, d1, d2, -⟩ := HB.out.at_ kb
        have HS := Lib.hid (drop_eq_step ka kb)
        obtain ⟨x, hx⟩ : ∃ x, a[k] = x := ⟨_, rfl⟩
        obtain ⟨y, hy⟩ : ∃ y, b[k] = y := ⟨_, rfl⟩
        rw [hx] at c1 c2
        rw [hy] at d1 d2
        obtain ⟨x1, x2⟩ := x
        obtain ⟨y1, y2⟩ := y
        have HS2 : Hid (decide (a.drop k = b.drop k) = ((x1.toList == y1.toList && x2.toList == y2.toList) && decide (a.drop (k + 1) = b.drop (k + 1)))) := Lib.hid (by
          rw [Bool.eq_iff_iff]
          simp only [Bool.and_eq_true, decide_eq_true_eq, beq_t]
          rw [HS.out, hx, hy, Prod.mk.injEq])
        have nq := fun W => neq_lab x1 x2 y1 y2 W
        have f4 : (k : Int) < (n : Int) := by omega
        have f5 : (0 : Int) ≤ (k : Int) := by omega
        simp only at c1 c2 d1 d2
        obtain ⟨t, ht⟩ : ∃ t, (x1.toList == y1.toList && x2.toList == y2.toList) = t := ⟨_, rfl⟩
        rw [ht] at HS2
        simp only [ht] at nq
        clear hx hy HS ka kb ht
        cases t
        · have HN : Hid (decide (a = b) = false) := Lib.hid (by rw [HR.out, HS2.out]; rfl)
          go_wp2_with fail
          go_quiet (fail)
          go_wp2
          go_ret
          exact ⟨by rw [HN.out]; rfl, q + nq, World.drewN_drewN ..⟩
        · have HN : Hid (decide (a = b) = decide (a.drop (k + 1) = b.drop (k + 1))) := Lib.hid (by rw [HR.out, HS2.out]; simp)
          go_wp2_with fail
          go_quiet (fail)
          go_wp2
          go_roundw
          case rel => exact ⟨k + 1, by omega, by go_num, HN, q + nq, rfl⟩
          case measure => simp [intOf]; omega
      · obtain rfl : k = n := by omega
        have HN : Hid (decide (a = b) = true) := Lib.hid (by
          rw [HR.out, List.drop_of_length_le (by rw [HNA.out]; exact Nat.le_refl _), List.drop_of_length_le (by rw [HNB.out]; exact Nat.le_refl _)]; rfl)
        go_wp2
        go_ret
        exact ⟨by rw [HN.out]; rfl, _, rfl⟩
  · have HN : Hid (decide (a = b) = false) := Lib.hid (decide_eq_false (fun e => hl (by rw [e])))
    have hq : ∃ n, w = w.drewN n := ⟨0, rfl⟩
    go_enter Tryz.func140, Tryz.ntmps140
    go_wp2
    go_ret
    exact ⟨by rw [HN.out]; rfl, hq⟩
theorem same1_any (x y : Pt) (A B : Option Addr) (c d : Nat) (w : World) (ha : LabsAt w A x.1) (hb : LabsAt w B y.1) (la : x.1.length ≤ 1000) (ht : Fv.Tab w) :
    Calls Tryz.prog 139 #[.agg #[.slice A x.1.length c, .float .f64 x.2], .agg #[.slice B y.1.length d, .float .f64 y.2]] w fun e w' => e = .returned (.bool (decide (x.1 = y.1) && Fv.sameB x.2 y.2)) ∧ Gr w w' := by
  obtain ⟨x1, x2⟩ := x
  obtain ⟨y1, y2⟩ := y
  simp only at ha hb la ⊢
  obtain ⟨W1, hW1, g1, hb1⟩ := fresh w #[.slice A x1.length c, .float .f64 x2] 64
  obtain ⟨W2, hW2, g2, hb2⟩ := fresh W1 #[.slice B y1.length d, .float .f64 y2] 64
  have hsz : W1.heap.size = w.heap.size + 1 := by rw [← hW1]; simp
  have c0 := g2.cell (hb1 0 _ rfl)
  have c1 := g2.cell (hb1 1 _ rfl)
  have d0 := hb2 0 _ rfl
  have d1 := hb2 1 _ rfl
  rw [hsz] at d0 d1
  have CE := Lib.hid (equalL_any A B x1 y1 c d W2 ((ha.gr g1).gr g2) ((hb.gr g1).gr g2) la)
  have CS := Lib.hid (fun n => Fv.same_any x2 y2 (W2.drewN n) (((ht.gv g1).gv g2).drewN n))
  have HD : Hid (∀ n, (W2.drewN n).cell? ⟨w.heap.size, 1, none⟩ = some (.float .f64 x2) ∧ (W2.drewN n).cell? ⟨w.heap.size + 1, 1, none⟩ = some (.float .f64 y2)) := Lib.hid (fun n => ⟨c1, d1⟩)
  have HW1 := Lib.hid hW1; have HW2 := Lib.hid hW2; have G2 := Lib.hid (g1.trans g2)
  obtain ⟨t, ht2⟩ : ∃ t, decide (x1 = y1) = t := ⟨_, rfl⟩
  obtain ⟨u, hu⟩ : ∃ u, Fv.sameB x2 y2 = u := ⟨_, rfl⟩
  rw [ht2] at CE ⊢
  rw [hu] at CS ⊢
  clear ha hb ht hW1 hW2 hb1 hb2 hsz g1 g2 ht2 hu
  cases t
  all_goals
    go_enter Tryz.func139, Tryz.ntmps139
    go_upto_region 1 with fail
    rw [HW1.out, HW2.out]
    go_wp2_with fail
    refine CE.out.mono ?_
    rintro e w3 ⟨rfl, n, rfl⟩
    obtain ⟨e1, e2⟩ := HD.out n
    go_wp2_with (go_at_call 141; refine (CS.out n).mono ?_; rintro e w' ⟨rfl, rfl⟩)
    go_ret
    exact ⟨rfl, G2.out.drewN _⟩
theorem equalF_any (A B : Option Addr) (a b : List Pt) (c d : Nat) (w : World) (ha : PtsAt w A a) (hb : PtsAt w B b) (sa : SmP a) (sb : SmP b) (ht : Fv.Tab w) :
    Calls Tryz.prog 138 #[.slice A a.length c, .slice B b.length d, .func (.func 139) #[] #[]] w fun e w' => e = .returned (.bool (sameP a b)) ∧ Gr w w' := by
  have HA := Lib.hid ha; have HB := Lib.hid hb; have SA := Lib.hid sa; have SB := Lib.hid sb; have HT := Lib.hid ht
  have la : a.length ≤ 1000 := sa.1
  have lb : b.length ≤ 1000 := sb.1
  have eg : ∀ args w, (callFunc 139 args).run Tryz.prog w = .ok (.enter 139 args) w := enters_of Tryz.func139 (by kernel_rfl) rfl
  clear ha hb sa sb ht
  by_cases hl : a.length = b.length
  · have HE := Lib.hid (sameP_end hl)
    obtain ⟨n, hn⟩ : ∃ n, b.length = n := ⟨_, rfl⟩
    have hn' : a.length = n := by omega
    rw [hn, hn']
    have HNA := Lib.hid hn'; have HNB := Lib.hid hn
    have hn5 : n ≤ 1000 := by omega
    clear hl la lb hn hn'
    go_enter Tryz.func138, Tryz.ntmps138
    go_wp2
    go_loopw [17] (fun i wr => ∃ k : Nat, k ≤ n ∧ i = .int .i64 k ∧ Hid (sameP a b = sameP (a.drop k) (b.drop k)) ∧ Gr w wr) (fun i _ => n - (intOf i).toNat)
    case atStart => exact ⟨0, Nat.zero_le _, rfl, rfl, Gr.refl _⟩
    case round =>
      obtain ⟨k, hk, rfl, HR, hg⟩ := hrel
      by_cases hlt : k < n
      · have ka : k < a.length := by rw [HNA.out]; exact hlt
        have kb : k < b.length := by rw [HNB.out]; exact hlt
        obtain ⟨b1, o1, s1, n1, rfl, c1, e1, la1, hb1⟩ := (HA.out.gr hg).cell ka
        obtain ⟨b2, o2, s2, n2, rfl, c2, e2, la2, hb2⟩ := (HB.out.gr hg).cell kb
        have m1 := SA.out.at_ ka
        have HS := Lib.hid (sameP_step ka kb)
        obtain ⟨x, hx⟩ : ∃ x, a[k] = x := ⟨_, rfl⟩
        obtain ⟨y, hy⟩ : ∃ y, b[k] = y := ⟨_, rfl⟩
        rw [hx] at c1 e1 la1 m1
        rw [hy] at c2 e2 la2
        have HE2 : Hid (sameP (a.drop k) (b.drop k) = (decide (x.1 = y.1) && Fv.sameB x.2 y.2 && sameP (a.drop (k + 1)) (b.drop (k + 1)))) := by have := HS.out; rw [hx, hy] at this; exact Lib.hid this
        have C1 := Lib.hid (fun W (g : Gr wr W) => same1_any x y s1 s2 n1 n2 W (la1.gr g) (la2.gr g) m1.1 ((HT.out.gv hg).gv g))
        obtain ⟨W2, hW2, g2, hq2⟩ := fresh wr #[.slice s1 x.1.length n1, .float .f64 x.2] 64
        obtain ⟨W3, hW3, g3, hq3⟩ := fresh W2 #[.slice s2 y.1.length n2, .float .f64 y.2] 64
        have p1 := g3.cell (hq2 0 _ rfl)
        have p2 := g3.cell (hq2 1 _ rfl)
        have r1 := hq3 0 _ rfl
        have r2 := hq3 1 _ rfl
        have c2' := g2.cell c2
        have e2' := g2.cell e2
        have HW2 := Lib.hid hW2; have HW3 := Lib.hid hW3; have G3 := Lib.hid (g2.trans g3)
        have hz : W2.heap.size = wr.heap.size + 1 := by rw [← hW2]; simp
        rw [hz] at r1 r2
        obtain ⟨t, ht⟩ : ∃ t, (decide (x.1 = y.1) && Fv.sameB x.2 y.2) = t := ⟨_, rfl⟩
        rw [ht] at HE2
        simp only [ht] at C1
        obtain ⟨x1, x2⟩ := x
        obtain ⟨y1, y2⟩ := y
        obtain ⟨P, hP⟩ : ∃ P, wr.heap.size = P := ⟨_, rfl⟩
        simp only [hP] at p1 p2 r1 r2
        have HP := Lib.hid hP
        simp only at c1 c2 e1 e2 c2' e2' p1 p2 r1 r2
        have HZ := Lib.hid hz
        clear hx hy HS la1 la2 m1 ka kb ht hW2 hW3 hq2 hq3 g2 g3 hP hz
        have f4 : (k : Int) < (n : Int) := by omega
        have f5 : (0 : Int) ≤ (k : Int) := by omega
        cases t
        · have HN : Hid (sameP a b = false) := Lib.hid (by rw [HR.out, HE2.out]; rfl)
          go_upto_region 6 with fail
          rw [HW2.out, HP.out]
          go_upto_region 7 with fail
          rw [HW3.out, HZ.out, HP.out]
          go_wp2_with fail
          refine (C1.out W3 G3.out).mono ?_
          rintro e w4 ⟨rfl, g4⟩
          go_wp2
          go_ret
          exact ⟨by rw [HN.out]; rfl, (hg.trans G3.out).trans g4⟩
        · have HN : Hid (sameP a b = sameP (a.drop (k + 1)) (b.drop (k + 1))) := Lib.hid (by rw [HR.out, HE2.out]; rfl)
          go_upto_region 6 with fail
          rw [HW2.out, HP.out]
          go_upto_region 7 with fail
          rw [HW3.out, HZ.out, HP.out]
          go_wp2_with fail
          refine (C1.out W3 G3.out).mono ?_
          rintro e w4 ⟨rfl, g4⟩
          go_wp2
          go_roundw
          case rel => exact ⟨k + 1, by omega, by go_num, HN, (hg.trans G3.out).trans g4⟩
          case measure => simp [intOf]; omega
      · obtain rfl : k = n := by omega
        have HN : Hid (sameP a b = true) := Lib.hid (by have := HE.out; rw [HNA.out] at this; rw [HR.out]; exact this)
        go_wp2
        go_ret
        exact ⟨by rw [HN.out]; rfl, hg⟩
  · have HN := Lib.hid (sameP_len hl)
    go_enter Tryz.func138, Tryz.ntmps138
    go_wp2
    go_ret
    exact ⟨by rw [HN.out]; rfl, Gr.refl _⟩
theorem vsame_any (A B : Option Addr) (a b : List Pt) (c d : Nat) (w : World) (ha : PtsAt w A a) (hb : PtsAt w B b) (sa : SmP a) (sb : SmP b) (ht : Fv.Tab w) :
    Calls Tryz.prog 80 #[.slice A a.length c, .slice B b.length d] w fun e w' => e = .returned (.bool (sameP a b)) ∧ Gr w w' := by
  have CE := Lib.hid (equalF_any A B a b c d w ha hb sa sb ht)
  clear ha hb sa sb ht
  go_enter Tryz.func80, Tryz.ntmps80
  go_wp2_with fail
  refine CE.out.mono ?_
  rintro e w4 ⟨rfl, g4⟩
  go_wp2
  go_ret
  exact ⟨rfl, g4⟩
end Go.Proofs.YtihiklmomhhdbaaGreatDoor.Pt
