/- WaveWhole: its walk. -/
import Derived.Test.YtoglkgagdilfjaaDoorWRow
namespace Go.Proofs.YtoglkgagdilfjaaDoor
open Go.RowKit Flo
set_option maxRecDepth 100000
set_option maxHeartbeats 4000000

/-- small numbers in memory -/
def HsAt (W : World) (A : Option Addr) (n : Nat) (x : Nat → Int) : Prop := 0 < n → ∃ b o, A = some ⟨b, o, none⟩ ∧ ∀ i, i < n → W.cell? ⟨b, o + i, none⟩ = some (.int .i16 (x i))
theorem HsAt.gr {W W' : World} {A : Option Addr} {n : Nat} {x : Nat → Int} (h : HsAt W A n x) (g : Gr W W') : HsAt W' A n x := fun h0 => by
  obtain ⟨b, o, e, hc⟩ := h h0
  exact ⟨b, o, e, fun i hi => g.cell (hc i hi)⟩
theorem turned_any (r i : Nat) (q : Int) (w : World) (ht : Tab w) :
    Calls Tryd.prog 23 #[.complex .f64 r i, .int .i64 q] w fun e w' => e = .returned (.int .i64 (if (eqB r 0 && eqB i 0) = true then (((quV r i + qn q) % 4 : Nat) : Int) else ((quV (tR (qn q) r i) (tI (qn q) r i) : Nat) : Int))) ∧ w = w' := by
  have am := and3 q
  have ak := and3 ((quV r i : Int) + q % 4)
  have hq4 : quV r i < 4 := by unfold quV; (repeat' split) <;> omega
  have hw : IntKind.i64.wrap ((quV r i : Int) + q % 4) = (quV r i : Int) + q % 4 := by rw [IntKind.wrap_i64]; omega
  have hk : ((quV r i : Int) + q % 4) % 4 = (((quV r i + qn q) % 4 : Nat) : Int) := by unfold qn; omega
  rw [hk] at ak
  obtain ⟨um, hum⟩ : ∃ u, q % 4 = u := ⟨_, rfl⟩
  rw [hum] at am ak hw
  obtain ⟨k, hkk⟩ : ∃ k, quV r i = k := ⟨_, rfl⟩
  obtain ⟨z, hz⟩ : ∃ z, (quV r i + qn q) % 4 = z := ⟨_, rfl⟩
  rw [hz] at ak ⊢
  rw [hkk] at ak hw
  have CQ := Lib.hid (fun W => qu_any r i W)
  rw [hkk] at CQ
  obtain ⟨p, hp⟩ : ∃ p, tR (qn q) r i = p := ⟨_, rfl⟩
  obtain ⟨p2, hp2⟩ : ∃ p, tI (qn q) r i = p := ⟨_, rfl⟩
  have CT := Lib.hid (fun W (t : Tab W) => turn_any r i q W t)
  rw [hp, hp2] at CT ⊢
  have CQ2 := Lib.hid (fun W => qu_any p p2 W)
  have HT := Lib.hid ht
  clear ht hum hkk hz hp hp2 hk hq4
  cases e1 : eqB r 0 <;> cases e2 : eqB i 0
  all_goals
    have b1 := eq0_walk e1
    have b2 := eq0_walk e2
    clear e1 e2
    go_enter Tryd.func23, Tryd.ntmps23
    go_wp2_with (first
      | (go_at_call_of 14 (Value.complex .f64 r i); refine (CQ.out _).mono ?_; rintro e w6 ⟨rfl, rfl⟩)
      | (go_at_call 12; refine (CT.out _ HT.out).mono ?_; rintro e w6 ⟨rfl, rfl⟩)
      | (go_at_call_of 14 (Value.complex .f64 p p2); refine (CQ2.out _).mono ?_; rintro e w6 ⟨rfl, rfl⟩)
      | fail)
    go_ret
    exact ⟨rfl, rfl⟩
/-- the last lines: z and p as numbers -/
structure Fin (q : Int) (zr zi pr pi : Nat) (u0 : Int) : Prop where
  e1 : (FloatKind.f64.format.order zr pr == some .eq) = true
  e2 : (FloatKind.f64.format.order zi pi == some .eq) = true
  e3 : (FloatKind.f64.format.order (magV (tR (qn q) zr zi) (tI (qn q) zr zi)) (magV zr zi) == some .eq) = true
  e4 : (FloatKind.f64.format.order (magV zr zi) 0 == some .gt || FloatKind.f64.format.order (magV zr zi) 0 == some .eq) = true
  e5 : (if (eqB zr 0 && eqB zi 0) = true then (((quV zr zi + qn q) % 4 : Nat) : Int) else ((quV (tR (qn q) zr zi) (tI (qn q) zr zi) : Nat) : Int)) = u0
  e6 : (((quV zr zi + qn q) % 4 : Nat) : Int) = u0
theorem fin_of (q : Int) {zr zi pr pi : Nat} {a b : Int} (h1 : Is zr a) (h2 : Is zi b) (h3 : Is pr a) (h4 : Is pi b) (ha : a.natAbs ≤ 20000000) (hb : b.natAbs ≤ 20000000) :
    Fin q zr zi pr pi (((quV zr zi + qn q) % 4 : Nat) : Int) := by
  obtain ⟨t1, t2⟩ := turn_is h1 h2 (qn q)
  obtain ⟨d1, d2⟩ := turn_bd (qn q) a b ha hb
  have m1 := mag_is h1 h2 ha hb
  have m2 := mag_is t1 t2 d1 d2
  rw [turn_sq] at m2
  have hsq : 0 ≤ a * a + b * b := by
    have sq : ∀ z : Int, 0 ≤ z * z := fun z => by
      rcases Int.le_total 0 z with h | h
      · exact Int.mul_nonneg h h
      · rw [← Int.neg_mul_neg]; exact Int.mul_nonneg (by omega) (by omega)
    have x1 := sq a
    have x2 := sq b
    omega
  have o1 := is_ord h1 h3
  have o2 := is_ord h2 h4
  have o3 := is_ord m2 m1
  have o4 := is_ord m1 is_zero
  refine ⟨by have := o1.1; simpa [eqB] using this, by have := o2.1; simpa [eqB] using this, by have := o3.1; simpa [eqB] using this, ?_, ?_, rfl⟩
  · have g1 := o4.2.2
    have g2 := o4.1
    unfold gtB at g1
    unfold eqB at g2
    rw [g1, g2]
    simp only [Bool.or_eq_true, decide_eq_true_eq]
    omega
  · have z1 := (is_ord h1 is_zero).1
    have z2 := (is_ord h2 is_zero).1
    rw [z1, z2]
    by_cases h0 : a = 0 ∧ b = 0
    · rw [decide_eq_true h0.1, decide_eq_true h0.2]; rfl
    · have : (decide (a = 0) && decide (b = 0)) = false := by
        rw [Bool.and_eq_false_iff, decide_eq_false_iff_not, decide_eq_false_iff_not]; omega
      rw [this, qu_is h1 h2, qu_is t1 t2, quI_turn (qn q) a b (qn_lt q) h0]; rfl
theorem walkWhole_some (A1 A2 : Option Addr) (n m c1 c2 : Nat) (x y : Nat → Int) (q : Int) (w : World) (ht : Tab w) (h1 : HsAt w A1 n x) (h2 : HsAt w A2 m y) (hn : n ≤ 200) (hm : m ≤ 200) (h4 : n % 4 = 0)
    (hx : ∀ j, -32768 ≤ x j ∧ x j ≤ 32768) (hy : ∀ j, -32768 ≤ y j ∧ y j ≤ 32768) :
    Calls Tryd.prog 6 #[.slice A1 n c1, .slice A2 m c2, .int .i64 q] w fun e w' => e = .returned (.bool true) ∧ Gr w w' := by
  obtain ⟨i0, hi, hz0, hz1, hz2⟩ := info_parts info_float
  have HT := Lib.hid ht
  have CK := Lib.hid (known_any w ht)
  have H1 := Lib.hid h1; have H2 := Lib.hid h2
  clear ht h1 h2
  have ht4 : (n : Int).tmod 4 = 0 := by rw [Int.tmod_eq_emod_of_nonneg (by omega)]; omega
  have ht5 : (n : Int) % 4 = 0 := by omega
  go_enter Tryd.func6, Tryd.ntmps6
  go_wp2_with (first
    | (go_at_call 7; refine CK.out.mono ?_; rintro e w1 ⟨rfl, g1⟩)
    | fail)
  have CS := Lib.hid (fun W A n' c' fx (t : Tab W) (h' : FlsAt W A n' fx) (hn : n' ≤ 1000) => sum_any A n' c' fx W t h' (by unfold maxLen; omega))
  obtain ⟨fx, hfx⟩ : ∃ fx, (fun j => floatOfInt .f64 (x j)) = fx := ⟨_, rfl⟩
  obtain ⟨fy, hfy⟩ : ∃ fx, (fun j => floatOfInt .f64 (y j)) = fx := ⟨_, rfl⟩
  have HFX : Hid (∀ j, floatOfInt .f64 (x j) = fx j) := Lib.hid (fun j => by rw [← hfx])
  have HFY : Hid (∀ j, floatOfInt .f64 (y j) = fy j) := Lib.hid (fun j => by rw [← hfy])
  have HFXe := Lib.hid hfx; have HFYe := Lib.hid hfy
  have G1 := Lib.hid g1
  clear hfx hfy g1
  go_loopw [7, 9] (fun v i wr => ∃ j : Nat, j ≤ n ∧ i = .int .i64 j ∧ wr.ownsRow w1.heap.size 28 1 v j (rowF fx j) ∧ Gr w1 wr) (fun _ i _ => n - (intOf i).toNat)
  case atStart => exact ⟨0, Nat.zero_le _, rfl, World.ownsRow_nil _ _ _ _, Gr.refl _⟩
  case round =>
    obtain ⟨j, hj, rfl, hown, hgr⟩ := hrel
    by_cases hlt : j < n
    · obtain ⟨b, off, rfl, hc⟩ := H1.out (by omega)
      have hcx : wr.cell? ⟨b, off + j, none⟩ = some (.int .i16 (x j)) := hgr.cell (G1.out.cell (hc j hlt))
      clear hc
      go_wp2_with (first
        | (at_builtin; refine wpList_append_own _ rfl _ _ 24 rfl w1.heap.size 28 i0 (.float .f64 0) 1 8 Tryd.underlying24 hi hz0 hz1 hz2 rfl (by decide) _ _ _ rfl (hown.alloc _) ⟨wr.heap.size, 0, none⟩ 1 1 [.float .f64 (fx j)] rfl rfl ?c1 ?c2 ?c3 ?c4 ?c5 ?_))
      case c1 =>
        intro i u hu
        match i, hu with
        | 0, hu => simp at hu; subst hu; simp [Addr.add, HFX.out]
      case c2 => intro u hu; simp at hu; subst hu; rfl
      case c3 => unfold maxLen; omega
      case c4 => omega
      case c5 => have := hgr.b.size; simp; omega
      intro v' w2 hown' hgrow _
      rw [← rowF_succ] at hown'
      have hgr' : Gr w1 w2 := ⟨(hgr.b.alloc hgr.b.size _).grown hgrow (by have := hgr.b.size; simp; omega) (fun i hi => (hown.lt i hi).1)⟩
      clear hgrow hown hgr hcx
      go_wp2_with fail
      go_roundw
      case rel => exact ⟨j + 1, by omega, by go_num, hown', hgr'⟩
      case measure => simp [intOf]; omega
    · obtain rfl : j = n := by omega
      obtain ⟨A3, c3, hv, f1, f2, f3, f4⟩ := own_fls hown
      subst hv
      have n3 : ¬ (j : Int) < (j : Int) := by omega
      have H3 := Lib.hid f3; have H3n := Lib.hid f4
      have GR := Lib.hid (G1.out.trans hgr)
      clear hown f3 f4 hgr H1
      obtain ⟨wa, rfl⟩ : ∃ wa : World, wa = wr := ⟨_, rfl⟩
      have H3a : Hid (∀ W, Gr wa W → FlsAt W A3 j fx) := Lib.hid (fun W g => H3.out.gr g)
      have HS3 := Lib.hid (fun W (g : Gr wa W) => CS.out W A3 j c3 fx ((HT.out.gr GR.out).gr g) (H3a.out W g) (by omega))
      have HNF : Hid (j ≤ 200) := Lib.hid hn
      clear H3
      go_wp2_with fail
      go_loopw [8, 10] (fun v i wr => ∃ k : Nat, k ≤ m ∧ i = .int .i64 k ∧ wr.ownsRow wa.heap.size 28 1 v k (rowF fy k) ∧ Gr wa wr) (fun _ i _ => m - (intOf i).toNat)
      case atStart => exact ⟨0, Nat.zero_le _, rfl, World.ownsRow_nil _ _ _ _, Gr.refl _⟩
      case round =>
        obtain ⟨k, hk, rfl, hown, hgr⟩ := hrel
        by_cases hlt : k < m
        · obtain ⟨b, off, rfl, hc⟩ := H2.out (by omega)
          have hcx : wr.cell? ⟨b, off + k, none⟩ = some (.int .i16 (y k)) := hgr.cell (GR.out.cell (hc k hlt))
          clear hc
          go_wp2_with (first
            | (at_builtin; refine wpList_append_own _ rfl _ _ 24 rfl wa.heap.size 28 i0 (.float .f64 0) 1 8 Tryd.underlying24 hi hz0 hz1 hz2 rfl (by decide) _ _ _ rfl (hown.alloc _) ⟨wr.heap.size, 0, none⟩ 1 1 [.float .f64 (fy k)] rfl rfl ?c1 ?c2 ?c3 ?c4 ?c5 ?_))
          case c1 =>
            intro i u hu
            match i, hu with
            | 0, hu => simp at hu; subst hu; simp [Addr.add, HFY.out]
          case c2 => intro u hu; simp at hu; subst hu; rfl
          case c3 => unfold maxLen; omega
          case c4 => omega
          case c5 => have := hgr.b.size; simp; omega
          intro v' w2 hown' hgrow _
          rw [← rowF_succ] at hown'
          have hgr' : Gr wa w2 := ⟨(hgr.b.alloc hgr.b.size _).grown hgrow (by have := hgr.b.size; simp; omega) (fun i hi => (hown.lt i hi).1)⟩
          clear hgrow hown hgr hcx
          go_wp2_with fail
          go_roundw
          case rel => exact ⟨k + 1, by omega, by go_num, hown', hgr'⟩
          case measure => simp [intOf]; omega
        · obtain rfl : k = m := by omega
          obtain ⟨A4, c4, hv, f5, f6, f7, f8⟩ := own_fls hown
          subst hv
          have m3 : ¬ (k : Int) < (k : Int) := by omega
          have H4n := Lib.hid f8
          obtain ⟨wb, rfl⟩ : ∃ wb : World, wb = wr := ⟨_, rfl⟩
          have HGB := Lib.hid hgr
          have H4a : Hid (∀ W, Gr wb W → FlsAt W A4 k fy) := Lib.hid (fun W g => f7.gr g)
          have HS4 := Lib.hid (fun W (g : Gr wb W) => CS.out W A4 k c4 fy ((HT.out.gr (GR.out.trans HGB.out)).gr g) (H4a.out W g) (by omega))
          clear hown f7 f8 hgr H2
          go_wp2_with (first
            | (go_at_call_of 21 (Value.slice A3 j c3); refine (HS3.out _ HGB.out).mono ?_; rintro e w4 ⟨rfl, n4, rfl⟩)
            | (go_at_call_of 21 (Value.slice A4 k c4); refine (HS4.out _ ((Gr.refl _).drewN _)).mono ?_; rintro e w5 ⟨rfl, n5, rfl⟩)
            | (at_builtin; refine wpList_append_fl rfl _ _ rfl wb.heap.size _ 0 [] rfl (own_empty ((Gr.refl wb).drewN _)) A3 j c3 fx rfl H3n.out (H3a.out _ ((HGB.out.drewN _).alloc _ _)) (by omega) (((Gr.refl wb).drewN _).alloc _ _).size ?_)
            | fail)
          intro v5 w5 ho5 hg5
          have ho5 : w5.ownsRow wb.heap.size 28 1 v5 j (rowF fx j) := by simpa using ho5
          have hg5' : Gr wb w5 := ⟨(((Gr.refl wb).drewN _).alloc _ _).b.grown hg5 (((Gr.refl wb).drewN _).alloc _ _).size (fun i hi => by cases hi; exact Nat.le_refl _)⟩
          have HG5 := Lib.hid hg5'
          clear hg5 hg5'
          go_wp2_with (first
            | (at_builtin; refine wpList_append_fl rfl _ _ rfl wb.heap.size _ j (rowF fx j) rfl ho5 A4 k c4 fy rfl H4n.out (H4a.out _ HG5.out) (by omega) HG5.out.size ?_)
            | fail)
          intro v6 w6 ho6 hg6
          have hg6' : Gr wb w6 := ⟨HG5.out.b.grown hg6 HG5.out.size (fun i hi => (ho5.lt i hi).1)⟩
          have HG6 := Lib.hid hg6'
          rw [← rowF_cat] at ho6
          obtain ⟨A6, c6, hv6, f9, f10, f11, -⟩ := own_fls ho6
          subst hv6
          have H6 : Hid (∀ n, FlsAt (w6.drewN n) A6 (j + k) (cat j fx fy)) := Lib.hid (fun n => f11.drewN n)
          have HT6 : Hid (∀ n, Tab (w6.drewN n)) := Lib.hid (fun n => (HT.out.gr ((GR.out.trans HGB.out).trans HG6.out)).drewN n)
          have HS6 := Lib.hid (fun n => CS.out (w6.drewN n) A6 (j + k) c6 (cat j fx fy) (HT6.out n) (H6.out n) (by omega))
          clear ho5 ho6 hg6 hg6' f11 f9 f10
          -- what the sums are
          obtain ⟨xr, xi, hxs⟩ : ∃ a b, sumF fx j = (a, b) := ⟨_, _, rfl⟩
          obtain ⟨yr, yi, hys⟩ : ∃ a b, sumF fy k = (a, b) := ⟨_, _, rfl⟩
          obtain ⟨zr, zi, hzs⟩ : ∃ a b, sumF (cat j fx fy) (j + k) = (a, b) := ⟨_, _, rfl⟩
          obtain ⟨pr, hpr⟩ : ∃ p, addC xr yr = p := ⟨_, rfl⟩
          obtain ⟨pi, hpi⟩ : ∃ p, addC xi yi = p := ⟨_, rfl⟩
          have hfin : Fin q zr zi pr pi (((quV zr zi + qn q) % 4 : Nat) : Int) := by
            have s1 := sum_is x hx j (by omega)
            have s2 := sum_is y hy k (by omega)
            have hcat : ∀ i, -32768 ≤ cat j x y i ∧ cat j x y i ≤ 32768 := fun i => by
              unfold cat; split
              · exact hx i
              · exact hy _
            have s3 := sum_is (cat j x y) hcat (j + k) (by omega)
            have hce : (fun i => floatOfInt .f64 (cat j x y i)) = cat j fx fy := by
              funext i; unfold cat; split
              · exact HFX.out i
              · exact HFY.out _
            rw [hce, hzs, sumI_cat x y j k h4] at s3
            rw [HFXe.out, hxs] at s1
            rw [HFYe.out, hys] at s2
            have b1 := sumI_bd x hx j
            have b2 := sumI_bd y hy k
            simp only at s1 s2 s3
            have p1 := is_addC s1.1 s2.1 (by omega)
            have p2 := is_addC s1.2 s2.2 (by omega)
            rw [hpr] at p1
            rw [hpi] at p2
            exact fin_of q s3.1 s3.2 p1 p2 (by omega) (by omega)
          obtain ⟨e1, e2, e3, e4, e5, e6⟩ := hfin
          have CPL := Lib.hid (fun n => plus_any xr xi yr yi (w6.drewN n) (HT6.out n))
          rw [hpr, hpi] at CPL
          have CTN := Lib.hid (fun n => turn_any zr zi q (w6.drewN n) (HT6.out n))
          have CTD := Lib.hid (fun n => turned_any zr zi q (w6.drewN n) (HT6.out n))
          rw [e5] at CTD
          have CQ := Lib.hid (fun n => qu_any zr zi (w6.drewN n))
          have CM1 := Lib.hid (fun n => mag_any (tR (qn q) zr zi) (tI (qn q) zr zi) (w6.drewN n) (HT6.out n))
          have CM2 := Lib.hid (fun n => mag_any zr zi (w6.drewN n) (HT6.out n))
          obtain ⟨tr, htr⟩ : ∃ p, tR (qn q) zr zi = p := ⟨_, rfl⟩
          obtain ⟨ti, hti⟩ : ∃ p, tI (qn q) zr zi = p := ⟨_, rfl⟩
          obtain ⟨ma, hma⟩ : ∃ p, magV zr zi = p := ⟨_, rfl⟩
          obtain ⟨mb, hmb⟩ : ∃ p, magV tr ti = p := ⟨_, rfl⟩
          rw [htr, hti] at CTN CM1 e3
          rw [hma] at CM2 e3 e4
          rw [hmb] at CM1 e3
          have am := and3 q
          have ak := and3 ((quV zr zi : Int) + q % 4)
          have hq4 : quV zr zi < 4 := by unfold quV; (repeat' split) <;> omega
          have hw : IntKind.i64.wrap ((quV zr zi : Int) + q % 4) = (quV zr zi : Int) + q % 4 := by rw [IntKind.wrap_i64]; omega
          have hk2 : ((quV zr zi : Int) + q % 4) % 4 = (((quV zr zi + qn q) % 4 : Nat) : Int) := by unfold qn; omega
          rw [hk2] at ak
          obtain ⟨um, hum⟩ : ∃ u, q % 4 = u := ⟨_, rfl⟩
          rw [hum] at am ak hw
          obtain ⟨qk, hqk⟩ : ∃ u, quV zr zi = u := ⟨_, rfl⟩
          obtain ⟨z0, hz0'⟩ : ∃ z, (((quV zr zi + qn q) % 4 : Nat) : Int) = z := ⟨_, rfl⟩
          rw [hz0'] at ak CTD
          rw [hqk] at ak hw CQ
          have neq : (z0 == z0) = true := by simp
          simp only [hxs, hys, hzs] at HS6 ⊢
          clear hx hy hxs hys hzs hpr hpi e5 e6 htr hti hma hmb hq4 hk2 hum hqk hz0' HFX HFY HFXe HFYe CS HS3 HS4
          go_wp2_with (first
            | (go_at_call 21; refine (HS6.out 0).mono ?_; rintro e w7 ⟨rfl, n7, rfl⟩)
            | (go_at_call 13; refine (CPL.out _).mono ?_; rintro e w8 ⟨rfl, n8, rfl⟩)
            | (go_at_call 12; refine (CTN.out _).mono ?_; rintro e w9 ⟨rfl, rfl⟩)
            | (go_at_call_of 16 (Value.complex .f64 tr ti); refine (CM1.out _).mono ?_; rintro e w10 ⟨rfl, n10, rfl⟩)
            | (go_at_call_of 16 (Value.complex .f64 zr zi); refine (CM2.out _).mono ?_; rintro e w10 ⟨rfl, n11, rfl⟩)
            | (go_at_call 14; refine (CQ.out _).mono ?_; rintro e w9 ⟨rfl, rfl⟩)
            | (go_at_call 23; refine (CTD.out _).mono ?_; rintro e w9 ⟨rfl, rfl⟩)
            | fail)
          go_ret
          exact ⟨rfl, (GR.out.trans HGB.out).trans (HG6.out.drewN _)⟩
theorem walkWhole_none (A1 A2 : Option Addr) (n m c1 c2 : Nat) (q : Int) (w : World) (ht : Tab w) (hn : n ≤ maxLen) (hm : m ≤ maxLen) (h : 200 < n ∨ 200 < m ∨ n % 4 ≠ 0) :
    Calls Tryd.prog 6 #[.slice A1 n c1, .slice A2 m c2, .int .i64 q] w fun e w' => e = .returned (.bool true) ∧ Gr w w' := by
  have CK := Lib.hid (known_any w ht)
  clear ht
  unfold maxLen at hn hm
  have ht4 : (n : Int).tmod 4 = (n : Int) % 4 := Int.tmod_eq_emod_of_nonneg (by omega)
  by_cases h1 : 200 < n
  · go_enter Tryd.func6, Tryd.ntmps6
    go_wp2_with (first
      | (go_at_call 7; refine CK.out.mono ?_; rintro e w1 ⟨rfl, g1⟩)
      | fail)
    go_ret
    exact ⟨rfl, g1⟩
  · have d1 : decide ((200 : Int) < (n : Int)) = false := decide_eq_false (by omega)
    by_cases h2 : 200 < m
    · have d2 : decide ((200 : Int) < (m : Int)) = true := decide_eq_true (by omega)
      go_enter Tryd.func6, Tryd.ntmps6
      go_wp2_with (first
        | (go_at_call 7; refine CK.out.mono ?_; rintro e w1 ⟨rfl, g1⟩)
        | fail)
      go_ret
      exact ⟨rfl, g1⟩
    · have d2 : decide ((200 : Int) < (m : Int)) = false := decide_eq_false (by omega)
      have d3 : ((n : Int) % 4 != 0) = true := by simp; omega
      go_enter Tryd.func6, Tryd.ntmps6
      go_wp2_with (first
        | (go_at_call 7; refine CK.out.mono ?_; rintro e w1 ⟨rfl, g1⟩)
        | fail)
      go_ret
      exact ⟨rfl, g1⟩
end Go.Proofs.YtoglkgagdilfjaaDoor
