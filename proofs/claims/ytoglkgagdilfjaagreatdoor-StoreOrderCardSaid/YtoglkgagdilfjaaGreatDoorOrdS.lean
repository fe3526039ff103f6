/- StoreOrder: its walk. -/
import Derived.Test.YtoglkgagdilfjaaGreatDoorRowW
import Derived.Lib.QuietBelow
import Derived.Deep.Cut
import Derived.Deep.CutBlock
import Derived.Deep.RegionHeld3
namespace Go.Proofs.YtoglkgagdilfjaaGreatDoor
open Go.RowKit Go.Sort
set_option maxRecDepth 100000
set_option maxHeartbeats 4000000

attribute [local irreducible] wpQuiet
/-- where a number ends up that is divided by a length, without its sign -/
theorem tmod_at (t : Int) (n : Nat) (hn : 0 < n) : ∃ k : Nat, k < n ∧ (t.tmod (n : Int) = (k : Int) ∨ (t.tmod (n : Int) = -(k : Int) ∧ 0 < k)) := by
  rcases Int.lt_or_le t 0 with h | h
  · obtain ⟨m, rfl⟩ : ∃ m : Nat, t = -(m : Int) := ⟨(-t).toNat, by omega⟩
    have e : (-(m : Int)).tmod (n : Int) = -((m % n : Nat) : Int) := by
      rw [Int.neg_tmod, Int.tmod_eq_emod_of_nonneg (by omega)]; rfl
    refine ⟨m % n, Nat.mod_lt _ hn, ?_⟩
    rw [e]
    by_cases h0 : m % n = 0
    · left; rw [h0]; rfl
    · right; exact ⟨rfl, by omega⟩
  · obtain ⟨m, rfl⟩ : ∃ m : Nat, t = (m : Int) := ⟨t.toNat, by omega⟩
    have e : (m : Int).tmod (n : Int) = ((m % n : Nat) : Int) := by
      rw [Int.tmod_eq_emod_of_nonneg (by omega)]; rfl
    exact ⟨m % n, Nat.mod_lt _ hn, .inl e⟩
theorem walkOrd_none (A : Option Addr) (c : Nat) (l : List Rwm) (t : Int) (w : World) (h : RawsAt w A l) (hw : WdR l) (hl : l.length ≤ maxLen) (hll : ∀ r ∈ l, r.l.length ≤ maxLen) (hk : Kn w) (ht : Tab w) (hok : ¬ (fewR l ∧ errA l = 0)) :
    Calls Tryz.prog 5 #[.slice A l.length c, .int .i64 t] w fun e w' => e = .returned (.bool true) ∧ Gr w w' := by
  have CK := Lib.hid (knownS_any w hk ht)
  have CM : Hid (∀ W, Gr w W → Calls Tryz.prog 19 #[.slice A l.length c] W fun e w' => e = .returned (.tuple #[.pointer none, .pointer none, .bool false]) ∧ Gr W w') := Lib.hid (fun W g => (made_any A c l W (h.gr g) hw hl hll (hk.gr g) (ht.gr g)).mono fun e w' ⟨h1, h2⟩ => by
    rcases h2 with ⟨h3, h4, -⟩ | ⟨-, h3⟩
    · exact absurd ⟨h3, h4⟩ hok
    · exact ⟨h3, h1⟩)
  clear h hw hl hll hk ht hok
  go_enter Tryz.func5, Tryz.ntmps5
  go_wp2_with (first
    | (go_at_call 8; refine CK.out.mono ?_; rintro e w1 ⟨rfl, g1⟩)
    | (go_at_call 19; refine (CM.out _ g1).mono ?_; rintro e w2 ⟨rfl, g2⟩)
    | fail)
  go_ret
  exact ⟨rfl, g1.trans g2⟩
/-- behind the k-th none of its series and time, up to j -/
def Apart (l : List Rwm) (k j : Nat) : Prop := ∀ i, k < i → i < j → ∀ r y, l[k]? = some r → l[i]? = some y → ¬ (setV r.l = setV y.l ∧ y.t = r.t)
theorem apart_next {l : List Rwm} {k j : Nat} {r y : Rwm} (h : Apart l k j) (hr : l[k]? = some r) (hy : l[j]? = some y) (hn : ¬ (setV r.l = setV y.l ∧ y.t = r.t)) : Apart l k (j + 1) := fun i hi hj r' y' hr' hy' => by
  by_cases e : i = j
  · subst e
    rw [hr] at hr'; rw [hy] at hy'
    cases hr'; cases hy'; exact hn
  · exact h i hi (by omega) r' y' hr' hy'
theorem walkOrd_some (A : Option Addr) (c : Nat) (l : List Rwm) (t : Int) (w : World) (h : RawsAt w A l) (hw : WdR l) (hl : l.length ≤ maxLen) (hc : l.length ≤ c) (hll : ∀ r ∈ l, r.l.length ≤ maxLen) (hk : Kn w) (ht : Tab w) (hok : fewR l ∧ errA l = 0) :
    Calls Tryz.prog 5 #[.slice A l.length c, .int .i64 t] w fun e w' => e = .returned (.bool true) ∧ Gr w w' := by
  have CK := Lib.hid (knownS_any w hk ht)
  have HKN := Lib.hid hk; have HTW := Lib.hid ht
  have hwr := fewR_wr hok.1 hw
  have HL := Lib.hid h; have HWR := Lib.hid hwr; have HE := Lib.hid hok.2
  have CM : Hid (∀ W, Gr w W → Calls Tryz.prog 19 #[.slice A l.length c] W fun e w' => ∃ S R v cs gs, e = .returned (.tuple #[.pointer (some ⟨S, 0, none⟩), .pointer (some ⟨R, 0, none⟩), .bool true]) ∧ Gr W w' ∧ StAt w' S gs ∧ (∃ wr, RSt wr w' R v cs gs) ∧ StL gs l) := Lib.hid (fun W g => (made_any A c l W (h.gr g) hw hl hll (hk.gr g) (ht.gr g)).mono fun e w' ⟨h1, h2⟩ => by
    rcases h2 with ⟨-, -, S, R, v, cs, gs, h3, h4, h5, h6⟩ | ⟨h3, -⟩
    · exact ⟨S, R, v, cs, gs, h3, h1, h4, h5, h6⟩
    · exact absurd hok h3)
  have hn : l.length ≤ 150 := hok.1.1
  by_cases h0 : l.length = 0
  · obtain rfl : l = [] := List.length_eq_zero_iff.1 h0
    simp only [List.length_nil] at CM ⊢
    clear h hw hl hll hk ht hok hwr h0 HL HWR HE hc hn
    go_enter Tryz.func5, Tryz.ntmps5
    go_wp2_with (first
      | (go_at_call 8; refine CK.out.mono ?_; rintro e w1 ⟨rfl, g1⟩)
      | (go_at_call 19; refine (CM.out _ g1).mono ?_; rintro e w2 ⟨S, R, v, cs, gs, rfl, g2, -⟩)
      | fail)
    go_ret
    exact ⟨rfl, g1.trans g2⟩
  have hl0 : ((l.length : Int) == 0) = false := by rw [beq_eq_false_iff_ne]; omega
  obtain ⟨k, hkl, htm⟩ := tmod_at t l.length (by omega)
  obtain ⟨ab, ao, LA, lc, hA, a1, hLA, a2, a3, -⟩ := h.at_ hkl
  subst hA
  have hbk := hwr.l l[k] (List.getElem_mem hkl)
  obtain ⟨r, hr⟩ : ∃ r, l[k] = r := ⟨_, rfl⟩
  have HKR : Hid (l[k]? = some r) := Lib.hid (by rw [List.getElem?_eq_getElem hkl, hr])
  rw [hr] at a1 hLA a2 a3 hbk
  have CSX := Lib.hid (fun W (g : Gr w W) => rSet_any LA r.l lc W (hLA.gr g) hbk.1 (by omega))
  have HA1 : Hid (∀ W, Gr w W → W.cell? ⟨ab, ao + k * 3, none⟩ = some (.slice LA r.l.length lc) ∧ W.cell? ⟨ab, ao + k * 3 + 1, none⟩ = some (.int .i64 r.t) ∧ W.cell? ⟨ab, ao + k * 3 + 2, none⟩ = some (.float .f64 r.v)) := Lib.hid (fun W g => ⟨g.cell a1, g.cell a2, g.cell a3⟩)
  have n1 : (k : Int) < (l.length : Int) := by omega
  have n2 : (0 : Int) ≤ (k : Int) := by omega
  have hl0' : ¬ l.length = 0 := h0
  obtain ⟨rcs, hrl, hrc, hr3⟩ := h.rcs
  have HRC := Lib.hid hrc
  have HREL : Hid (RelL w rcs l) := Lib.hid ⟨hrl, hr3⟩
  have HLAB := Lib.hid hLA
  have HDIV : Hid (l = l.take k ++ r :: l.drop (k + 1)) := Lib.hid (by
    rw [← hr, ← List.drop_eq_getElem_cons hkl, List.take_append_drop])
  have ww : IntKind.i64.wrap ((k : Int) + 1) = (k : Int) + 1 := by rw [IntKind.wrap_i64]; omega
  have wk : IntKind.i64.wrap (-(-(k : Int))) = (k : Int) := by rw [IntKind.wrap_i64]; omega
  have wk2 : IntKind.i64.wrap (0 - -(k : Int)) = (k : Int) := by rw [IntKind.wrap_i64]; omega
  clear h hw hl hll hk ht hok hwr hLA hbk a1 a2 a3 hr h0 hrl hrc hr3
  obtain ⟨tm, htd⟩ : ∃ z, t.tmod (l.length : Int) = z := ⟨_, rfl⟩
  rw [htd] at htm
  have HTM := Lib.hid htm
  clear htm
  go_enter Tryz.func5, Tryz.ntmps5
  go_upto_if 40 with (first
    | (go_at_call 8; refine CK.out.mono ?_; rintro e w1 ⟨rfl, g1⟩)
    | (go_at_call 19; refine (CM.out _ g1).mono ?_; rintro e w2 ⟨S, R, v, cs, gs, rfl, g2, hst, ⟨wq, hrs⟩, hsl⟩; have HG2 := Lib.hid (g1.trans g2); have HST := Lib.hid hst; have HRS := Lib.hid hrs; have HSL := Lib.hid hsl; clear g1 g2 hst hrs hsl)
    | fail)
  go_cut [8] from 38 (fun s8 wx => s8 = .int .i64 k ∧ wx = w2)
  case first =>
    rcases HTM.out with h | ⟨h, hkp⟩
    · subst h
      have q1 : ¬ (k : Int) < 0 := by omega
      go_wp2
      go_meet
      exact ⟨rfl, rfl⟩
    · subst h
      have q1 : -(k : Int) < 0 := by omega
      go_wp2
      go_meet
      exact ⟨by first | rfl | (simp; done) | (simp; omega), rfl⟩
  case rest =>
  obtain ⟨rfl, rfl⟩ := hcut
  obtain ⟨w2, rfl⟩ : ∃ w2 : World, w2 = wc := ⟨_, rfl⟩
  have a1 := (HA1.out _ HG2.out).1
  go_wp2_with (first
    | (go_at_call 32; refine (CSX.out _ HG2.out).mono ?_; rintro e w3 ⟨AX, cX, rfl, hxl, g3⟩; have HG3 := Lib.hid g3; have HXL := Lib.hid hxl; clear g3 hxl a1)
    | fail)
  obtain ⟨wo, rfl⟩ : ∃ wo : World, wo = w3 := ⟨_, rfl⟩
  have HWO := Lib.hid (HG2.out.trans HG3.out)
  go_loopw [11] (fun i wr => ∃ j : Nat, k + 1 ≤ j ∧ j ≤ l.length ∧ i = .int .i64 j ∧ Hid (Gr wo wr) ∧ Hid (Apart l k j)) (fun i _ => l.length - (intOf i).toNat)
  case atStart => exact ⟨k + 1, Nat.le_refl _, by omega, by go_num, Lib.hid (Gr.refl _), Lib.hid (fun i h1 h2 => by omega)⟩
  case round =>
    obtain ⟨j, hkj, hj, rfl, HG, HAP⟩ := hrel
    by_cases hlt : j < l.length
    · obtain ⟨b', o', LB, lb, hA, b1, hLB, b2, -, -⟩ := (HL.out.gr (HWO.out.trans HG.out)).at_ hlt
      cases hA
      have hbj := HWR.out.l l[j] (List.getElem_mem hlt)
      obtain ⟨y, hy⟩ : ∃ y, l[j] = y := ⟨_, rfl⟩
      have HY : Hid (l[j]? = some y) := Lib.hid (by rw [List.getElem?_eq_getElem hlt, hy])
      rw [hy] at b1 hLB b2 hbj
      have CSY := Lib.hid (fun W (g : Gr wr W) => rSet_any LB y.l lb W (hLB.gr g) hbj.1 (by omega))
      have n3 : (j : Int) < (l.length : Int) := by omega
      have n4 : (0 : Int) ≤ (j : Int) := by omega
      have a2 := (HA1.out _ (HWO.out.trans HG.out)).2.1
      clear hy hLB hbj
      go_wp2_with (first
        | (go_at_call 32; refine (CSY.out _ (Gr.refl _)).mono ?_; rintro e w4 ⟨AY, cY, rfl, hyl, g4⟩; have HG4 := Lib.hid g4; have HYL := Lib.hid hyl; have b3 := g4.cell b2; have a3 := g4.cell a2; clear g4 hyl a2 b1 b2)
        | fail)
      have hlx := setV_len r.l
      have hly := setV_len y.l
      have HG34 := Lib.hid (HG.out.trans HG4.out)
      have CS0 := Lib.hid (fun W' (g : Gr w4 W') => same_any AX AY (setV r.l) (setV y.l) cX cY W' (HXL.out.gr (HG34.out.trans g)) (HYL.out.gr g) (by omega) (by omega))
      have k1 := cell_regrown a3; have k2 := cell_regrown b3
      by_cases hxy : setV r.l = setV y.l
      · have CS1 := Lib.hid (gq (W := w4) (v := .bool true) fun W' g => by
          have := CS0.out W' g
          rwa [decide_eq_true hxy] at this)
        have HXY := Lib.hid hxy
        by_cases hty : y.t = r.t
        · have e1 : (y.t == r.t) = true := by simpa using hty
          clear CS0 hlx hly hxy hty
          refine wp_region_quiet_below (by kernel_rfl) (by kernel_rfl) ?_
          repeat (quiet_step (first | exact CS1.out _ _))
          refine wpQuiet_nil ?_
          intro _ hw'
          obtain ⟨⟨dq, osq⟩, hw''⟩ := hw'
          subst hw''
          have HGF : Hid (Gr w (Go.Sort.grow (redrawn w4 dq) osq)) := Lib.hid (((HWO.out.trans HG34.out)).trans ⟨below_regrown w4 dq osq⟩)
          clear k1 k2
          generalize Go.Sort.grow (redrawn w4 dq) osq = w5 at *
          go_wp2
          go_ret
          exact ⟨rfl, HGF.out⟩
        · have e1 : (y.t == r.t) = false := by simpa using hty
          have HTY := Lib.hid hty
          clear CS0 hlx hly hxy hty
          refine wp_region_quiet_below (by kernel_rfl) (by kernel_rfl) ?_
          repeat (quiet_step (first | exact CS1.out _ _))
          refine wpQuiet_nil ?_
          intro _ hw'
          obtain ⟨⟨dq, osq⟩, hw''⟩ := hw'
          subst hw''
          have HGF : Hid (Gr wo (Go.Sort.grow (redrawn w4 dq) osq)) := Lib.hid (HG34.out.trans ⟨below_regrown w4 dq osq⟩)
          clear k1 k2 a3 b3
          generalize Go.Sort.grow (redrawn w4 dq) osq = w5 at *
          go_wp2
          go_roundw
          case rel => exact ⟨j + 1, by omega, by omega, by go_num, HGF, Lib.hid (apart_next HAP.out HKR.out HY.out (fun h => HTY.out h.2))⟩
          case measure => simp [intOf]; omega
      · have CS1 := Lib.hid (gq (W := w4) (v := .bool false) fun W' g => by
          have := CS0.out W' g
          rwa [decide_eq_false hxy] at this)
        have HXY := Lib.hid hxy
        clear CS0 hlx hly hxy
        refine wp_region_quiet_below (by kernel_rfl) (by kernel_rfl) ?_
        repeat (quiet_step (first | exact CS1.out _ _))
        refine wpQuiet_nil ?_
        intro _ hw'
        obtain ⟨⟨dq, osq⟩, hw''⟩ := hw'
        subst hw''
        have HGF : Hid (Gr wo (Go.Sort.grow (redrawn w4 dq) osq)) := Lib.hid (HG34.out.trans ⟨below_regrown w4 dq osq⟩)
        clear k1 k2 a3 b3
        generalize Go.Sort.grow (redrawn w4 dq) osq = w5 at *
        go_wp2
        go_roundw
        case rel => exact ⟨j + 1, by omega, by omega, by go_num, HGF, Lib.hid (apart_next HAP.out HKR.out HY.out (fun h => HXY.out h.1))⟩
        case measure => simp [intOf]; omega
    · obtain rfl : j = l.length := by omega
      have n3 : ¬ (l.length : Int) < (l.length : Int) := by omega
      obtain ⟨w6, rfl⟩ : ∃ w6 : World, w6 = wr := ⟨_, rfl⟩
      have HW6 := Lib.hid (HWO.out.trans HG.out)
      obtain ⟨a1, a2, a3⟩ := HA1.out _ HW6.out
      have HK := Lib.hid (And.intro a1 (And.intro a2 a3))
      have hrl : rcs.length = l.length := HREL.out.1
      have HRCT : Hid (∀ W, Gr w6 W → RcsAt W (some ⟨ab, ao, none⟩) (rcs.take k)) := Lib.hid (fun W g => (HRC.out.gr (HW6.out.trans g)).take k)
      have HRCD : Hid (∀ W, Gr w6 W → RcsAt W (some ⟨ab, ao + (k + 1) * 3, none⟩) (rcs.drop (k + 1))) := Lib.hid (fun W g => (HRC.out.gr (HW6.out.trans g)).drop (k + 1))
      have m1 : (k : Int) ≤ (c : Int) := by omega
      have m1n : k ≤ c := by omega
      have m2 : (k : Int) + 1 ≤ (l.length : Int) := by omega
      have m3 : (0 : Int) ≤ (k : Int) + 1 := by omega
      have m4 : (l.length : Int) ≤ (c : Int) := by omega
      have m6 : ((k : Int) + 1).toNat = k + 1 := by omega
      have HLT : Hid (rcs.length = l.length ∧ k < l.length ∧ l.length ≤ 150 ∧ l.length ≤ c) := Lib.hid ⟨hrl, hkl, hn, hc⟩
      obtain ⟨xr, xt, xv⟩ := r
      simp only at a1 a2 a3
      have hck0 : ¬ c = 0 := by omega
      obtain ⟨ml, hml⟩ : ∃ ml, l.take k ++ l.drop (k + 1) ++ [(⟨xr, xt, xv⟩ : Rwm)] = ml := ⟨_, rfl⟩
      have HML := Lib.hid hml
      have hmln : ml.length = l.length := by rw [← hml]; simp; omega
      have HFIN : Hid (∀ v9 w9, OwnS w9 w6.heap.size v9 ([] ++ rcs.take k ++ rcs.drop (k + 1) ++ [((⟨LA, xr.length, lc⟩, xt, xv) : Rc)]) → Gr w6 w9 → (∃ A7 c7, v9 = .slice A7 l.length c7 ∧ Hid (RawsAt w9 A7 ml)) ∧ Hid (Gr w6 w9)) := Lib.hid (fun v9 w9 ho g => by
        have hr := HREL.out.gr ((HW6.out).trans g)
        have hx : R3 w9 ((⟨LA, xr.length, lc⟩, xt, xv) : Rc) (⟨xr, xt, xv⟩ : Rwm) := ⟨rfl, HLAB.out.gr (HW6.out.trans g), rfl, rfl⟩
        have hall := ((hr.take k).app (hr.drop (k + 1))).app (RelL.one hx)
        rw [List.nil_append] at ho
        rw [hml] at hall
        obtain ⟨A7, c7, e, h⟩ := ho.raws hall.1 hall.2
        exact ⟨⟨A7, c7, by rw [e, hmln], h⟩, g⟩)
      clear hml
      go_upto_region 16 with fail
      go_cut [14] from 85 (fun s14 wx => (∃ A7 c7, s14 = .slice A7 l.length c7 ∧ Hid (RawsAt wx A7 ml)) ∧ Hid (Gr w6 wx))
      case first =>
       by_cases hck : c = k + 1
       · subst hck
         have z1 : (k : Int) ≤ (k : Int) + 1 := by omega
         have z2 : k ≤ k + 1 := by omega
         have HDD : Hid (rcs.drop (k + 1) = []) := Lib.hid (List.drop_eq_nil_of_le (by omega))
         go_region_held3 (fun w' => w'.cell? ⟨ab, ao + k * 3, none⟩ = some (.slice LA xr.length lc) ∧ w'.cell? ⟨ab, ao + k * 3 + 1, none⟩ = some (.int .i64 xt) ∧ w'.cell? ⟨ab, ao + k * 3 + 2, none⟩ = some (.float .f64 xv))
           (first | exact ks9 | exact ks8 | exact ks7 | exact ⟨a1, a2, a3⟩ | go_keep)
           (first
             | (refine step_app2 rfl (.tmp 85) (.tmp 88) (by rfl) (by rfl) (by rfl) (by rfl) (app_next (w0 := w6) (l := []) (m := rcs.take k) ?_ ?_ ?_ ?_ ?_ ?_) ?_
                · first | exact ((Gr.refl _).alloc _ _).drew | exact (((Gr.refl _).alloc _ _).alloc _ _).drew
                · first
                    | exact (own_nilS w6 _ (Nat.le_refl _)).gr (Gr.refl _).drew
                    | exact (own_nilS w6 _ (Nat.le_refl _)).gr ((Gr.refl _).alloc _ _).drew
                    | exact (own_nilS2 w6 _ _ (Nat.le_refl _)).gr (Gr.refl _).drew
                · intro h; cases h
                · first | exact HRCT.out _ ((Gr.refl _).alloc _ _).drew | exact HRCT.out _ (((Gr.refl _).alloc _ _).alloc _ _).drew
                · rw [List.length_take]; have := HLT.out; omega
                · have := HLT.out; simp; omega
                rintro v7 w7 ⟨ho7, g7, kp7⟩
                have ks7 : w7.cell? ⟨ab, ao + k * 3, none⟩ = some (.slice LA xr.length lc) ∧ w7.cell? ⟨ab, ao + k * 3 + 1, none⟩ = some (.int .i64 xt) ∧ w7.cell? ⟨ab, ao + k * 3 + 2, none⟩ = some (.float .f64 xv) := ⟨g7.cell HK.out.1, g7.cell HK.out.2.1, g7.cell HK.out.2.2⟩)
             | (refine step_app2 rfl (.tmp 89) (.tmp 93) (by rfl) (by rfl) (by rfl) (by rfl) (app_next (w0 := w6) (l := [] ++ rcs.take k) (m := rcs.drop (k + 1)) ?_ ?_ ?_ ?_ ?_ ?_) ?_
                · first | exact g7 | exact g7.alloc _ _
                · first | exact ho7 | exact ho7.gr ((Gr.refl _).alloc _ _)
                · intro h; cases h
                · rw [HDD.out]; exact RcsAt.nil _ _
                · rw [HDD.out]; have := HLT.out; show 0 = _; omega
                · have := HLT.out; simp; omega
                rintro v8 w8 ⟨ho8, g8, kp8⟩
                have ks8 : w8.cell? ⟨ab, ao + k * 3, none⟩ = some (.slice LA xr.length lc) ∧ w8.cell? ⟨ab, ao + k * 3 + 1, none⟩ = some (.int .i64 xt) ∧ w8.cell? ⟨ab, ao + k * 3 + 2, none⟩ = some (.float .f64 xv) := ⟨g8.cell HK.out.1, g8.cell HK.out.2.1, g8.cell HK.out.2.2⟩)
             | (refine step_app2 rfl (.tmp 94) (.tmp 99) (by rfl) (by rfl) (by rfl) (by rfl) (app_next (w0 := w6) (l := [] ++ rcs.take k ++ rcs.drop (k + 1)) (m := [((⟨LA, xr.length, lc⟩, xt, xv) : Rc)]) ?_ ?_ ?_ ?_ ?_ ?_) ?_
                · first | exact g8 | exact g8.alloc _ _
                · first | exact ho8 | exact ho8.gr ((Gr.refl _).alloc _ _)
                · intro h; cases h
                · first
                    | exact RcsAt.one w8 (⟨LA, xr.length, lc⟩, xt, xv) _
                    | exact (kp8 _ _ ⟨RcsAt.one w7 (⟨LA, xr.length, lc⟩, xt, xv) _, fun e => Nat.lt_irrefl _ (World.ownsRow.lt ho7 _ e).2⟩).1
                    | exact (kp8 _ _ (kp7 _ _ ⟨(RcsAt.one2 w6 _ (⟨LA, xr.length, lc⟩, xt, xv) _).gr (Gr.refl _).drew, fun e => absurd (Option.some.inj (show some w6.heap.size = some (w6.heap.size + 1) from e)) (by omega)⟩)).1
                    | exact (kp8 _ _ (kp7 _ _ ⟨((RcsAt.one w6 (⟨LA, xr.length, lc⟩, xt, xv) _).gr ((Gr.refl _).alloc _ _)).gr (Gr.refl _).drew, fun e => absurd (Option.some.inj (show some (w6.heap.size + 1) = some w6.heap.size from e)) (by omega)⟩)).1
                · rfl
                · have := HLT.out; simp; omega
                rintro v9 w9 ⟨ho9, g9, kp9⟩
                have ks9 : w9.cell? ⟨ab, ao + k * 3, none⟩ = some (.slice LA xr.length lc) ∧ w9.cell? ⟨ab, ao + k * 3 + 1, none⟩ = some (.int .i64 xt) ∧ w9.cell? ⟨ab, ao + k * 3 + 2, none⟩ = some (.float .f64 xv) := ⟨g9.cell HK.out.1, g9.cell HK.out.2.1, g9.cell HK.out.2.2⟩)
             | fail)
         all_goals
           go_wp2
           go_meet
           exact HFIN.out _ _ ho9 g9
       · skip
         go_region_held3 (fun w' => w'.cell? ⟨ab, ao + k * 3, none⟩ = some (.slice LA xr.length lc) ∧ w'.cell? ⟨ab, ao + k * 3 + 1, none⟩ = some (.int .i64 xt) ∧ w'.cell? ⟨ab, ao + k * 3 + 2, none⟩ = some (.float .f64 xv))
           (first | exact ks9 | exact ks8 | exact ks7 | exact ⟨a1, a2, a3⟩ | go_keep)
           (first
             | (refine step_app2 rfl (.tmp 85) (.tmp 88) (by rfl) (by rfl) (by rfl) (by rfl) (app_next (w0 := w6) (l := []) (m := rcs.take k) ?_ ?_ ?_ ?_ ?_ ?_) ?_
                · first | exact ((Gr.refl _).alloc _ _).drew | exact (((Gr.refl _).alloc _ _).alloc _ _).drew
                · first
                    | exact (own_nilS w6 _ (Nat.le_refl _)).gr (Gr.refl _).drew
                    | exact (own_nilS w6 _ (Nat.le_refl _)).gr ((Gr.refl _).alloc _ _).drew
                    | exact (own_nilS2 w6 _ _ (Nat.le_refl _)).gr (Gr.refl _).drew
                · intro h; cases h
                · first | exact HRCT.out _ ((Gr.refl _).alloc _ _).drew | exact HRCT.out _ (((Gr.refl _).alloc _ _).alloc _ _).drew
                · rw [List.length_take]; have := HLT.out; omega
                · have := HLT.out; simp; omega
                rintro v7 w7 ⟨ho7, g7, kp7⟩
                have ks7 : w7.cell? ⟨ab, ao + k * 3, none⟩ = some (.slice LA xr.length lc) ∧ w7.cell? ⟨ab, ao + k * 3 + 1, none⟩ = some (.int .i64 xt) ∧ w7.cell? ⟨ab, ao + k * 3 + 2, none⟩ = some (.float .f64 xv) := ⟨g7.cell HK.out.1, g7.cell HK.out.2.1, g7.cell HK.out.2.2⟩)
             | (refine step_app2 rfl (.tmp 89) (.tmp 93) (by rfl) (by rfl) (by rfl) (by rfl) (app_next (w0 := w6) (l := [] ++ rcs.take k) (m := rcs.drop (k + 1)) ?_ ?_ ?_ ?_ ?_ ?_) ?_
                · first | exact g7 | exact g7.alloc _ _
                · first | exact ho7 | exact ho7.gr ((Gr.refl _).alloc _ _)
                · intro h; cases h
                · first | exact HRCD.out _ g7 | exact HRCD.out _ (g7.alloc _ _)
                · rw [List.length_drop]; have := HLT.out; omega
                · have := HLT.out; simp; omega
                rintro v8 w8 ⟨ho8, g8, kp8⟩
                have ks8 : w8.cell? ⟨ab, ao + k * 3, none⟩ = some (.slice LA xr.length lc) ∧ w8.cell? ⟨ab, ao + k * 3 + 1, none⟩ = some (.int .i64 xt) ∧ w8.cell? ⟨ab, ao + k * 3 + 2, none⟩ = some (.float .f64 xv) := ⟨g8.cell HK.out.1, g8.cell HK.out.2.1, g8.cell HK.out.2.2⟩)
             | (refine step_app2 rfl (.tmp 94) (.tmp 99) (by rfl) (by rfl) (by rfl) (by rfl) (app_next (w0 := w6) (l := [] ++ rcs.take k ++ rcs.drop (k + 1)) (m := [((⟨LA, xr.length, lc⟩, xt, xv) : Rc)]) ?_ ?_ ?_ ?_ ?_ ?_) ?_
                · first | exact g8 | exact g8.alloc _ _
                · first | exact ho8 | exact ho8.gr ((Gr.refl _).alloc _ _)
                · intro h; cases h
                · first
                    | exact RcsAt.one w8 (⟨LA, xr.length, lc⟩, xt, xv) _
                    | exact (kp8 _ _ ⟨RcsAt.one w7 (⟨LA, xr.length, lc⟩, xt, xv) _, fun e => Nat.lt_irrefl _ (World.ownsRow.lt ho7 _ e).2⟩).1
                    | exact (kp8 _ _ (kp7 _ _ ⟨(RcsAt.one2 w6 _ (⟨LA, xr.length, lc⟩, xt, xv) _).gr (Gr.refl _).drew, fun e => absurd (Option.some.inj (show some w6.heap.size = some (w6.heap.size + 1) from e)) (by omega)⟩)).1
                    | exact (kp8 _ _ (kp7 _ _ ⟨((RcsAt.one w6 (⟨LA, xr.length, lc⟩, xt, xv) _).gr ((Gr.refl _).alloc _ _)).gr (Gr.refl _).drew, fun e => absurd (Option.some.inj (show some (w6.heap.size + 1) = some w6.heap.size from e)) (by omega)⟩)).1
                · rfl
                · have := HLT.out; simp; omega
                rintro v9 w9 ⟨ho9, g9, kp9⟩
                have ks9 : w9.cell? ⟨ab, ao + k * 3, none⟩ = some (.slice LA xr.length lc) ∧ w9.cell? ⟨ab, ao + k * 3 + 1, none⟩ = some (.int .i64 xt) ∧ w9.cell? ⟨ab, ao + k * 3 + 2, none⟩ = some (.float .f64 xv) := ⟨g9.cell HK.out.1, g9.cell HK.out.2.1, g9.cell HK.out.2.2⟩)
             | fail)
         all_goals
           go_wp2
           go_meet
           exact HFIN.out _ _ ho9 g9
      case rest =>
      obtain ⟨⟨A7, c7, rfl, HR7⟩, HG7⟩ := hcut
      obtain ⟨w7, rfl⟩ : ∃ w7 : World, w7 = wc := ⟨_, rfl⟩
      have HW7 := Lib.hid (HW6.out.trans HG7.out)
      have hmem : ∀ y ∈ ml, y ∈ l := fun y hy => by
        rw [← HML.out] at hy
        rw [HDIV.out]
        simp only [List.mem_append, List.mem_cons, List.not_mem_nil, or_false] at hy ⊢
        rcases hy with (h | h) | h
        · exact .inl h
        · exact .inr (.inr h)
        · exact .inr (.inl h)
      have hwm : Wr ml := ⟨by omega, fun y hy => HWR.out.l y (hmem y hy)⟩
      have hapart : ∀ y ∈ l.drop (k + 1), ¬ (setV (⟨xr, xt, xv⟩ : Rwm).l = setV y.l ∧ y.t = (⟨xr, xt, xv⟩ : Rwm).t) := fun y hy => by
        obtain ⟨i, hi, rfl⟩ := List.getElem_of_mem hy
        have hi2 : k + 1 + i < l.length := by rw [List.length_drop] at hi; omega
        rw [List.getElem_drop]
        exact HAP.out (k + 1 + i) (by omega) hi2 _ _ HKR.out (List.getElem?_eq_getElem hi2)
      have hst2 : StL gs ml := by
        have h1 := HSL.out
        rw [HDIV.out] at h1
        have h2 := h1.turn hapart
        rwa [HML.out] at h2
      have hem : errA ml = 0 := by
        have h1 := HE.out
        rw [HDIV.out] at h1
        have h2 := errA_turn h1
        rwa [HML.out] at h2
      have CN2 : Hid (Calls Tryz.prog 10 #[.slice A7 l.length c7] w7 fun e w' => Gr w7 w' ∧ ∃ S2, e = .returned (.tuple #[.pointer (some ⟨S2, 0, none⟩), .int .i64 0]) ∧ StAt w' S2 gs) := Lib.hid (by
        have h0 := newS_any A7 c7 ml w7 HR7.out hwm (HKN.out.gr HW7.out) (HTW.out.gr HW7.out)
        rw [hmln] at h0
        refine h0.mono fun e w' ⟨h1, h2⟩ => ?_
        rw [if_pos hem] at h2
        obtain ⟨S2, g', rfl, h3, h4⟩ := h2
        obtain rfl := h4.unique hst2
        exact ⟨h1, S2, rfl, h3⟩)
      have HST7 := Lib.hid (HST.out.gr ((HG3.out.trans HG.out).trans HG7.out))
      have HRS7 := Lib.hid (HRS.out.gr ((HG3.out.trans HG.out).trans HG7.out))
      have nl : ((gs.length : Int) != (gs.length : Int)) = false := by simp
      have CL1 := Lib.hid (fun W (g : Gr w7 W) => len_any S gs W (HST7.out.gr g))
      clear hwm hapart hem
      go_wp2_with (first
        | (go_at_call 10; refine CN2.out.mono ?_; rintro e w8 ⟨g8, S2, rfl, hst8⟩; have HG8 := Lib.hid g8; have HST8 := Lib.hid hst8; have CL2 := Lib.hid (len_any S2 gs w8 hst8); clear g8 hst8)
        | (go_at_call_of 15 (Value.pointer (some ⟨S2, 0, none⟩)); refine CL2.out.mono ?_; rintro e w9 ⟨rfl, rfl⟩)
        | (go_at_call_of 15 (Value.pointer (some ⟨S, 0, none⟩)); refine (CL1.out _ HG8.out).mono ?_; rintro e w9 ⟨rfl, rfl⟩)
        | fail)
      obtain ⟨wn, rfl⟩ : ∃ wn : World, wn = w8 := ⟨_, rfl⟩
      have HRS8 := Lib.hid (HRS7.out.gr HG8.out)
      obtain ⟨A0, c0, hv, -⟩ := HRS8.out.row.form (fun _ => rfl)
      have s1 := HRS8.out.sCell.1
      have hln := HRS8.out.len
      rw [hv, hln] at s1
      have HV : Hid (v = .slice A0 cs.length c0) := Lib.hid hv
      have HS1 : Hid (∀ W, Gr wn W → W.cell? ⟨R, 0, none⟩ = some (.slice A0 gs.length c0)) := Lib.hid (fun W g => g.cell s1)
      have HPP : Hid (∀ s ∈ gs, 0 < s.2.length ∧ s.2.length ≤ 1000 ∧ s.1.length ≤ 1000) := Lib.hid (fun s hs => by
        obtain ⟨q, -, h2, h3⟩ := HSL.out.s s hs
        obtain ⟨r, hr, e⟩ := (HSL.out.mem s.1).1 (List.mem_map_of_mem hs)
        have hp : 0 < (smp s.1 l).length := by
          unfold smp
          rw [List.length_map]
          exact List.length_pos_of_mem (List.mem_filter.2 ⟨hr, by simpa using e⟩)
        refine ⟨by rw [h3]; exact lasts_pos (by rw [h2.length]; exact hp), ?_, by rw [← e]; exact Nat.le_trans (setV_len _) (by omega)⟩
        rw [h3]
        refine Nat.le_trans (lasts_len q) ?_
        rw [h2.length]
        exact Nat.le_trans (smp_len _ _) (by omega))
      have hgn : gs.length ≤ 1000 := by
        obtain ⟨A', c', cs', -, -, h3, -⟩ := HST7.out.cell
        exact h3
      have HWN := Lib.hid (HW7.out.trans HG8.out)
      clear hv hln s1 a1 a2 a3
      go_loopw [17] (fun i9 wx => ∃ k : Nat, k ≤ gs.length ∧ i9 = .int .i64 k ∧ Hid (Gr wn wx)) (fun i9 _ => gs.length - (intOf i9).toNat)
      case atStart => exact ⟨0, Nat.zero_le _, rfl, Lib.hid (Gr.refl _)⟩
      case round =>
        obtain ⟨i, hi, rfl, HX⟩ := hrel
        have s1 := HS1.out _ HX.out
        by_cases hlt3 : i < gs.length
        · obtain ⟨s, hs⟩ : ∃ s, gs[i]? = some s := ⟨_, List.getElem?_eq_getElem hlt3⟩
          obtain ⟨cc, hc⟩ : ∃ cc, cs[i]? = some cc := ⟨_, List.getElem?_eq_getElem (by have := HRS8.out.len; omega)⟩
          obtain ⟨g, cap, a2, c2, a1, c1, hv2, -, -, -, -, -, hat2, -, hl1, d1, d2, hgl⟩ := (HRS8.out.gr HX.out).face hc hs
          have CSE : Hid (Calls Tryz.prog 16 #[.pointer (some ⟨S2, 0, none⟩), .int .i64 i] wr fun e w' => Gr wr w' ∧ ∃ A1 A2 c1 c2, e = .returned (.tuple #[.agg #[.slice A1 s.1.length c1, .slice A2 s.2.length c2], .bool true]) ∧ LabsAt w' A1 s.1 ∧ At2 encP w' A2 s.2) := Lib.hid ((series_any S2 gs i wr (HST8.out.gr HX.out) HPP.out).mono fun e w' ⟨h1, h2⟩ => ⟨h1, by
            rcases h2 with ⟨k', s', A1, A2, c1, c2, e1, e2, rfl, h3, x, e4, -, -, -, -, h5⟩ | ⟨h3, -⟩
            · obtain rfl : i = k' := by omega
              rw [hs] at e2
              obtain rfl := Option.some.inj e2
              simp only at e4
              exact ⟨A1, A2, c1, c2, rfl, h3.1, by rw [e4]; exact at2_rowP h5⟩
            · omega⟩)
          rw [HV.out] at hv2
          injection hv2 with hv3 hv4 hv5
          subst hv3; subst hv5
          have z1 : (i : Int) < (gs.length : Int) := by omega
          have z2 : (0 : Int) ≤ (i : Int) := by omega
          have HL1 := Lib.hid hl1; have HAT2 := Lib.hid hat2
          have hb1 : s.1.length ≤ 1000 ∧ s.2.length ≤ 1000 := ⟨(HPP.out s (List.mem_of_getElem? hs)).2.2, (HPP.out s (List.mem_of_getElem? hs)).2.1⟩
          obtain ⟨x, sx⟩ := s
          simp only at d1 d2 HL1 HAT2 hb1 CSE
          clear hs hc hl1 hat2 hv4
          go_wp2_with (go_at_call 16; refine CSE.out.mono ?_; rintro e w8 ⟨g8, A1, A2, c3, c4, rfl, hla, hsa⟩; have s8 := g8.cell s1; have d3 := g8.cell d1; have d4 := g8.cell d2; have HL8 := Lib.hid hla; have HS8 := Lib.hid hsa; have HG8 := Lib.hid g8; clear hla hsa g8 s1 d1 d2)
          obtain ⟨Y, hY, gY, hbY⟩ := fresh w8 #[.slice A1 x.length c3, .slice A2 sx.length c4] 47
          have b0 := hbY 0 (.slice A1 x.length c3) rfl
          have b1 := hbY 1 (.slice A2 sx.length c4) rfl
          rw [hY]
          have s9 := gY.cell s8
          have d5 := gY.cell d3
          have d6 := gY.cell d4
          have HGY := Lib.hid ((HX.out.trans HG8.out).trans gY)
          have HG9Y := Lib.hid (HG8.out.trans gY)
          have CS1 := Lib.hid (gq (W := Y) (v := .bool true) fun W' g => by
            have := same_any A1 a1 x x c3 c1 W' ((HL8.out.gr gY).gr g) ((HL1.out.gr HG9Y.out).gr g) (by omega) (by omega)
            simpa using this)
          have CS2 := Lib.hid (gq (W := Y) fun W' g => samplesEq_any A2 a2 c4 c2 sx W' ((HS8.out.gr gY).gr g) ((HAT2.out.gr HG9Y.out).gr g) hb1.2)
          obtain ⟨N8, hN8⟩ : ∃ n, w8.heap.size = n := ⟨_, rfl⟩
          rw [hN8] at b0 b1 ⊢
          clear hN8 hY gY hbY s8 d3 d4
          have k1 := cell_regrown b0; have k2 := cell_regrown b1; have k3 := cell_regrown s9; have k4 := cell_regrown d5; have k5 := cell_regrown d6
          refine wp_region_quiet_below (by kernel_rfl) (by kernel_rfl) ?_
          repeat (quiet_step (first | exact CS1.out _ _ | exact CS2.out _ _))
          refine wpQuiet_nil ?_
          intro _ hw'
          obtain ⟨⟨dq, osq⟩, hw''⟩ := hw'
          subst hw''
          have HGF : Hid (Gr wn (Go.Sort.grow (redrawn Y dq) osq)) := Lib.hid (HGY.out.trans ⟨below_regrown Y dq osq⟩)
          clear k1 k2 k3 k4 k5 b0 b1 s9 d5 d6
          generalize Go.Sort.grow (redrawn Y dq) osq = w9 at *
          go_wp2
          go_roundw
          case rel => exact ⟨i + 1, by omega, by go_num, HGF⟩
          case measure => simp [intOf]; omega
        · obtain rfl : i = gs.length := by omega
          have z3 : ¬ (gs.length : Int) < (gs.length : Int) := by omega
          go_wp2
          go_ret
          exact ⟨rfl, HWN.out.trans HX.out⟩
theorem walkOrd (A : Option Addr) (c : Nat) (l : List Rwm) (t : Int) (w : World) (h : RawsAt w A l) (hw : WdR l) (hl : l.length ≤ maxLen) (hc : l.length ≤ c) (hll : ∀ r ∈ l, r.l.length ≤ maxLen) (hk : Kn w) (ht : Tab w) :
    Calls Tryz.prog 5 #[.slice A l.length c, .int .i64 t] w fun e w' => e = .returned (.bool true) ∧ Gr w w' := by
  by_cases hok : fewR l ∧ errA l = 0
  · exact walkOrd_some A c l t w h hw hl hc hll hk ht hok
  · exact walkOrd_none A c l t w h hw hl hll hk ht hok
end Go.Proofs.YtoglkgagdilfjaaGreatDoor
