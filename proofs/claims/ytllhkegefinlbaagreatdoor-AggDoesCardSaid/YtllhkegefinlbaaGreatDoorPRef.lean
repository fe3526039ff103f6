/- labels.Compare: new memory alone, told exactly. -/
import Derived.Test.YtllhkegefinlbaaGreatDoorCmp
import Derived.Shelf.SlSortCmp.QuietGrown
import Derived.Test.YtllhkegefinlbaaGreatDoorPRow
import Derived.Test.YtllhkegefinlbaaGreatDoorRefRight
import Derived.Test.YtllhkegefinlbaaGreatDoorFRef
namespace Go.Proofs.YtllhkegefinlbaaGreatDoor.Pt
open Go.RowKit Go.Sort
set_option maxRecDepth 100000
set_option maxHeartbeats 2000000

/-- so many draws, these blocks behind -/
def Gn (w w' : World) : Prop := ∃ q os', w' = grow (w.drewN q) os'
theorem Gn.refl (w : World) : Gn w w := ⟨0, #[], by rw [grow_empty]; rfl⟩
theorem Gn.trans {a b c : World} (h : Gn a b) (g : Gn b c) : Gn a c := by
  obtain ⟨q, os, rfl⟩ := h
  obtain ⟨q', os', rfl⟩ := g
  exact ⟨q + q', os ++ os', by show grow (grow ((a.drewN q).drewN q') os) os' = _; rw [grow_grow, World.drewN_drewN]⟩
theorem Gn.alloc {a b : World} (h : Gn a b) (o : Obj) : Gn a (b.alloc o) := by
  obtain ⟨q, os, rfl⟩ := h
  exact ⟨q, os ++ #[o], by rw [alloc_eq_grow, grow_grow]⟩
theorem Gn.gr {w w' : World} (h : Gn w w') : Gr w w' := by
  obtain ⟨q, os, rfl⟩ := h
  exact ⟨⟨rfl, rfl, rfl, by simp [grow], fun i hi => by
    show (w.heap ++ os)[i]? = w.heap[i]?
    rw [Array.getElem?_append_left hi]⟩⟩
theorem compare_gn (x y : Lb) (W : World) : Calls Tryz.prog 69 #[.agg #[.string x.1, .string x.2], .agg #[.string y.1, .string y.2]] W fun e w' => e = .returned (.int .i64 (cmpL x y)) ∧ Gn W w' :=
  (compare_any x.1 x.2 y.1 y.2 W).mono fun _ _ ⟨h, g⟩ => ⟨h, g ▸ ((Gn.refl _).alloc _).alloc _⟩
theorem compareG_any (A B : Option Addr) (a b : List Lb) (c d : Nat) (w : World) (ha : LabsAt w A a) (hb : LabsAt w B b) (la : a.length ≤ 1099511627776) (lb : b.length ≤ 1099511627776) :
    Calls Tryz.prog 38 #[.slice A a.length c, .slice B b.length d] w fun e w' => e = .returned (.int .i64 (cmpLs a b)) ∧ Gn w w' := by
  have HA := Lib.hid ha; have HB := Lib.hid hb
  clear ha hb
  by_cases hab : a.length ≤ b.length
  · go_enter Tryz.func38, Tryz.ntmps38
    go_wp2
    go_loopw [12] (fun i wr => ∃ k : Nat, k ≤ a.length ∧ i = .int .i64 k ∧ Hid (cmpLs a b = cmpLs (a.drop k) (b.drop k)) ∧ Gn w wr) (fun i _ => a.length - (intOf i).toNat)
    case atStart => exact ⟨0, by omega, rfl, rfl, Gn.refl _⟩
    case round =>
      obtain ⟨k, hk, rfl, HR, hg⟩ := hrel
      by_cases h1 : k < a.length
      · have ha : k < a.length := by omega
        have hb : k < b.length := by omega
        obtain ⟨b1, o1, rfl, c1, c2, -⟩ := (HA.out.gr hg.gr).at_ ha
        obtain ⟨b2, o2, rfl, d1, d2, -⟩ := (HB.out.gr hg.gr).at_ hb
        have HS := Lib.hid (cmpLs_step ha hb)
        obtain ⟨x, hx⟩ : ∃ x, a[k] = x := ⟨_, rfl⟩
        obtain ⟨y, hy⟩ : ∃ y, b[k] = y := ⟨_, rfl⟩
        rw [hx] at c1 c2
        rw [hy] at d1 d2
        have HE : Hid (cmpLs (a.drop k) (b.drop k) = if cmpL x y = 0 then cmpLs (a.drop (k + 1)) (b.drop (k + 1)) else cmpL x y) := by have := HS.out; rw [hx, hy] at this; exact this
        clear hx hy HS
        obtain ⟨v, hv⟩ : ∃ v, cmpL x y = v := ⟨_, rfl⟩
        have CC := Lib.hid (fun n os => Calls.grown_of (compare_gn x y (Go.Sort.grow (wr.drewN n) os)))
        rw [hv] at HE CC
        clear hv
        have k1 := cell_grown (World.block_lt_of_cell? wr _ c1) c1; have k2 := cell_grown (World.block_lt_of_cell? wr _ c2) c2; have k3 := cell_grown (World.block_lt_of_cell? wr _ d1) d1; have k4 := cell_grown (World.block_lt_of_cell? wr _ d2) d2
        clear c1 c2 d1 d2
        go_wp2_with fail
        refine wp_region_quiet_grown (by kernel_rfl) (by kernel_rfl) ?_
        repeat (quiet_step (exact CC.out _ _))
        refine wpQuiet_nil ?_
        intro _ hw'
        obtain ⟨⟨dq, osq⟩, hw''⟩ := hw'
        subst hw''
        have hg5 := hg.trans ⟨dq, osq, rfl⟩
        clear k1 k2 k3 k4 CC
        generalize Go.Sort.grow (wr.drewN dq) osq = w5 at *
        by_cases e1 : v = 0
        · subst e1
          have HN : Hid (cmpLs a b = cmpLs (a.drop (k + 1)) (b.drop (k + 1))) := Lib.hid (by rw [HR.out, HE.out]; rfl)
          go_wp2
          go_roundw
          case rel => exact ⟨k + 1, by omega, by go_num, HN, hg5⟩
          case measure => simp [intOf]; omega
        · have HN : Hid (cmpLs a b = v) := Lib.hid (by rw [HR.out, HE.out, if_neg e1])
          go_wp2
          go_ret
          exact ⟨by rw [HN.out]; rfl, hg5⟩
      · obtain rfl : k = a.length := by omega
        have HE := Lib.hid (cmpLs_end (a := a) (b := b) (by omega) (by omega) (.inl rfl))
        have HN : Hid (cmpLs a b = cmpI a.length b.length) := Lib.hid (by rw [HR.out, HE.out]; unfold cmpI; simp only [Int.ofNat_lt])
        go_wp2_with (go_at_call 70; refine (cmpInt_any _ _ _).mono ?_; rintro e w' ⟨rfl, rfl⟩)
        go_ret
        exact ⟨by rw [HN.out]; rfl, hg⟩
  · go_enter Tryz.func38, Tryz.ntmps38
    go_wp2
    go_loopw [12] (fun i wr => ∃ k : Nat, k ≤ b.length ∧ i = .int .i64 k ∧ Hid (cmpLs a b = cmpLs (a.drop k) (b.drop k)) ∧ Gn w wr) (fun i _ => b.length - (intOf i).toNat)
    case atStart => exact ⟨0, by omega, rfl, rfl, Gn.refl _⟩
    case round =>
      obtain ⟨k, hk, rfl, HR, hg⟩ := hrel
      by_cases h1 : k < b.length
      · have ha : k < a.length := by omega
        have hb : k < b.length := by omega
        obtain ⟨b1, o1, rfl, c1, c2, -⟩ := (HA.out.gr hg.gr).at_ ha
        obtain ⟨b2, o2, rfl, d1, d2, -⟩ := (HB.out.gr hg.gr).at_ hb
        have HS := Lib.hid (cmpLs_step ha hb)
        obtain ⟨x, hx⟩ : ∃ x, a[k] = x := ⟨_, rfl⟩
        obtain ⟨y, hy⟩ : ∃ y, b[k] = y := ⟨_, rfl⟩
        rw [hx] at c1 c2
        rw [hy] at d1 d2
        have HE : Hid (cmpLs (a.drop k) (b.drop k) = if cmpL x y = 0 then cmpLs (a.drop (k + 1)) (b.drop (k + 1)) else cmpL x y) := by have := HS.out; rw [hx, hy] at this; exact this
        clear hx hy HS
        obtain ⟨v, hv⟩ : ∃ v, cmpL x y = v := ⟨_, rfl⟩
        have CC := Lib.hid (fun n os => Calls.grown_of (compare_gn x y (Go.Sort.grow (wr.drewN n) os)))
        rw [hv] at HE CC
        clear hv
        have k1 := cell_grown (World.block_lt_of_cell? wr _ c1) c1; have k2 := cell_grown (World.block_lt_of_cell? wr _ c2) c2; have k3 := cell_grown (World.block_lt_of_cell? wr _ d1) d1; have k4 := cell_grown (World.block_lt_of_cell? wr _ d2) d2
        clear c1 c2 d1 d2
        go_wp2_with fail
        refine wp_region_quiet_grown (by kernel_rfl) (by kernel_rfl) ?_
        repeat (quiet_step (exact CC.out _ _))
        refine wpQuiet_nil ?_
        intro _ hw'
        obtain ⟨⟨dq, osq⟩, hw''⟩ := hw'
        subst hw''
        have hg5 := hg.trans ⟨dq, osq, rfl⟩
        clear k1 k2 k3 k4 CC
        generalize Go.Sort.grow (wr.drewN dq) osq = w5 at *
        by_cases e1 : v = 0
        · subst e1
          have HN : Hid (cmpLs a b = cmpLs (a.drop (k + 1)) (b.drop (k + 1))) := Lib.hid (by rw [HR.out, HE.out]; rfl)
          go_wp2
          go_roundw
          case rel => exact ⟨k + 1, by omega, by go_num, HN, hg5⟩
          case measure => simp [intOf]; omega
        · have HN : Hid (cmpLs a b = v) := Lib.hid (by rw [HR.out, HE.out, if_neg e1])
          go_wp2
          go_ret
          exact ⟨by rw [HN.out]; rfl, hg5⟩
      · obtain rfl : k = b.length := by omega
        have HE := Lib.hid (cmpLs_end (a := a) (b := b) (by omega) (by omega) (.inr rfl))
        have HN : Hid (cmpLs a b = cmpI a.length b.length) := Lib.hid (by rw [HR.out, HE.out]; unfold cmpI; simp only [Int.ofNat_lt])
        go_wp2_with (go_at_call 70; refine (cmpInt_any _ _ _).mono ?_; rintro e w' ⟨rfl, rfl⟩)
        go_ret
        exact ⟨by rw [HN.out]; rfl, hg⟩
end Go.Proofs.YtllhkegefinlbaaGreatDoor.Pt
/- Right, rises, the program's: do points' labels rise? -/
namespace Go.Proofs.YtllhkegefinlbaaGreatDoor.Pt
open Go.RowKit Go.Sort
set_option maxRecDepth 100000
set_option maxHeartbeats 2000000
attribute [local irreducible] wpQuiet

theorem rises_any (A : Option Addr) (l : List Pt) (c : Nat) (w : World) (h : PtsAt w A l) (hs : SmP l) :
    Calls Tryz.prog 39 #[.slice A l.length c] w fun e w' => e = .returned (.bool (risB l)) ∧ Gr w w' := by
  have HL := Lib.hid h; have HS := Lib.hid hs
  have hlen : l.length ≤ 1000 := hs.1
  clear h hs
  go_enter Tryz.func39, Tryz.ntmps39
  go_wp2
  go_loopw [6] (fun i wr => ∃ k : Nat, k ≤ l.length ∧ i = .int .i64 k ∧ Hid (risTo l (k)) ∧ Gr w wr) (fun i _ => l.length - (intOf i).toNat)
  case atStart => exact ⟨0, Nat.zero_le _, rfl, risTo_0 l, Gr.refl _⟩
  case round =>
    obtain ⟨k, hk, rfl, HU, hg⟩ := hrel
    by_cases hlt : k < l.length
    · by_cases hk0 : k = 0
      · have hd : decide (0 < k) = false := by simp; omega
        have HN : Hid (risTo l (k + 1)) := by subst hk0; exact risTo_1 l
        clear hk0
        go_wp2_with fail
        go_quiet (fail)
        go_wp2
        go_roundw
        case rel => exact ⟨k + 1, by omega, by go_num, HN, by go_simp; exact hg.drewN _⟩
        case measure => simp [intOf]; omega
      · obtain ⟨j, rfl⟩ : ∃ j, k = j + 1 := ⟨k - 1, by omega⟩
        have hjl : j < l.length := by omega
        obtain ⟨b, o, s1, n1, rfl, c1, -, la1, -⟩ := (HL.out.gr hg).cell hjl
        obtain ⟨b', o', s2, n2, hbo, c2, -, la2, -⟩ := (HL.out.gr hg).cell hlt
        obtain ⟨rfl, rfl⟩ : b' = b ∧ o' = o := by injection hbo with hbo; injection hbo with h1 h2; exact ⟨h1.symm, h2.symm⟩
        clear hbo
        have gx := List.getElem?_eq_getElem hjl
        have gy := List.getElem?_eq_getElem hlt
        have m1 := HS.out.at_ hjl
        have m2 := HS.out.at_ hlt
        obtain ⟨x, hx⟩ : ∃ x, l[j] = x := ⟨_, rfl⟩
        obtain ⟨y, hy⟩ : ∃ y, l[j + 1] = y := ⟨_, rfl⟩
        rw [hx] at c1 la1 gx m1
        rw [hy] at c2 la2 gy m2
        have CC := Lib.hid (gq (W := wr) fun W' g => pCompare_any s1 s2 x.1 y.1 n1 n2 W' (la1.gr g) (la2.gr g) (by have := m1.1; omega) (by have := m2.1; omega))
        have outy : ltLs x.1 y.1 → Hid (risTo l (j + 1 + 1)) := fun h => risTo_s HU.out gx gy h
        have outn : ¬ ltLs x.1 y.1 → Hid (risB l = false) := fun h => ris_not gx gy h
        have OY := Lib.hid outy; have ON := Lib.hid outn
        obtain ⟨v, hv⟩ : ∃ v, cmpLs x.1 y.1 = v := ⟨_, rfl⟩
        rw [hv] at CC
        have HV := Lib.hid hv
        have k1 := cell_regrown c1; have k2 := cell_regrown c2
        have hd : decide (0 < j + 1) = true := by simp
        have f1 : IntKind.i64.wrap (j : Int) = (j : Int) := IntWalk.i64_in _ (by omega)
        have f2 : (j : Int) < (l.length : Int) := by omega
        have f3 : (0 : Int) ≤ j := by omega
        have f4 : (j : Int) + 1 < (l.length : Int) := by omega
        have f5 : (0 : Int) ≤ (j : Int) + 1 := by omega
        clear c1 c2 la1 la2 gx gy m1 m2 hx hy outy outn hv
        by_cases hv0 : v < 0
        · have HN := OY.out (by unfold ltLs; rw [HV.out]; exact hv0)
          go_wp2_with fail
          refine wp_region_quiet_below (by kernel_rfl) (by kernel_rfl) ?_
          repeat (quiet_step (exact CC.out _ _))
          refine wpQuiet_nil ?_
          intro _ hw'
          obtain ⟨⟨dq, osq⟩, hw''⟩ := hw'
          subst hw''
          have hg5 := hg.trans ⟨below_regrown wr dq osq⟩
          clear k1 k2 CC f1
          generalize Go.Sort.grow (redrawn wr dq) osq = w5 at *
          go_wp2
          go_roundw
          case rel => exact ⟨j + 1 + 1, by omega, by go_num, HN, hg5⟩
          case measure => simp [intOf]; omega
        · have HN := ON.out (by unfold ltLs; rw [HV.out]; exact hv0)
          have hv1 : 0 ≤ v := by omega
          go_wp2_with fail
          refine wp_region_quiet_below (by kernel_rfl) (by kernel_rfl) ?_
          repeat (quiet_step (exact CC.out _ _))
          refine wpQuiet_nil ?_
          intro _ hw'
          obtain ⟨⟨dq, osq⟩, hw''⟩ := hw'
          subst hw''
          have hg5 := hg.trans ⟨below_regrown wr dq osq⟩
          clear k1 k2 CC f1
          generalize Go.Sort.grow (redrawn wr dq) osq = w5 at *
          go_wp2
          go_ret
          exact ⟨by rw [HN.out]; rfl, hg5⟩
    · obtain rfl : k = l.length := by omega
      have HN : Hid (risB l = true) := by unfold risB; exact Lib.hid (decide_eq_true (risTo_end HU.out))
      go_wp2
      go_ret
      exact ⟨by rw [HN.out]; rfl, hg⟩
/-- a vector? -/
theorem okP_all {l : List Pt} (h : okP (l.take l.length) = true) : okP l = true := by rwa [List.take_length] at h
end Go.Proofs.YtllhkegefinlbaaGreatDoor.Pt
/- The reference's Right, Same. -/
namespace Go.Proofs.YtllhkegefinlbaaGreatDoor.Pt
open Go.RowKit Go.Sort
set_option maxRecDepth 100000
set_option maxHeartbeats 4000000
attribute [local irreducible] wpQuiet

/-- a contract that leaves the world alone, in a drawn region's worlds -/
theorem gq0 {f : FuncId} {args : Array Value} {v : Value} {W : World} (h : ∀ W', Calls Tryz.prog f args W' fun e w' => e = .returned v ∧ W' = w') (d : Nat) (os : Array Obj) :
    Calls Tryz.prog f args (Go.Sort.grow (redrawn W d) os) fun e w'' => e = .returned v ∧ ∃ q : Regrown, w'' = Go.Sort.grow (redrawn W q.d) q.os :=
  (h _).mono fun _ _ ⟨h, g⟩ => ⟨h, ⟨d, os⟩, g.symm⟩

theorem rvright_any (A : Option Addr) (l : List Pt) (c : Nat) (w : World) (h : PtsAt w A l) (hs : SmP l) :
    Calls Tryz.prog 16 #[.slice A l.length c] w fun e w' => e = .returned (.bool (vecB l)) ∧ Gr w w' := by
  have HL := Lib.hid h; have HS := Lib.hid hs
  have hlen : l.length ≤ 1000 := hs.1
  clear h hs
  go_enter Tryz.func16, Tryz.ntmps16
  go_wp2
  go_loopw [3] (fun i wr => ∃ k : Nat, k ≤ l.length ∧ i = .int .i64 k ∧ Hid (okP (l.take k) = true ∧ risTo l k) ∧ Gr w wr) (fun i _ => l.length - (intOf i).toNat)
  case atStart => exact ⟨0, Nat.zero_le _, rfl, ⟨rfl, risTo_0 l⟩, Gr.refl _⟩
  case round =>
    obtain ⟨k, hk, rfl, HU, hg⟩ := hrel
    by_cases hlt : k < l.length
    · obtain ⟨b, o, s1, n1, rfl, c1, -, la1, -⟩ := (HL.out.gr hg).cell hlt
      have m1 := HS.out.at_ hlt
      have outn : rightB (l[k]).1 = false → Hid (vecB l = false) := fun h => by unfold vecB; rw [okP_not hlt h]; exact Lib.hid rfl
      have outk : rightB (l[k]).1 = true → Hid (okP (l.take (k + 1)) = true) := fun h => by rw [okP_take hlt, HU.out.1, h]; exact Lib.hid rfl
      have gy := List.getElem?_eq_getElem hlt
      obtain ⟨y, hy⟩ : ∃ y, l[k] = y := ⟨_, rfl⟩
      rw [hy] at c1 la1 m1 outn outk gy
      have C1 := Lib.hid (gq (W := wr) fun W' g => rRight_any s1 y.1 n1 W' (la1.gr g) m1.2 (by have := m1.1; omega))
      have k1 := cell_regrown c1
      have ON := Lib.hid outn; have OK := Lib.hid outk
      have HLA := Lib.hid la1; have HM := Lib.hid m1; have HGY := Lib.hid gy
      have f4 : (k : Int) < (l.length : Int) := by omega
      have f5 : (0 : Int) ≤ (k : Int) := by omega
      clear hy outn outk la1 m1 gy c1
      obtain ⟨v, hv⟩ : ∃ v, rightB y.1 = v := ⟨_, rfl⟩
      rw [hv] at C1
      cases v
      · have HN := ON.out hv
        clear hv
        go_wp2_with fail
        refine wp_region_quiet_below (by kernel_rfl) (by kernel_rfl) ?_
        repeat (quiet_step ((go_at_call 41; exact C1.out _ _)))
        refine wpQuiet_nil ?_
        intro _ hw'
        obtain ⟨⟨dq, osq⟩, hw''⟩ := hw'
        subst hw''
        have hg5 := hg.trans ⟨below_regrown wr dq osq⟩
        clear k1 C1
        generalize Go.Sort.grow (redrawn wr dq) osq = w5 at *
        go_wp2
        go_ret
        exact ⟨by rw [HN.out]; rfl, hg5⟩
      · have HK := OK.out hv
        clear hv
        by_cases hk0 : k = 0
        · have hd : decide (0 < k) = false := by simp; omega
          have HN : Hid (okP (l.take (k + 1)) = true ∧ risTo l (k + 1)) := Lib.hid ⟨HK.out, by subst hk0; exact risTo_1 l⟩
          clear hk0
          go_wp2_with fail
          refine wp_region_quiet_below (by kernel_rfl) (by kernel_rfl) ?_
          repeat (quiet_step ((go_at_call 41; exact C1.out _ _)))
          refine wpQuiet_nil ?_
          intro _ hw'
          obtain ⟨⟨dq, osq⟩, hw''⟩ := hw'
          subst hw''
          have hg5 := hg.trans ⟨below_regrown wr dq osq⟩
          clear k1 C1
          generalize Go.Sort.grow (redrawn wr dq) osq = w5 at *
          go_wp2
          go_roundw
          case rel => exact ⟨k + 1, by omega, by go_num, HN, hg5⟩
          case measure => simp [intOf]; omega
        · obtain ⟨j, rfl⟩ : ∃ j, k = j + 1 := ⟨k - 1, by omega⟩
          have hjl : j < l.length := by omega
          obtain ⟨b', o', s2, n2, hbo, c2, -, la2, -⟩ := (HL.out.gr hg).cell hjl
          obtain ⟨rfl, rfl⟩ : b' = b ∧ o' = o := by injection hbo with hbo; injection hbo with h1 h2; exact ⟨h1.symm, h2.symm⟩
          clear hbo
          have gx := List.getElem?_eq_getElem hjl
          have m2 := HS.out.at_ hjl
          obtain ⟨x, hx⟩ : ∃ x, l[j] = x := ⟨_, rfl⟩
          rw [hx] at c2 la2 gx m2
          have C2 := Lib.hid (gq (W := wr) fun W' g => rCompare_any s2 s1 x.1 y.1 n2 n1 W' (la2.gr g) (HLA.out.gr g) (by have := m2.1; omega) (by have := HM.out.1; omega))
          have outy : ltLs x.1 y.1 → Hid (okP (l.take (j + 1 + 1)) = true ∧ risTo l (j + 1 + 1)) := fun h => Lib.hid ⟨HK.out, risTo_s HU.out.2 gx HGY.out h⟩
          have outn : ¬ ltLs x.1 y.1 → Hid (vecB l = false) := fun h => by unfold vecB; rw [ris_not gx HGY.out h, Bool.and_false]; exact Lib.hid rfl
          have OY := Lib.hid outy; have ON2 := Lib.hid outn
          obtain ⟨v, hv⟩ : ∃ v, cmpLs x.1 y.1 = v := ⟨_, rfl⟩
          rw [hv] at C2
          have HV := Lib.hid hv
          have k2 := cell_regrown c2
          have hd : decide (0 < j + 1) = true := by simp
          have f1 : IntKind.i64.wrap (j : Int) = (j : Int) := IntWalk.i64_in _ (by omega)
          have f2 : (j : Int) < (l.length : Int) := by omega
          have f3 : (0 : Int) ≤ j := by omega
          have f6 : (j : Int) + 1 < (l.length : Int) := by omega
          have f7 : (0 : Int) ≤ (j : Int) + 1 := by omega
          clear c2 la2 gx m2 hx outy outn hv
          by_cases hv0 : v < 0
          · have HN := OY.out (by unfold ltLs; rw [HV.out]; exact hv0)
            go_wp2_with fail
            refine wp_region_quiet_below (by kernel_rfl) (by kernel_rfl) ?_
            repeat (quiet_step (first | (go_at_call 41; exact C1.out _ _) | (go_at_call 42; exact C2.out _ _)))
            refine wpQuiet_nil ?_
            intro _ hw'
            obtain ⟨⟨dq, osq⟩, hw''⟩ := hw'
            subst hw''
            have hg5 := hg.trans ⟨below_regrown wr dq osq⟩
            clear k1 k2 C1 C2 f1
            generalize Go.Sort.grow (redrawn wr dq) osq = w5 at *
            go_wp2
            go_roundw
            case rel => exact ⟨j + 1 + 1, by omega, by go_num, HN, hg5⟩
            case measure => simp [intOf]; omega
          · have HN := ON2.out (by unfold ltLs; rw [HV.out]; exact hv0)
            have hv1 : 0 ≤ v := by omega
            go_wp2_with fail
            refine wp_region_quiet_below (by kernel_rfl) (by kernel_rfl) ?_
            repeat (quiet_step (first | (go_at_call 41; exact C1.out _ _) | (go_at_call 42; exact C2.out _ _)))
            refine wpQuiet_nil ?_
            intro _ hw'
            obtain ⟨⟨dq, osq⟩, hw''⟩ := hw'
            subst hw''
            have hg5 := hg.trans ⟨below_regrown wr dq osq⟩
            clear k1 k2 C1 C2 f1
            generalize Go.Sort.grow (redrawn wr dq) osq = w5 at *
            go_wp2
            go_ret
            exact ⟨by rw [HN.out]; rfl, hg5⟩
    · obtain rfl : k = l.length := by omega
      have HN : Hid (vecB l = true) := by unfold vecB risB; rw [okP_all HU.out.1, decide_eq_true (risTo_end HU.out.2)]; exact Lib.hid rfl
      go_wp2
      go_ret
      exact ⟨by rw [HN.out]; rfl, hg⟩

/-! ### the same -/
def sameP (a b : List Pt) : Bool := decide (a.map canP = b.map canP)
theorem sameP_len {a b : List Pt} (h : a.length ≠ b.length) : sameP a b = false := by
  unfold sameP
  rw [decide_eq_false_iff_not]
  intro e
  have := congrArg List.length e
  simp at this
  exact h this
theorem canB {x y : Nat} : Fv.sameB x y = true ↔ Fv.canon x = Fv.canon y := by unfold Fv.sameB; simp; omega
theorem sameP_step {a b : List Pt} {k : Nat} (ha : k < a.length) (hb : k < b.length) : sameP (a.drop k) (b.drop k) = (decide ((a[k]).1 = (b[k]).1) && Fv.sameB (a[k]).2 (b[k]).2 && sameP (a.drop (k + 1)) (b.drop (k + 1))) := by
  unfold sameP
  rw [List.drop_eq_getElem_cons ha, List.drop_eq_getElem_cons hb, List.map_cons, List.map_cons, Bool.eq_iff_iff]
  simp only [Bool.and_eq_true, decide_eq_true_eq, List.cons.injEq, canB, canP, Prod.mk.injEq]
theorem sameP_end {a b : List Pt} (h : a.length = b.length) : sameP (a.drop a.length) (b.drop a.length) = true := by
  rw [List.drop_length, h, List.drop_length]; simp [sameP]
theorem sameP_refl (a : List Pt) : sameP a a = true := by simp [sameP]
theorem sameP_of {a b : List Pt} (h : a.map canP = b.map canP) : sameP a b = true := by simp [sameP, h]

theorem rvsame_any (A B : Option Addr) (a b : List Pt) (c d : Nat) (w : World) (ha : PtsAt w A a) (hb : PtsAt w B b) (sa : SmP a) (sb : SmP b) :
    Calls Tryz.prog 9 #[.slice A a.length c, .slice B b.length d] w fun e w' => e = .returned (.bool (sameP a b)) ∧ Gr w w' := by
  have HA := Lib.hid ha; have HB := Lib.hid hb; have SA := Lib.hid sa; have SB := Lib.hid sb
  have la : a.length ≤ 1000 := sa.1
  have lb : b.length ≤ 1000 := sb.1
  clear ha hb sa sb
  by_cases hl : a.length = b.length
  · have HE := Lib.hid (sameP_end hl)
    have HLE := Lib.hid hl
    obtain ⟨n, hn⟩ : ∃ n, b.length = n := ⟨_, rfl⟩
    have hn' : a.length = n := by omega
    rw [hn, hn']
    have HNA := Lib.hid hn'; have HNB := Lib.hid hn
    have hn5 : n ≤ 1000 := by omega
    clear hl la lb hn hn'
    go_enter Tryz.func9, Tryz.ntmps9
    go_wp2
    go_loopw [5] (fun i wr => ∃ k : Nat, k ≤ n ∧ i = .int .i64 k ∧ Hid (sameP a b = sameP (a.drop k) (b.drop k)) ∧ Gr w wr) (fun i _ => n - (intOf i).toNat)
    case atStart => exact ⟨0, Nat.zero_le _, rfl, rfl, Gr.refl _⟩
    case round =>
      obtain ⟨k, hk, rfl, HR, hg⟩ := hrel
      by_cases hlt : k < n
      · have ka : k < a.length := by rw [HNA.out]; exact hlt
        have kb : k < b.length := by rw [HNB.out]; exact hlt
        obtain ⟨b1, o1, s1, n1, rfl, c1, e1, la1, -⟩ := (HA.out.gr hg).cell ka
        obtain ⟨b2, o2, s2, n2, rfl, c2, e2, la2, -⟩ := (HB.out.gr hg).cell kb
        have m1 := SA.out.at_ ka
        have m2 := SB.out.at_ kb
        have HS := Lib.hid (sameP_step ka kb)
        obtain ⟨x, hx⟩ : ∃ x, a[k] = x := ⟨_, rfl⟩
        obtain ⟨y, hy⟩ : ∃ y, b[k] = y := ⟨_, rfl⟩
        rw [hx] at c1 e1 la1 m1
        rw [hy] at c2 e2 la2 m2
        have HE2 : Hid (sameP (a.drop k) (b.drop k) = (decide (x.1 = y.1) && Fv.sameB x.2 y.2 && sameP (a.drop (k + 1)) (b.drop (k + 1)))) := by have := HS.out; rw [hx, hy] at this; exact Lib.hid this
        have C1 := Lib.hid (gq (W := wr) fun W' g => same_any s1 s2 x.1 y.1 n1 n2 W' (la1.gr g) (la2.gr g) (by have := m1.1; omega) (by have := m2.1; omega))
        have C2 := Lib.hid (gq0 (W := wr) fun W' => Fv.rsame_any x.2 y.2 W')
        have k1 := cell_regrown c1; have k2 := cell_regrown c2; have k3 := cell_regrown e1; have k4 := cell_regrown e2
        have f4 : (k : Int) < (n : Int) := by omega
        have f5 : (0 : Int) ≤ (k : Int) := by omega
        obtain ⟨v1, hv1⟩ : ∃ v, decide (x.1 = y.1) = v := ⟨_, rfl⟩
        obtain ⟨v2, hv2⟩ : ∃ v, Fv.sameB x.2 y.2 = v := ⟨_, rfl⟩
        rw [hv1] at C1 HE2
        rw [hv2] at C2 HE2
        clear hx hy HS c1 c2 e1 e2 la1 la2 m1 m2 ka kb hv1 hv2
        cases v1 <;> cases v2
        case true.true =>
          have HN : Hid (sameP a b = sameP (a.drop (k + 1)) (b.drop (k + 1))) := Lib.hid (by rw [HR.out, HE2.out]; rfl)
          go_wp2_with fail
          refine wp_region_quiet_below (by kernel_rfl) (by kernel_rfl) ?_
          repeat (quiet_step (first | (go_at_call 23; exact C1.out _ _) | (go_at_call 28; exact C2.out _ _)))
          refine wpQuiet_nil ?_
          intro _ hw'
          obtain ⟨⟨dq, osq⟩, hw''⟩ := hw'
          subst hw''
          have hg5 := hg.trans ⟨below_regrown wr dq osq⟩
          clear k1 k2 k3 k4 C1 C2
          generalize Go.Sort.grow (redrawn wr dq) osq = w5 at *
          go_wp2
          go_roundw
          case rel => exact ⟨k + 1, by omega, by go_num, HN, hg5⟩
          case measure => simp [intOf]; omega
        all_goals
          have HN : Hid (sameP a b = false) := Lib.hid (by rw [HR.out, HE2.out]; rfl)
          go_wp2_with fail
          refine wp_region_quiet_below (by kernel_rfl) (by kernel_rfl) ?_
          repeat (quiet_step (first | (go_at_call 23; exact C1.out _ _) | (go_at_call 28; exact C2.out _ _)))
          refine wpQuiet_nil ?_
          intro _ hw'
          obtain ⟨⟨dq, osq⟩, hw''⟩ := hw'
          subst hw''
          have hg5 := hg.trans ⟨below_regrown wr dq osq⟩
          clear k1 k2 k3 k4 C1 C2
          generalize Go.Sort.grow (redrawn wr dq) osq = w5 at *
          go_wp2
          go_ret
          exact ⟨by rw [HN.out]; rfl, hg5⟩
      · obtain rfl : k = n := by omega
        have HN : Hid (sameP a b = true) := Lib.hid (by have := HE.out; rw [HNA.out] at this; rw [HR.out]; exact this)
        go_wp2
        go_ret
        exact ⟨by rw [HN.out]; rfl, hg⟩
  · have HN := Lib.hid (sameP_len hl)
    go_enter Tryz.func9, Tryz.ntmps9
    go_wp2
    go_ret
    exact ⟨by rw [HN.out]; rfl, Gr.refl _⟩
end Go.Proofs.YtllhkegefinlbaaGreatDoor.Pt
