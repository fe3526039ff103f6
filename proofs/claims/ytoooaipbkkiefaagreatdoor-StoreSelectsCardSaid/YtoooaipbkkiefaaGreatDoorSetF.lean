/- labels.Set: its list lies in new memory. -/
import Derived.Test.YtoooaipbkkiefaaGreatDoorLSet
import Derived.Test.YtoooaipbkkiefaaGreatDoorLRefSet
namespace Go.Proofs.YtoooaipbkkiefaaGreatDoor
open Go.RowKit Go.Sort
set_option maxRecDepth 100000
set_option maxHeartbeats 2000000

/-- such a list lies in memory that was not there -/
def Fresh (w : World) (A : Option Addr) (l : List Lb) : Prop := 0 < l.length → ∃ b o, A = some ⟨b, o, none⟩ ∧ w.heap.size ≤ b
def SetF (l : List Lb) (w : World) (e : Ending) (w' : World) : Prop :=
  ∃ A c, e = .returned (.tuple #[.slice A (setV l).length c, .int .i64 (setE l)]) ∧ LabsAt w' A (setV l) ∧ Gr w w' ∧ Fresh w A (setV l)
theorem SetF.no {l : List Lb} {w w' : World} (h : lb_setB l = false) (g : Gr w w') : SetF l w (.returned (.tuple #[.slice none 0 0, .int .i64 1])) w' :=
  ⟨none, 0, by rw [(setV_f h).1, (setV_f h).2]; rfl, by rw [(setV_f h).1]; exact LabsAt.none_ _ _, g, fun h0 => absurd h0 (by rw [(setV_f h).1]; simp)⟩
theorem SetF.yes {l : List Lb} {w w' : World} {A : Option Addr} {c n : Nat} (h : lb_setB l = true) (hn : n = (setL l).length) (hl : LabsAt w' A (setL l)) (g : Gr w w') (hf : Fresh w A (setL l)) : SetF l w (.returned (.tuple #[.slice A n c, .int .i64 0])) w' :=
  ⟨A, c, by rw [(setV_t h).1, (setV_t h).2, hn], by rw [(setV_t h).1]; exact hl, g, by rw [(setV_t h).1]; exact hf⟩

theorem setF_nil (A : Option Addr) (c : Nat) (w : World) :
    Calls Tryz.prog 106 #[.slice A 0 c] w (SetF [] w) := by
  have hB : lb_setB [] = true := by rw [setB_t]; simp [setP, setL]
  have HB := Lib.hid hB; clear hB
  go_enter Tryz.func106, Tryz.ntmps106
  go_wp2
  refine wp_loop_rounds 1 ?_
  rw [rounds_succ]
  go_wp2_with fail
  refine (clone_none _ _ _).mono ?_
  rintro e w1 ⟨A1, c1, rfl, hg1⟩
  go_wp2_with fail
  refine (sortFunc_none _ _ _).mono ?_
  rintro e w2 ⟨rfl, rfl⟩
  go_wp2_with fail
  refine wp_loop_rounds 1 ?_
  rw [rounds_succ]
  go_wp2_with fail
  refine (delete_none _ _ _).mono ?_
  rintro e w3 ⟨rfl, hg3⟩
  go_wp2
  go_ret2
  exact SetF.yes HB.out rfl (LabsAt.none_ _ _) (hg1.trans hg3) (fun h => absurd h (by simp [setL]))

theorem setF_any (A : Option Addr) (l : List Lb) (c : Nat) (w : World) (h : LabsAt w A l) (hw : Wd l) (hl : l.length ≤ 1099511627776) :
    Calls Tryz.prog 106 #[.slice A l.length c] w (SetF l w) := by
  by_cases h00 : l.length = 0
  · obtain rfl := List.eq_nil_of_length_eq_zero h00
    exact setF_nil A c w
  have h0 : 0 < l.length := by omega
  clear h00
  have HL := Lib.hid h; have HW := Lib.hid hw
  clear h hw
  go_enter Tryz.func106, Tryz.ntmps106
  go_wp2
  go_loopw [10] (fun i wr => ∃ k : Nat, k ≤ l.length ∧ i = .int .i64 k ∧ Hid (okNTo l k) ∧ Gr w wr) (fun i _ => l.length - (intOf i).toNat)
  case atStart => exact ⟨0, Nat.zero_le _, rfl, fun y hy => by simp at hy, Gr.refl _⟩
  case round =>
    obtain ⟨k, hk, rfl, HU, hg⟩ := hrel
    by_cases hlt : k < l.length
    · obtain ⟨b, o, rfl, c1, c2, -⟩ := (HL.out.gr hg).at_ hlt
      have hn := HW.out _ (List.getElem_mem hlt)
      obtain ⟨x, hx⟩ : ∃ x, l[k] = x := ⟨_, rfl⟩
      have outy : okN x = true → Hid (okNTo l (k + 1)) := fun h => okNTo_s hlt HU.out (by rw [hx]; exact h)
      have outn : okN x = false → Hid (lb_setB l = false) := fun h => setB_notok hlt (by rw [hx]; exact h)
      have OY := Lib.hid outy; have ON := Lib.hid outn
      rw [hx] at c1 c2 hn
      clear hx outy outn
      obtain ⟨nm, vl⟩ := x
      obtain ⟨hn1, hn2⟩ := hn
      simp only at hn1 hn2 c1 c2
      have CN := Lib.hid (fun W => name_any nm W hn1)
      unfold maxLen at hn1 hn2
      cases e1 : nameB nm
      · have HN := ON.out (by simp [okN, e1])
        rw [e1] at CN
        clear e1
        go_wp2_with (go_at_call 94; refine (CN.out _).mono ?_; rintro e w' ⟨rfl, rfl⟩)
        go_ret2
        exact SetF.no HN.out (by go_simp; exact hg.alloc _ _)
      rw [e1] at CN
      by_cases h256 : 256 < vl.size
      · have HN := ON.out (by simp only [okN, Bool.and_eq_false_iff, decide_eq_false_iff_not]; right; omega)
        clear e1
        go_wp2_with (go_at_call 94; refine (CN.out _).mono ?_; rintro e w' ⟨rfl, rfl⟩)
        go_ret2
        exact SetF.no HN.out (by go_simp; exact hg.alloc _ _)
      · have HN := OY.out (by simp [okN, e1]; omega)
        clear e1
        go_wp2_with (go_at_call 94; refine (CN.out _).mono ?_; rintro e w' ⟨rfl, rfl⟩)
        go_roundw
        case rel => exact ⟨k + 1, by omega, by go_num, HN, by go_simp; exact hg.alloc _ _⟩
        case measure => simp [intOf]; omega
    · obtain rfl : k = l.length := by omega
      have HOK : Hid (∀ x ∈ l, okN x = true) := Lib.hid (by have := HU.out; unfold okNTo at this; rwa [List.take_length] at this)
      obtain ⟨b, o, rfl, -⟩ := (HL.out.gr hg).at_ h0
      have HC := Lib.hid (clone_any b o c l wr (HL.out.gr hg) h0 hl)
      clear HU
      go_wp2_with fail
      refine HC.out.mono ?_
      rintro e w1 ⟨g, o1, c1, rfl, hgb, hlc, hcm, hR1, hg1⟩
      have HS := Lib.hid (sortFunc_any g o1 c1 l w1 hR1 hl h0)
      clear hR1 HC
      go_wp2_with fail
      refine HS.out.mono ?_
      rintro e w2 ⟨rfl, hR2, ho2⟩
      have hsl := sortL_len l
      have HG2 := Lib.hid ((hg.trans hg1).only ho2 (by have := hg.size; omega))
      have hgw : w.heap.size ≤ g := by have := hg.size; omega
      have HSL := Lib.hid hsl
      obtain ⟨s, hs⟩ : ∃ s, sortL l = s := ⟨_, rfl⟩
      rw [hs] at hR2 hsl
      have HSE := Lib.hid hs
      have HR2 := Lib.hid hR2
      have HSL := Lib.hid hsl
      clear hs hR2 hsl ho2 HS
      go_wp2
      go_loopw [7] (fun i wr => ∃ k : Nat, 1 ≤ k ∧ k ≤ l.length ∧ i = .int .i64 k ∧ Hid (noTw s k) ∧ Gr w2 wr) (fun i _ => l.length - (intOf i).toNat)
      case atStart => exact ⟨1, Nat.le_refl _, by omega, rfl, fun i x y hi => absurd hi (by omega), Gr.refl _⟩
      case round =>
        clear hg
        obtain ⟨k, hk1, hk, rfl, HU, hg⟩ := hrel
        by_cases hlt : k < l.length
        · obtain ⟨j, hj⟩ : ∃ j, k = j + 1 := ⟨k - 1, by omega⟩
          have hks : k < s.length := by have := HSL.out; omega
          have hjs : j < s.length := by omega
          obtain ⟨x, hx⟩ : ∃ x, s[j] = x := ⟨_, rfl⟩
          obtain ⟨y, hy⟩ : ∃ y, s[k] = y := ⟨_, rfl⟩
          have gx : s[j]? = some x := by rw [List.getElem?_eq_getElem hjs, hx]
          have gy : s[k]? = some y := by rw [List.getElem?_eq_getElem hks, hy]
          obtain ⟨⟨c1, -⟩, -⟩ := (HR2.out.gr hg) j x gx
          obtain ⟨⟨d1, -⟩, -⟩ := (HR2.out.gr hg) k y gy
          have outy : x.1 ≠ y.1 → Hid (noTw s (k + 1)) := fun h => by subst hj; exact noTw_s HU.out gx gy h
          have outn : x.1 = y.1 → Hid (lb_setB l = false) := fun h => lb_setB_no (sortL_dup (by rw [HSE.out]; exact ⟨j, x, y, gx, by rw [← hj]; exact gy, h⟩))
          have OY := Lib.hid outy; have ON := Lib.hid outn
          have f1 : IntKind.i64.wrap ((k : Int) - 1) = (j : Int) := by rw [IntWalk.i64_in _ (by omega)]; omega
          have f2 : (j : Int) < (l.length : Int) := by omega
          have f3 : (0 : Int) ≤ j := by omega
          have f4 : (k : Int) < (l.length : Int) := by omega
          have f5 : (0 : Int) ≤ k := by omega
          have HJ := Lib.hid hj
          clear hj hx hy gx gy outy outn
          cases e1 : (x.1.toList == y.1.toList)
          · have HN := OY.out (fun h => by have := beq_t.2 h; rw [e1] at this; cases this)
            go_wp2_with fail
            go_quiet (fail)
            go_wp2
            go_roundw
            case rel => exact ⟨k + 1, by omega, by omega, by go_num, HN, by go_simp; exact hg.drewN _⟩
            case measure => simp [intOf]; omega
          · have HN := ON.out (beq_t.1 e1)
            go_wp2_with fail
            go_quiet (fail)
            go_wp2
            go_ret2
            exact SetF.no HN.out (by go_simp; exact (HG2.out.trans hg).drewN _)
        · obtain rfl : k = l.length := by omega
          have HT := Lib.hid (sortL_set (l := l) (by rw [HSE.out]; exact noTw_end (by rw [HSL.out]; exact HU.out)))
          have HE : Hid ((s.filter full) = setL l) := Lib.hid (by have := HT.out.2; rwa [HSE.out] at this)
          have HP : Hid (setP l) := Lib.hid ⟨HOK.out, HT.out.1⟩
          have hD := delete_any g o1 c1 s wr (HR2.out.gr hg) (by have := HSL.out; omega) (by have := HSL.out; omega) hcm
          rw [HSL.out] at hD
          have HD := Lib.hid hD
          clear hD HU
          go_wp2_with fail
          refine HD.out.mono ?_
          rintro e w5 ⟨rfl, hl5, ho5⟩
          rw [HE.out] at hl5 ⊢
          have HG5 := Lib.hid ((HG2.out.trans hg).only ho5 hgw)
          have hm : (setL l).length ≤ l.length := by have := (setL_perm l).length_eq; have := List.length_filter_le full l; omega
          have HL5 := Lib.hid hl5
          clear hl5 ho5
          by_cases h32 : (setL l).length ≤ 32
          · have HB : Hid (lb_setB l = true) := Lib.hid (setB_t.2 ⟨HP.out, h32⟩)
            go_wp2
            go_ret2
            exact SetF.yes HB.out rfl HL5.out HG5.out (fun _ => ⟨g, o1, rfl, hgw⟩)
          · have HB : Hid (lb_setB l = false) := Lib.hid (by cases e : lb_setB l; rfl; exact absurd (setB_t.1 e).2 h32)
            go_wp2
            go_ret2
            exact SetF.no HB.out HG5.out

theorem rSetF_any (A : Option Addr) (l : List Lb) (c : Nat) (w : World) (h : LabsAt w A l) (hw : Wd l) (hl : l.length ≤ 1099511627775) :
    Calls Tryz.prog 56 #[.slice A l.length c] w (SetF l w) := by
  have HL := Lib.hid h; have HW := Lib.hid hw
  clear h hw
  go_enter Tryz.func56, Tryz.ntmps56
  go_wp2
  go_loopw [4, 5] (fun v i wr => ∃ k : Nat, k ≤ l.length ∧ i = .int .i64 k ∧ Hid (setP (l.take k)) ∧ Hid (Own wr w.heap.size v (setL (l.take k))) ∧ Gr w wr) (fun _ i _ => l.length - (intOf i).toNat)
  case atStart => exact ⟨0, Nat.zero_le _, rfl, ⟨fun x hx => by simp at hx, by simp⟩, Own.nil _ _, Gr.refl _⟩
  case round =>
    obtain ⟨k, hk, rfl, HP, HO, hg⟩ := hrel
    obtain ⟨wo, rfl⟩ : ∃ wo : World, wo = wr := ⟨_, rfl⟩
    have hgs := hg.size
    by_cases hlt : k < l.length
    · obtain ⟨b, o, rfl, c1, c2, hb⟩ := (HL.out.gr hg).at_ hlt
      have hn := HW.out _ (List.getElem_mem hlt)
      obtain ⟨x, hx⟩ : ∃ x, l[k] = x := ⟨_, rfl⟩
      have gx : l[k]? = some x := by rw [List.getElem?_eq_getElem hlt, hx]
      have GX := Lib.hid gx
      have outn : okN x = false → Hid (lb_setB l = false) := fun h => setB_notok hlt (by rw [hx]; exact h)
      have ON := Lib.hid outn
      rw [hx] at c1 c2 hn
      clear hx gx outn
      obtain ⟨nm, vl⟩ := x
      obtain ⟨hn1, hn2⟩ := hn
      simp only at hn1 hn2 c1 c2
      have CN := Lib.hid (fun W => rName_any nm W hn1)
      unfold maxLen at hn1 hn2
      cases e1 : nameB nm
      · have HN := ON.out (by simp [okN, e1])
        rw [e1] at CN
        clear e1
        go_wp2_with (go_at_call 25; refine (CN.out _).mono ?_; rintro e w' ⟨rfl, rfl⟩)
        go_ret2
        exact SetF.no HN.out hg
      rw [e1] at CN
      by_cases h256 : 256 < vl.size
      · have HN := ON.out (by simp only [okN, Bool.and_eq_false_iff, decide_eq_false_iff_not]; right; omega)
        clear e1
        go_wp2_with (go_at_call 25; refine (CN.out _).mono ?_; rintro e w' ⟨rfl, rfl⟩)
        go_ret2
        exact SetF.no HN.out hg
      have HOK : Hid (okN (nm, vl) = true) := Lib.hid (by simp [okN, e1]; omega)
      clear e1
      go_wp2_with (go_at_call 25; refine (CN.out _).mono ?_; rintro e w' ⟨rfl, rfl⟩)
      go_loopw [6] (fun i wr => ∃ j : Nat, j ≤ k ∧ i = .int .i64 j ∧ Hid (noDup l k j) ∧ Gr wo wr) (fun i _ => k - (intOf i).toNat)
      case atStart => exact ⟨0, Nat.zero_le _, rfl, fun t x y ht => absurd ht (by omega), Gr.refl _⟩
      case round =>
        obtain ⟨j, hj, rfl, HD, hg2⟩ := hrel
        have d1 := hg2.cell c1
        have d2 := hg2.cell c2
        have f1 : (j : Int) < (l.length : Int) := by omega
        have f2 : (k : Int) < (l.length : Int) := by omega
        have f3 : (0 : Int) ≤ j := by omega
        have f4 : (0 : Int) ≤ k := by omega
        by_cases hjk : j < k
        · obtain ⟨b', o', hbo, g1, -⟩ := ((HL.out.gr hg).gr hg2).at_ (by omega : j < l.length)
          obtain ⟨rfl, rfl⟩ : b' = b ∧ o' = o := by injection hbo with hbo; injection hbo with h1 h2; exact ⟨h1.symm, h2.symm⟩
          clear hbo
          obtain ⟨y, hy⟩ : ∃ y, l[j]'(by omega) = y := ⟨_, rfl⟩
          rw [hy] at g1
          have gy : l[j]? = some y := by rw [List.getElem?_eq_getElem (by omega), hy]
          have outy : y.1 ≠ nm → Hid (noDup l k (j + 1)) := fun h t x z ht hx hz => by
            by_cases e : t = j
            · subst e; rw [gy] at hx; rw [GX.out] at hz; cases hx; cases hz; exact h
            · exact HD.out t x z (by omega) hx hz
          have outn : y.1 = nm → Hid (lb_setB l = false) := fun h => lb_setB_no (setP_dup gy GX.out hjk h)
          have OY := Lib.hid outy; have ON2 := Lib.hid outn
          clear hy gy outy outn
          cases e2 : (y.1.toList == nm.toList)
          · have HN := OY.out (fun h => by have := beq_t.2 h; rw [e2] at this; cases this)
            clear c1 c2
            go_wp2_with fail
            go_quiet (fail)
            go_wp2
            go_roundw
            case rel => exact ⟨j + 1, by omega, by go_num, HN, by go_simp; exact hg2.drewN _⟩
            case measure => simp [intOf]; omega
          · have HN := ON2.out (beq_t.1 e2)
            clear c1 c2
            go_wp2_with fail
            go_quiet (fail)
            go_wp2
            go_ret2
            exact SetF.no HN.out (by go_simp; exact (hg.trans hg2).drewN _)
        · obtain rfl : j = k := by omega
          have HS := Lib.hid (setP_s GX.out HP.out HOK.out HD.out)
          have HT : Hid (l.take (j + 1) = l.take j ++ [(nm, vl)]) := Lib.hid (by rw [List.take_succ_eq_append_getElem hlt]; have := GX.out; rw [List.getElem?_eq_getElem hlt] at this; injection this with e; rw [e])
          have HO2 := Lib.hid (HO.out.gr hg2)
          clear HO
          by_cases h0 : vl.size = 0
          · have HF : Hid (setL (l.take (j + 1)) = setL (l.take j)) := Lib.hid (by rw [HT.out, setL_snoc]; simp [full, h0])
            obtain rfl := empty_eq h0
            clear h0 c1 c2
            go_wp2
            go_roundw
            case rel => exact ⟨j + 1, by omega, by go_num, HS, Lib.hid (by rw [HF.out]; exact HO2.out), hg.trans hg2⟩
            case measure => simp [intOf]; omega
          · have HF : Hid (setL (l.take (j + 1)) = putL (setL (l.take j)) (nm, vl)) := Lib.hid (by rw [HT.out, setL_snoc]; simp [full, h0])
            obtain ⟨n1, n2, n3⟩ := ne_facts (by omega : 0 < vl.size)
            have hm : (setL (l.take j)).length ≤ l.length := by have := (setL_perm (l.take j)).length_eq; have := List.length_filter_le full (l.take j); have : (l.take j).length ≤ l.length := by simp; omega
                                                                omega
            have CP := Lib.hid (fun W (g : Gr wr W) => lb_put_any _ (setL (l.take j)) (nm, vl) W ((HO2.out.gr g).reads) (by omega))
            clear c1 c2
            go_wp2_with (go_at_call 89; refine (CP.out _ (Gr.refl _)).mono ?_; rintro e w2 ⟨v2, rfl, hown2, hg3⟩)
            go_roundw
            case rel => exact ⟨j + 1, by omega, by go_num, HS, Lib.hid (by rw [HF.out]; exact hown2.mono (by have := hg2.size; omega)), (hg.trans hg2).trans hg3⟩
            case measure => simp [intOf]; omega
    · obtain rfl : k = l.length := by omega
      have hlt0 := fun k hk => (HO.out.lt (k := k) hk).1
      obtain ⟨A', c', rfl, hl', -, -⟩ := HO.out.form
      rw [List.take_length] at hl' hlt0 ⊢
      have HFr : Hid (Fresh w A' (setL l)) := Lib.hid (fun h0 => by
        obtain ⟨b, o, rfl, -⟩ := hl' h0
        exact ⟨b, o, rfl, hlt0 b rfl⟩)
      clear hlt0
      have HP2 : Hid (setP l) := Lib.hid (by have := HP.out; rwa [List.take_length] at this)
      have HL2 := Lib.hid hl'
      have hm : (setL l).length ≤ l.length := by have := (setL_perm l).length_eq; have := List.length_filter_le full l; omega
      clear hl' HO HP
      by_cases h32 : (setL l).length ≤ 32
      · have HB : Hid (lb_setB l = true) := Lib.hid (setB_t.2 ⟨HP2.out, h32⟩)
        go_wp2
        go_ret2
        exact SetF.yes HB.out rfl HL2.out hg HFr.out
      · have HB : Hid (lb_setB l = false) := Lib.hid (by cases e : lb_setB l; rfl; exact absurd (setB_t.1 e).2 h32)
        go_wp2
        go_ret2
        exact SetF.no HB.out hg
end Go.Proofs.YtoooaipbkkiefaaGreatDoor
