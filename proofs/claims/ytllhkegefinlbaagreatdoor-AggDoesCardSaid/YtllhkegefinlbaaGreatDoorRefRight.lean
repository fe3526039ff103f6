/- Right, the reference's; Few, names. -/
import Derived.Test.YtllhkegefinlbaaGreatDoorLabs
namespace Go.Proofs.YtllhkegefinlbaaGreatDoor
open Go.RowKit
set_option maxRecDepth 100000
set_option maxHeartbeats 1000000

theorem right_any (A : Option Addr) (l : List Lb) (c : Nat) (w : World) (h : LabsAt w A l) (hw : Wd l) (hl : l.length ≤ 1099511627776) :
    Calls Tryz.prog 33 #[.slice A l.length c] w fun e w' => e = .returned (.bool (rightB l)) ∧ Gr w w' := by
  have HL := Lib.hid h; have HW := Lib.hid hw
  clear h hw
  by_cases h32 : 32 < l.length
  · have H := Lib.hid (right_big h32)
    go_enter Tryz.func33, Tryz.ntmps33
    go_wp2
    go_ret
    exact ⟨by rw [H.out]; rfl, Gr.refl _⟩
  have h32 : l.length ≤ 32 := by omega
  go_enter Tryz.func33, Tryz.ntmps33
  go_wp2
  go_loopw [10] (fun i wr => ∃ k : Nat, k ≤ l.length ∧ i = .int .i64 k ∧ Hid (okUpTo l k) ∧ Gr w wr) (fun i _ => l.length - (intOf i).toNat)
  case atStart => exact ⟨0, Nat.zero_le _, rfl, okUpTo_0 l, Gr.refl _⟩
  case round =>
    obtain ⟨k, hk, rfl, HU, hg⟩ := hrel
    by_cases hlt : k < l.length
    · obtain ⟨b, o, rfl, c1, c2, hb⟩ := (HL.out.gr hg).at_ hlt
      have hn := HW.out _ (List.getElem_mem hlt)
      have HX : Hid (okUpTo l (k + 1) ∨ True) := Lib.hid (.inr trivial)
      obtain ⟨x, hx⟩ : ∃ x, l[k] = x := ⟨_, rfl⟩
      rw [hx] at c1 c2 hn
      obtain ⟨nm, vl⟩ := x
      have HXE := Lib.hid hx; clear hx
      obtain ⟨hn1, hn2⟩ := hn
      simp only at hn1 hn2 c1 c2
      unfold maxLen at hn1 hn2
      clear HX
      have out : okAt l k → Hid (okUpTo l (k + 1)) := fun g => okUpTo_s HU.out g
      have OUT := Lib.hid out; clear out
      cases e1 : nameB nm
      · have HN := Lib.hid (right_not hlt (okAt_n hlt (by rw [HXE.out]; exact e1)))
        go_wp2_with (go_at_call 29; refine (name_any _ _ hn1).mono ?_; rintro e w' ⟨rfl, rfl⟩)
        go_ret
        exact ⟨by rw [HN.out]; rfl, by go_simp; exact hg.alloc _ _⟩
      by_cases h0 : vl.size = 0
      · have HN := Lib.hid (right_not hlt (okAt_v hlt (by rw [HXE.out]; exact .inl h0)))
        obtain rfl := empty_eq h0
        clear h0
        go_wp2_with (go_at_call 29; refine (name_any _ _ hn1).mono ?_; rintro e w' ⟨rfl, rfl⟩)
        go_ret
        exact ⟨by rw [HN.out]; rfl, by go_simp; exact hg.alloc _ _⟩
      have h0 : 0 < vl.size := by omega
      obtain ⟨n1, n2, n3⟩ := ne_facts h0
      by_cases h256 : 256 < vl.size
      · have HN := Lib.hid (right_not hlt (okAt_v hlt (by rw [HXE.out]; exact .inr h256)))
        go_wp2_with (go_at_call 29; refine (name_any _ _ hn1).mono ?_; rintro e w' ⟨rfl, rfl⟩)
        go_ret
        exact ⟨by rw [HN.out]; rfl, by go_simp; exact hg.alloc _ _⟩
      have h256 : vl.size ≤ 256 := by omega
      by_cases hk0 : k = 0
      · have HN := Lib.hid (OUT.out (okAt_y hlt (by rw [HXE.out]; exact e1) (by rw [HXE.out]; exact h0) (by rw [HXE.out]; exact h256) (.inl hk0)))
        have hd : decide (0 < k) = false := by simp; omega
        have HK0 := Lib.hid hk0; clear hk0
        go_wp2_with (go_at_call 29; refine (name_any _ _ hn1).mono ?_; rintro e w' ⟨rfl, rfl⟩)
        go_quiet (fail)
        go_wp2
        go_roundw
        case rel => exact ⟨k + 1, by omega, by go_num, HN, by go_simp; exact (hg.alloc _ _).drewN _⟩
        case measure => simp [intOf]; omega
      · obtain ⟨j, hj⟩ : ∃ j, k = j + 1 := ⟨k - 1, by omega⟩
        have hjl : j < l.length := by omega
        obtain ⟨b', o', hbo, d1, d2, -⟩ := (HL.out.gr hg).at_ hjl
        obtain ⟨rfl, rfl⟩ : b' = b ∧ o' = o := by injection hbo with hbo; injection hbo with h1 h2; exact ⟨h1.symm, h2.symm⟩
        clear hbo
        obtain ⟨y, hy⟩ : ∃ y, l[j] = y := ⟨_, rfl⟩
        rw [hy] at d1 d2
        obtain ⟨nm', vl'⟩ := y
        simp only at d1 d2
        have HYE := Lib.hid hy; clear hy
        have hd : decide (0 < k) = true := by simp; omega
        have f1 : IntKind.i64.wrap ((k : Int) - 1) = (j : Int) := by rw [IntWalk.i64_in _ (by omega)]; omega
        have f2 : (j : Int) < (l.length : Int) := by omega
        have f3 : (0 : Int) ≤ j := by omega
        have HJ := Lib.hid hj; clear hj
        have HK0 := Lib.hid hk0; clear hk0
        cases e2 : Op.bytesLess nm'.toList nm.toList
        · have HN := Lib.hid (right_not hlt (okAt_l hlt (by have := HJ.out; omega) (by have := HJ.out; subst this; rw [HXE.out]; show ltS (l[j]).1 nm = false; rw [HYE.out]; exact e2)))
          go_wp2_with (go_at_call 29; refine (name_any _ _ hn1).mono ?_; rintro e w' ⟨rfl, rfl⟩)
          go_quiet (fail)
          go_wp2
          go_ret
          exact ⟨by rw [HN.out]; rfl, by go_simp; exact (hg.alloc _ _).drewN _⟩
        · have HN := Lib.hid (OUT.out (okAt_y hlt (by rw [HXE.out]; exact e1) (by rw [HXE.out]; exact h0) (by rw [HXE.out]; exact h256) (.inr ⟨by have := HJ.out; omega, by have := HJ.out; subst this; rw [HXE.out]; show ltS (l[j]).1 nm = true; rw [HYE.out]; exact e2⟩)))
          go_wp2_with (go_at_call 29; refine (name_any _ _ hn1).mono ?_; rintro e w' ⟨rfl, rfl⟩)
          go_quiet (fail)
          go_wp2
          go_roundw
          case rel => exact ⟨k + 1, by omega, by go_num, HN, by go_simp; exact (hg.alloc _ _).drewN _⟩
          case measure => simp [intOf]; omega
    · obtain rfl : k = l.length := by omega
      have H := Lib.hid (right_all HU.out h32)
      go_wp2
      go_ret
      exact ⟨by rw [H.out]; rfl, hg⟩
end Go.Proofs.YtllhkegefinlbaaGreatDoor
namespace Go.Proofs.YtllhkegefinlbaaGreatDoor
open Go.RowKit
set_option maxRecDepth 100000
set_option maxHeartbeats 1000000

theorem rRight_any (A : Option Addr) (l : List Lb) (c : Nat) (w : World) (h : LabsAt w A l) (hw : Wd l) (hl : l.length ≤ 1099511627776) :
    Calls Tryz.prog 41 #[.slice A l.length c] w fun e w' => e = .returned (.bool (rightB l)) ∧ Gr w w' := by
  have HL := Lib.hid h; have HW := Lib.hid hw
  clear h hw
  go_enter Tryz.func41, Tryz.ntmps41
  go_wp2
  go_loopw [3] (fun i wr => ∃ k : Nat, k ≤ l.length ∧ i = .int .i64 k ∧ Hid (okUpTo l k) ∧ Gr w wr) (fun i _ => l.length - (intOf i).toNat)
  case atStart => exact ⟨0, Nat.zero_le _, rfl, okUpTo_0 l, Gr.refl _⟩
  case round =>
    obtain ⟨k, hk, rfl, HU, hg⟩ := hrel
    by_cases hlt : k < l.length
    · obtain ⟨b, o, rfl, c1, c2, -⟩ := (HL.out.gr hg).at_ hlt
      have hn := HW.out _ (List.getElem_mem hlt)
      obtain ⟨x, hx⟩ : ∃ x, l[k] = x := ⟨_, rfl⟩
      rw [hx] at c1 c2 hn
      obtain ⟨nm, vl⟩ := x
      have HXE := Lib.hid hx; clear hx
      obtain ⟨hn1, hn2⟩ := hn
      simp only at hn1 hn2 c1 c2
      unfold maxLen at hn1 hn2
      have out : okAt l k → Hid (okUpTo l (k + 1)) := fun g => okUpTo_s HU.out g
      have OUT := Lib.hid out; clear out
      have CN := Lib.hid (fun W => rName_any nm W hn1)
      have f2 : (k : Int) < (l.length : Int) := by omega
      have f3 : (0 : Int) ≤ k := by omega
      cases e1 : nameB nm
      · have HN := Lib.hid (right_not hlt (okAt_n hlt (by rw [HXE.out]; exact e1)))
        rw [e1] at CN
        go_wp2_with fail
        go_quiet ((go_at_call 31; exact quiet_left (CN.out _)))
        go_wp2
        go_ret
        exact ⟨by rw [HN.out]; rfl, by go_simp; exact hg.drewN _⟩
      rw [e1] at CN
      by_cases h0 : vl.size = 0
      · have HN := Lib.hid (right_not hlt (okAt_v hlt (by rw [HXE.out]; exact .inl h0)))
        obtain rfl := empty_eq h0
        clear h0
        go_wp2_with fail
        go_quiet ((go_at_call 31; exact quiet_left (CN.out _)))
        go_wp2
        go_ret
        exact ⟨by rw [HN.out]; rfl, by go_simp; exact hg.drewN _⟩
      have h0 : 0 < vl.size := by omega
      obtain ⟨n1, n2, n3⟩ := ne_facts h0
      by_cases h256 : 256 < vl.size
      · have HN := Lib.hid (right_not hlt (okAt_v hlt (by rw [HXE.out]; exact .inr h256)))
        have h257 : decide ((256 : Int) < (vl.size : Int)) = true := by simp; omega
        go_wp2_with fail
        go_quiet ((go_at_call 31; exact quiet_left (CN.out _)))
        go_wp2
        go_ret
        exact ⟨by rw [HN.out]; rfl, by go_simp; exact hg.drewN _⟩
      have h256 : vl.size ≤ 256 := by omega
      have h257 : decide ((256 : Int) < (vl.size : Int)) = false := by simp; omega
      by_cases hk0 : k = 0
      · have HN := Lib.hid (OUT.out (okAt_y hlt (by rw [HXE.out]; exact e1) (by rw [HXE.out]; exact h0) (by rw [HXE.out]; exact h256) (.inl hk0)))
        have hd : decide (0 < k) = false := by simp; omega
        have HK0 := Lib.hid hk0; clear hk0
        go_wp2_with fail
        go_quiet ((go_at_call 31; exact quiet_left (CN.out _)))
        go_wp2
        go_roundw
        case rel => exact ⟨k + 1, by omega, by go_num, HN, by go_simp; exact hg.drewN _⟩
        case measure => simp [intOf]; omega
      · obtain ⟨j, hj⟩ : ∃ j, k = j + 1 := ⟨k - 1, by omega⟩
        have hjl : j < l.length := by omega
        obtain ⟨b', o', hbo, d1, d2, -⟩ := (HL.out.gr hg).at_ hjl
        obtain ⟨rfl, rfl⟩ : b' = b ∧ o' = o := by injection hbo with hbo; injection hbo with h1 h2; exact ⟨h1.symm, h2.symm⟩
        clear hbo
        obtain ⟨y, hy⟩ : ∃ y, l[j] = y := ⟨_, rfl⟩
        rw [hy] at d1 d2
        obtain ⟨nm', vl'⟩ := y
        simp only at d1 d2
        have HYE := Lib.hid hy; clear hy
        have hd : decide (0 < k) = true := by simp; omega
        have f1 : IntKind.i64.wrap ((k : Int) - 1) = (j : Int) := by rw [IntWalk.i64_in _ (by omega)]; omega
        have f4 : (j : Int) < (l.length : Int) := by omega
        have f5 : (0 : Int) ≤ j := by omega
        have HJ := Lib.hid hj; clear hj
        have HK0 := Lib.hid hk0; clear hk0
        cases e2 : Op.bytesLess nm'.toList nm.toList
        · have HN := Lib.hid (right_not hlt (okAt_l hlt (by have := HJ.out; omega) (by have := HJ.out; subst this; rw [HXE.out]; show ltS (l[j]).1 nm = false; rw [HYE.out]; exact e2)))
          go_wp2_with fail
          go_quiet ((go_at_call 31; exact quiet_left (CN.out _)))
          go_wp2
          go_ret
          exact ⟨by rw [HN.out]; rfl, by go_simp; exact hg.drewN _⟩
        · have HN := Lib.hid (OUT.out (okAt_y hlt (by rw [HXE.out]; exact e1) (by rw [HXE.out]; exact h0) (by rw [HXE.out]; exact h256) (.inr ⟨by have := HJ.out; omega, by have := HJ.out; subst this; rw [HXE.out]; show ltS (l[j]).1 nm = true; rw [HYE.out]; exact e2⟩)))
          go_wp2_with fail
          go_quiet ((go_at_call 31; exact quiet_left (CN.out _)))
          go_wp2
          go_roundw
          case rel => exact ⟨k + 1, by omega, by go_num, HN, by go_simp; exact hg.drewN _⟩
          case measure => simp [intOf]; omega
    · obtain rfl : k = l.length := by omega
      by_cases h32 : l.length ≤ 32
      · have H := Lib.hid (right_all HU.out h32)
        go_wp2
        go_ret
        exact ⟨by rw [H.out]; first | rfl | (simp; omega), hg⟩
      · have H := Lib.hid (right_big (l := l) (by omega))
        go_wp2
        go_ret
        exact ⟨by rw [H.out]; first | rfl | (simp; omega), hg⟩

/-! Few -/
def fewP (l : List Lb) : Prop := l.length ≤ 80 ∧ ∀ x ∈ l, x.1.size ≤ 400 ∧ x.2.size ≤ 2000
instance (l : List Lb) : Decidable (fewP l) := by unfold fewP; infer_instance
def fewTo (l : List Lb) (k : Nat) : Prop := ∀ i x, i < k → l[i]? = some x → x.1.size ≤ 400 ∧ x.2.size ≤ 2000
theorem fewTo_end {l : List Lb} (h : fewTo l l.length) (hl : l.length ≤ 80) : decide (fewP l) = true := by
  rw [decide_eq_true_eq]
  refine ⟨hl, fun x hx => ?_⟩
  obtain ⟨i, hi, rfl⟩ := List.getElem_of_mem hx
  exact h i _ hi (List.getElem?_eq_getElem hi)
theorem fewTo_not {l : List Lb} {k : Nat} (hk : k < l.length) (h : 400 < (l[k]).1.size ∨ 2000 < (l[k]).2.size) : decide (fewP l) = false := by
  rw [decide_eq_false_iff_not]
  intro hf
  have := hf.2 _ (List.getElem_mem hk)
  omega
theorem fewTo_s {l : List Lb} {k : Nat} (hk : k < l.length) (h : fewTo l k) (h1 : (l[k]).1.size ≤ 400) (h2 : (l[k]).2.size ≤ 2000) : fewTo l (k + 1) := by
  intro i x hi hx
  by_cases e : i = k
  · subst e; rw [List.getElem?_eq_getElem hk] at hx; cases hx; exact ⟨h1, h2⟩
  · exact h i x (by omega) hx
theorem few_any (A : Option Addr) (l : List Lb) (c : Nat) (w : World) (h : LabsAt w A l) (hw : Wd l) (hl : l.length ≤ 1099511627776) :
    Calls Tryz.prog 40 #[.slice A l.length c] w fun e w' => e = .returned (.bool (decide (fewP l))) ∧ w = w' := by
  have HL := Lib.hid h; have HW := Lib.hid hw
  clear h hw
  by_cases h80 : 80 < l.length
  · have H : Hid (decide (fewP l) = false) := Lib.hid (by rw [decide_eq_false_iff_not]; intro hf; have := hf.1; omega)
    go_enter Tryz.func40, Tryz.ntmps40
    go_wp2
    go_ret
    exact ⟨by rw [H.out]; rfl, rfl⟩
  have h80 : l.length ≤ 80 := by omega
  go_enter Tryz.func40, Tryz.ntmps40
  go_wp2
  go_loop [3] (fun i => ∃ k : Nat, k ≤ l.length ∧ i = .int .i64 k ∧ Hid (fewTo l k)) (fun i => l.length - (intOf i).toNat)
  case atStart => exact ⟨0, Nat.zero_le _, rfl, fun i x hi => absurd hi (by omega)⟩
  case round =>
    obtain ⟨k, hk, rfl, HU⟩ := hrel
    by_cases hlt : k < l.length
    · obtain ⟨b, o, rfl, c1, c2, -⟩ := HL.out.at_ hlt
      have hn := HW.out _ (List.getElem_mem hlt)
      obtain ⟨x, hx⟩ : ∃ x, l[k] = x := ⟨_, rfl⟩
      have out : (400 < x.1.size ∨ 2000 < x.2.size) → Hid (decide (fewP l) = false) := fun h => fewTo_not hlt (by rw [hx]; exact h)
      have outy : x.1.size ≤ 400 → x.2.size ≤ 2000 → Hid (fewTo l (k + 1)) := fun h1 h2 => fewTo_s hlt HU.out (by rw [hx]; exact h1) (by rw [hx]; exact h2)
      have OUT := Lib.hid out; have OUTY := Lib.hid outy
      rw [hx] at c1 c2 hn
      clear hx out outy
      obtain ⟨nm, vl⟩ := x
      obtain ⟨hn1, hn2⟩ := hn
      simp only at hn1 hn2 c1 c2
      unfold maxLen at hn1 hn2
      by_cases g1 : nm.size ≤ 400
      · by_cases g2 : vl.size ≤ 2000
        · have HN := OUTY.out g1 g2
          go_wp2
          go_round
          case rel => exact ⟨k + 1, by omega, by go_num, HN⟩
          case measure => simp [intOf]; omega
        · have HN := OUT.out (.inr (by show 2000 < vl.size; omega))
          go_wp2
          go_ret
          exact ⟨by rw [HN.out]; rfl, rfl⟩
      · have HN := OUT.out (.inl (by show 400 < nm.size; omega))
        go_wp2
        go_ret
        exact ⟨by rw [HN.out]; rfl, rfl⟩
    · obtain rfl : k = l.length := by omega
      have H := Lib.hid (fewTo_end HU.out h80)
      go_wp2
      go_ret
      exact ⟨by rw [H.out]; rfl, rfl⟩
theorem few_big (A : Option Addr) (n c : Nat) (w : World) (h : 80 < n) (hn : n ≤ maxLen) :
    Calls Tryz.prog 40 #[.slice A n c] w fun e w' => e = .returned (.bool false) ∧ w = w' := by
  unfold maxLen at hn
  go_enter Tryz.func40, Tryz.ntmps40
  go_wp2
  go_ret
  exact ⟨rfl, rfl⟩
end Go.Proofs.YtllhkegefinlbaaGreatDoor
