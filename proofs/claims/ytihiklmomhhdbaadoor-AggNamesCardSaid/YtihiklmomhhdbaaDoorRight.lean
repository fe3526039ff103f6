/- Right, the program's. -/
import Derived.Test.YtihiklmomhhdbaaDoorLabs
namespace Go.Proofs.YtihiklmomhhdbaaDoor
open Go.RowKit
set_option maxRecDepth 100000
set_option maxHeartbeats 1000000

theorem right_any (A : Option Addr) (l : List Lb) (c : Nat) (w : World) (h : LabsAt w A l) (hw : Wd l) (hl : l.length ≤ 1099511627776) :
    Calls Tryd.prog 15 #[.slice A l.length c] w fun e w' => e = .returned (.bool (rightB l)) ∧ Gr w w' := by
  have HL := Lib.hid h; have HW := Lib.hid hw
  clear h hw
  by_cases h32 : 32 < l.length
  · have H := Lib.hid (right_big h32)
    go_enter Tryd.func15, Tryd.ntmps15
    go_wp2
    go_ret
    exact ⟨by rw [H.out]; rfl, Gr.refl _⟩
  have h32 : l.length ≤ 32 := by omega
  go_enter Tryd.func15, Tryd.ntmps15
  go_wp2
  go_loopw [10] (fun i wr => ∃ k : Nat, k ≤ l.length ∧ i = .int .i64 k ∧ Hid (okUpTo l k) ∧ Gr w wr) (fun i _ => l.length - (intOf i).toNat)
  case atStart => exact ⟨0, Nat.zero_le _, rfl, okUpTo_0 l, Gr.refl _⟩
  case round =>
    obtain ⟨k, hk, rfl, HU, hg⟩ := hrel
    by_cases hlt : k < l.length
    · obtain ⟨b, o, rfl, c1, c2, hb⟩ := (HL.out.gr hg).at_ hlt
      have hn := HW.out _ (List.getElem_mem hlt)
      have HX : Hid (okUpTo l (k + 1) ∨ True) := Lib.hid (.inr trivial)
      obtain ⟨x, hx⟩ : ∃ x, l[k] = x := ⟨_, rfl⟩
      rw [hx] at c1 c2 hn
      obtain ⟨nm, vl⟩ := x
      have HXE := Lib.hid hx; clear hx
      obtain ⟨hn1, hn2⟩ := hn
      simp only at hn1 hn2 c1 c2
      unfold maxLen at hn1 hn2
      clear HX
      have out : okAt l k → Hid (okUpTo l (k + 1)) := fun g => okUpTo_s HU.out g
      have OUT := Lib.hid out; clear out
      cases e1 : nameB nm
      · have HN := Lib.hid (right_not hlt (okAt_n hlt (by rw [HXE.out]; exact e1)))
        go_wp2_with (go_at_call 27; refine (name_any _ _ hn1).mono ?_; rintro e w' ⟨rfl, rfl⟩)
        go_ret
        exact ⟨by rw [HN.out]; rfl, by go_simp; exact hg.alloc _ _⟩
      by_cases h0 : vl.size = 0
      · have HN := Lib.hid (right_not hlt (okAt_v hlt (by rw [HXE.out]; exact .inl h0)))
        obtain rfl := empty_eq h0
        clear h0
        go_wp2_with (go_at_call 27; refine (name_any _ _ hn1).mono ?_; rintro e w' ⟨rfl, rfl⟩)
        go_ret
        exact ⟨by rw [HN.out]; rfl, by go_simp; exact hg.alloc _ _⟩
      have h0 : 0 < vl.size := by omega
      obtain ⟨n1, n2, n3⟩ := ne_facts h0
      by_cases h256 : 256 < vl.size
      · have HN := Lib.hid (right_not hlt (okAt_v hlt (by rw [HXE.out]; exact .inr h256)))
        go_wp2_with (go_at_call 27; refine (name_any _ _ hn1).mono ?_; rintro e w' ⟨rfl, rfl⟩)
        go_ret
        exact ⟨by rw [HN.out]; rfl, by go_simp; exact hg.alloc _ _⟩
      have h256 : vl.size ≤ 256 := by omega
      by_cases hk0 : k = 0
      · have HN := Lib.hid (OUT.out (okAt_y hlt (by rw [HXE.out]; exact e1) (by rw [HXE.out]; exact h0) (by rw [HXE.out]; exact h256) (.inl hk0)))
        have hd : decide (0 < k) = false := by simp; omega
        have HK0 := Lib.hid hk0; clear hk0
        go_wp2_with (go_at_call 27; refine (name_any _ _ hn1).mono ?_; rintro e w' ⟨rfl, rfl⟩)
        go_quiet (fail)
        go_wp2
        go_roundw
        case rel => exact ⟨k + 1, by omega, by go_num, HN, by go_simp; exact (hg.alloc _ _).drewN _⟩
        case measure => simp [intOf]; omega
      · obtain ⟨j, hj⟩ : ∃ j, k = j + 1 := ⟨k - 1, by omega⟩
        have hjl : j < l.length := by omega
        obtain ⟨b', o', hbo, d1, d2, -⟩ := (HL.out.gr hg).at_ hjl
        obtain ⟨rfl, rfl⟩ : b' = b ∧ o' = o := by injection hbo with hbo; injection hbo with h1 h2; exact ⟨h1.symm, h2.symm⟩
        clear hbo
        obtain ⟨y, hy⟩ : ∃ y, l[j] = y := ⟨_, rfl⟩
        rw [hy] at d1 d2
        obtain ⟨nm', vl'⟩ := y
        simp only at d1 d2
        have HYE := Lib.hid hy; clear hy
        have hd : decide (0 < k) = true := by simp; omega
        have f1 : IntKind.i64.wrap ((k : Int) - 1) = (j : Int) := by rw [IntWalk.i64_in _ (by omega)]; omega
        have f2 : (j : Int) < (l.length : Int) := by omega
        have f3 : (0 : Int) ≤ j := by omega
        have HJ := Lib.hid hj; clear hj
        have HK0 := Lib.hid hk0; clear hk0
        cases e2 : Op.bytesLess nm'.toList nm.toList
        · have HN := Lib.hid (right_not hlt (okAt_l hlt (by have := HJ.out; omega) (by have := HJ.out; subst this; rw [HXE.out]; show ltS (l[j]).1 nm = false; rw [HYE.out]; exact e2)))
          go_wp2_with (go_at_call 27; refine (name_any _ _ hn1).mono ?_; rintro e w' ⟨rfl, rfl⟩)
          go_quiet (fail)
          go_wp2
          go_ret
          exact ⟨by rw [HN.out]; rfl, by go_simp; exact (hg.alloc _ _).drewN _⟩
        · have HN := Lib.hid (OUT.out (okAt_y hlt (by rw [HXE.out]; exact e1) (by rw [HXE.out]; exact h0) (by rw [HXE.out]; exact h256) (.inr ⟨by have := HJ.out; omega, by have := HJ.out; subst this; rw [HXE.out]; show ltS (l[j]).1 nm = true; rw [HYE.out]; exact e2⟩)))
          go_wp2_with (go_at_call 27; refine (name_any _ _ hn1).mono ?_; rintro e w' ⟨rfl, rfl⟩)
          go_quiet (fail)
          go_wp2
          go_roundw
          case rel => exact ⟨k + 1, by omega, by go_num, HN, by go_simp; exact (hg.alloc _ _).drewN _⟩
          case measure => simp [intOf]; omega
    · obtain rfl : k = l.length := by omega
      have H := Lib.hid (right_all HU.out h32)
      go_wp2
      go_ret
      exact ⟨by rw [H.out]; rfl, hg⟩
end Go.Proofs.YtihiklmomhhdbaaDoor
