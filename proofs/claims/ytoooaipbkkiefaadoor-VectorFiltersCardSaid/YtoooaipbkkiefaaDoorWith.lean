/- With, the program's. -/
import Derived.Test.YtoooaipbkkiefaaDoorIns
import Derived.Test.YtoooaipbkkiefaaDoorRefWith
import Derived.Test.YtoooaipbkkiefaaDoorRight
namespace Go.Proofs.YtoooaipbkkiefaaDoor
open Go.RowKit Go.Sort
set_option maxRecDepth 100000
set_option maxHeartbeats 4000000

/-- labels in new memory -/
def FrPost (l : List Lb) (w : World) (e : Ending) (w' : World) : Prop :=
  ∃ A c, e = .returned (.slice A l.length c) ∧ LabsAt w' A l ∧ Gr w w' ∧ (0 < l.length → ∀ b, (Value.slice A l.length c).ownBlock = some b → w.heap.size ≤ b)
theorem FrPost.list {l : List Lb} {w : World} {e : Ending} {w' : World} (h : FrPost l w e w') : ListPost l w e w' := by
  obtain ⟨A, c, h1, h2, h3, -⟩ := h
  exact ⟨A, c, h1, h2, h3⟩
/-- Clone, of whatever list -/
theorem cloneF_any (A : Option Addr) (l : List Lb) (c : Nat) (w : World) (h : LabsAt w A l) (hl : l.length ≤ 1099511627776) :
    Calls Tryd.prog 28 #[.slice A l.length c] w (FrPost l w) := by
  by_cases h0 : 0 < l.length
  · obtain ⟨b, o, rfl, -⟩ := h h0
    refine (clone_any b o c l w h h0 hl).mono ?_
    rintro e w' ⟨g, o', c', rfl, hb, -, -, hR, hg⟩
    exact ⟨_, _, rfl, hR.labs, hg, fun _ b hb' => by simp [Value.ownBlock] at hb'; omega⟩
  · have e0 : l = [] := List.eq_nil_of_length_eq_zero (by omega)
    subst e0
    refine (clone_none A c w).mono ?_
    rintro e w' ⟨A', c', rfl, hg⟩
    exact ⟨A', c', rfl, LabsAt.none_ _ _, hg, fun h => absurd h (by simp)⟩
/-- Clone, of whatever list -/
theorem cloneL_any (A : Option Addr) (l : List Lb) (c : Nat) (w : World) (h : LabsAt w A l) (hl : l.length ≤ 1099511627776) :
    Calls Tryd.prog 28 #[.slice A l.length c] w (ListPost l w) := by
  by_cases h0 : 0 < l.length
  · obtain ⟨b, o, rfl, -⟩ := h h0
    refine (clone_any b o c l w h h0 hl).mono ?_
    rintro e w' ⟨g, o', c', rfl, -, -, -, hR, hg⟩
    exact ⟨_, _, rfl, hR.labs, hg⟩
  · have e0 : l = [] := List.eq_nil_of_length_eq_zero (by omega)
    subst e0
    refine (clone_none A c w).mono ?_
    rintro e w' ⟨A', c', rfl, hg⟩
    exact ⟨A', c', rfl, LabsAt.none_ _ _, hg⟩
theorem withF_any (A : Option Addr) (l : List Lb) (c : Nat) (nm vl : ByteArray) (w : World) (h : LabsAt w A l) (hw : Wd l) (hl : l.length ≤ 549755813887) (h1 : nm.size ≤ maxLen) (h2 : vl.size ≤ maxLen) :
    Calls Tryd.prog 54 #[.slice A l.length c, .string nm, .string vl] w (FrPost (withL l nm vl) w) := by
  have HL := Lib.hid h
  have CD := Lib.hid (drop_any A (some ⟨w.heap.size, 0, none⟩) l [nm] c 1 (w.alloc (.cells #[.string nm] 9)) (h.gr ((Gr.refl w).alloc _ _)) (strs_one w nm) (by omega) (by simp))
  have CC := Lib.hid (fun W (g : Gr w W) => cloneF_any A l c W (h.gr g) (by omega))
  have hWO := outL_wd hw h1 h2
  have hLO := outL_len l nm vl
  have hPL := pickL_len l [nm] false
  clear h hw
  obtain ⟨O, hO⟩ : ∃ O, outL l nm vl = O := ⟨_, rfl⟩
  have HW : Hid (withL l nm vl = if rightB O then O else l) := Lib.hid (by unfold withL; rw [hO])
  rw [hO] at hWO hLO
  have CR := Lib.hid (fun A' c' W (g : LabsAt W A' O) => right_any A' O c' W g hWO (by omega))
  obtain ⟨rb, hrb⟩ : ∃ rb, rightB O = rb := ⟨_, rfl⟩
  rw [hrb] at CR HW
  by_cases h0 : vl.size = 0
  · have hO2 : pickL l [nm] false = O := by rw [← hO]; unfold outL; rw [if_pos h0]
    rw [hO2] at CD hPL
    obtain rfl := empty_eq h0
    clear h0 hO hO2 hrb hWO h1 h2
    cases rb
    all_goals
      go_enter Tryd.func54, Tryd.ntmps54
      go_wp2_with fail
      refine CD.out.mono ?_
      rintro e w1 ⟨v1, rfl, hown, hg⟩
      obtain ⟨A1, c1, rfl, hl1, -⟩ := hown.form
      have HL1 := Lib.hid hl1
      have HB1 : Hid (∀ b, (Value.slice A1 O.length c1).ownBlock = some b → w.heap.size ≤ b) := Lib.hid (fun b hb => by have := (hown.lt (k := b) hb).1; simp at this; omega)
      have HG1 : Hid (Gr w w1) := Lib.hid (((Gr.refl w).alloc _ _).trans hg)
      clear hown hl1 hg
      go_wp2_with fail
      refine (CR.out _ _ _ HL1.out).mono ?_
      rintro e w2 ⟨rfl, hg2⟩
      have HG2 := Lib.hid (HG1.out.trans hg2)
      have HL2 := Lib.hid (HL1.out.gr hg2)
      clear hg2
      first
        | (go_wp2_with fail
           refine (CC.out _ HG2.out).mono ?_
           rintro e w3 ⟨A3, c3, rfl, hl3, hg3, hq3⟩
           have HL3 := Lib.hid hl3
           have HQ3 := Lib.hid hq3
           clear hl3 hq3
           go_wp2
           go_ret
           exact ⟨_, _, by rw [HW.out]; rfl, by rw [HW.out]; exact HL3.out, HG2.out.trans hg3, by rw [HW.out]; exact fun h0 b hb => Nat.le_trans HG2.out.size (HQ3.out h0 b hb)⟩)
        | (go_wp2
           go_ret
           exact ⟨_, _, by rw [HW.out]; rfl, by rw [HW.out]; exact HL2.out, HG2.out, by rw [HW.out]; exact fun _ b hb => HB1.out b hb⟩)
  · obtain ⟨n1, n2, n3⟩ := ne_facts (by omega : 0 < vl.size)
    have hO2 : putL (pickL l [nm] false) (nm, vl) = O := by rw [← hO]; unfold outL; rw [if_neg h0]
    obtain ⟨P, hP⟩ : ∃ P, pickL l [nm] false = P := ⟨_, rfl⟩
    rw [hP] at CD hPL hO2
    have HP := Lib.hid hO2
    clear h0 hO hO2 hrb hWO h1 h2 hP
    cases rb
    all_goals
      go_enter Tryd.func54, Tryd.ntmps54
      go_wp2_with fail
      refine CD.out.mono ?_
      rintro e w1 ⟨v1, rfl, hown, hg⟩
      obtain ⟨A1, c1, rfl, hl1, hlc, hcm⟩ := hown.form
      have HO1 : Hid (Own w1 w.heap.size (.slice A1 P.length c1) P) := Lib.hid (hown.mono (by simp))
      have HL1 := Lib.hid hl1
      have hs1 : w.heap.size ≤ w1.heap.size := by have := hg.size; simp at this; omega
      have HG1 : Hid (Gr w w1) := Lib.hid (((Gr.refl w).alloc _ _).trans hg)
      clear hown hl1 hg
      go_wp2
      go_loopw [8] (fun i wr => ∃ k : Nat, k ≤ P.length ∧ i = .int .i64 k ∧ Hid (∀ y ∈ P.take k, ltS y.1 nm = true) ∧ Gr w1 wr) (fun i _ => P.length - (intOf i).toNat)
      case atStart => exact ⟨0, Nat.zero_le _, rfl, fun y hy => by simp at hy, Gr.refl _⟩
      case round =>
        obtain ⟨k, hk, rfl, HU, hg⟩ := hrel
        have rest : (k = P.length ∨ ∃ h : k < P.length, ltS (P[k]).1 nm = false) → Hid (P.take k ++ [(nm, vl)] ++ P.drop k = O) := fun h => by rw [← HP.out]; exact (putL_at (x := (nm, vl)) HU.out h).symm
        have RE := Lib.hid rest; clear rest
        have hgs := hg.size
        have f5 : (0 : Int) ≤ k := by omega
        by_cases hlt : k < P.length
        · obtain ⟨b, o, rfl, d1, d2, -⟩ := (HL1.out.gr hg).at_ hlt
          obtain ⟨y, hy⟩ : ∃ y, P[k] = y := ⟨_, rfl⟩
          have outy : ltS y.1 nm = true → Hid (∀ y ∈ P.take (k + 1), ltS y.1 nm = true) := fun h z hz => by
            rw [List.take_succ_eq_append_getElem hlt] at hz
            rcases List.mem_append.1 hz with hz | hz
            · exact HU.out z hz
            · rw [List.mem_singleton] at hz; rw [hz, hy]; exact h
          have outn : ltS y.1 nm = false → Hid (P.take k ++ [(nm, vl)] ++ P.drop k = O) := fun h => RE.out (.inr ⟨hlt, by rw [hy]; exact h⟩)
          have OY := Lib.hid outy; have ON := Lib.hid outn
          rw [hy] at d1 d2
          clear hy outy outn
          have f4 : (k : Int) < (P.length : Int) := by omega
          cases e1 : Op.bytesLess y.1.toList nm.toList
          · have HN := ON.out e1
            have CI := Lib.hid (insert_any w.heap.size _ P (nm, vl) k (wr.alloc (.cells #[.string nm, .string vl] 49)) wr.heap.size ((HO1.out.gr hg).alloc _) (by omega) (by omega) (by simp; omega) (heap_alloc_new wr _) (fun e => by have := ((HO1.out.gr hg).lt e).2; omega))
            have hOl : P.length + 1 = O.length := by rw [← HN.out]; simp; try omega
            have HG2 := Lib.hid ((HG1.out.trans hg).alloc #[.string nm, .string vl] 49)
            go_wp2_with fail
            refine CI.out.mono ?_
            rintro e w2 ⟨A2, c2, rfl, hl2, hb2, hq2⟩
            rw [HN.out] at hl2
            rw [hOl] at hq2 ⊢
            have HL2 := Lib.hid hl2
            have HQ2 := Lib.hid hq2
            have HG3 := Lib.hid (HG2.out.below hb2 (Nat.le_refl _))
            clear hl2 hb2 CI hOl hq2
            go_wp2_with fail
            refine (CR.out _ _ _ HL2.out).mono ?_
            rintro e w3 ⟨rfl, hg3⟩
            have HG4 := Lib.hid (HG3.out.trans hg3)
            have HL3 := Lib.hid (HL2.out.gr hg3)
            clear hg3
            first
              | (go_wp2_with fail
                 refine (CC.out _ HG4.out).mono ?_
                 rintro e w4 ⟨A4, c4, rfl, hl4, hg4, hq4⟩
                 have HL4 := Lib.hid hl4
                 have HQ4 := Lib.hid hq4
                 clear hl4 hq4
                 go_wp2
                 go_ret
                 exact ⟨_, _, by rw [HW.out]; rfl, by rw [HW.out]; exact HL4.out, HG4.out.trans hg4, by rw [HW.out]; exact fun h0 b hb => Nat.le_trans HG4.out.size (HQ4.out h0 b hb)⟩)
              | (go_wp2
                 go_ret
                 exact ⟨_, _, by rw [HW.out]; rfl, by rw [HW.out]; exact HL3.out, HG4.out, by rw [HW.out]; exact fun _ b hb => HQ2.out b hb⟩)
          · have HN := OY.out e1
            go_wp2
            go_roundw
            case rel => exact ⟨k + 1, by omega, by go_num, HN, hg⟩
            case measure => simp [intOf]; omega
        · obtain rfl : k = P.length := by omega
          have HN := RE.out (.inl rfl)
          have CI := Lib.hid (insert_any w.heap.size _ P (nm, vl) P.length (wr.alloc (.cells #[.string nm, .string vl] 49)) wr.heap.size ((HO1.out.gr hg).alloc _) (by omega) (by omega) (by simp; omega) (heap_alloc_new wr _) (fun e => by have := ((HO1.out.gr hg).lt e).2; omega))
          have hOl : P.length + 1 = O.length := by rw [← HN.out]; simp; try omega
          have HG2 := Lib.hid ((HG1.out.trans hg).alloc #[.string nm, .string vl] 49)
          go_wp2_with fail
          refine CI.out.mono ?_
          rintro e w2 ⟨A2, c2, rfl, hl2, hb2, hq2⟩
          rw [HN.out] at hl2
          rw [hOl] at hq2 ⊢
          have HL2 := Lib.hid hl2
          have HQ2 := Lib.hid hq2
          have HG3 := Lib.hid (HG2.out.below hb2 (Nat.le_refl _))
          clear hl2 hb2 CI hOl hq2
          go_wp2_with fail
          refine (CR.out _ _ _ HL2.out).mono ?_
          rintro e w3 ⟨rfl, hg3⟩
          have HG4 := Lib.hid (HG3.out.trans hg3)
          have HL3 := Lib.hid (HL2.out.gr hg3)
          clear hg3
          first
            | (go_wp2_with fail
               refine (CC.out _ HG4.out).mono ?_
               rintro e w4 ⟨A4, c4, rfl, hl4, hg4, hq4⟩
               have HL4 := Lib.hid hl4
               have HQ4 := Lib.hid hq4
               clear hl4 hq4
               go_wp2
               go_ret
               exact ⟨_, _, by rw [HW.out]; rfl, by rw [HW.out]; exact HL4.out, HG4.out.trans hg4, by rw [HW.out]; exact fun h0 b hb => Nat.le_trans HG4.out.size (HQ4.out h0 b hb)⟩)
            | (go_wp2
               go_ret
               exact ⟨_, _, by rw [HW.out]; rfl, by rw [HW.out]; exact HL3.out, HG4.out, by rw [HW.out]; exact fun _ b hb => HQ2.out b hb⟩)
theorem with_any (A : Option Addr) (l : List Lb) (c : Nat) (nm vl : ByteArray) (w : World) (h : LabsAt w A l) (hw : Wd l) (hl : l.length ≤ 549755813887) (h1 : nm.size ≤ maxLen) (h2 : vl.size ≤ maxLen) :
    Calls Tryd.prog 54 #[.slice A l.length c, .string nm, .string vl] w (ListPost (withL l nm vl) w) :=
  (withF_any A l c nm vl w h hw hl h1 h2).mono fun _ _ h => h.list
end Go.Proofs.YtoooaipbkkiefaaDoor
