/- The walk of LabelsSets. -/
import Derived.Test.YtgjmjfpeonldgaaDoorKnown
import Derived.Test.YtgjmjfpeonldgaaDoorRight
namespace Go.Proofs.YtgjmjfpeonldgaaDoor
open Go.RowKit Go.Sort
set_option maxRecDepth 100000
set_option maxHeartbeats 4000000

theorem setL_le (l : List Lb) : (setL l).length ≤ l.length := by have := (setL_perm l).length_eq; have := List.length_filter_le full l; omega
theorem setV_le (l : List Lb) : (setV l).length ≤ l.length := by
  unfold setV
  split
  · exact setL_le l
  · simp
theorem setL_wd {l : List Lb} (h : Wd l) : Wd (setL l) := fun x hx => h x (List.mem_filter.1 ((setL_perm l).mem_iff.1 hx)).1
theorem lawSets_any (A : Option Addr) (l : List Lb) (c : Nat) (w : World) (h : LabsAt w A l) (hw : Wd l) (hl : l.length ≤ 549755813888) (hk : Kn w) :
    Calls Tryd.prog 3 #[.slice A l.length c] w fun e w' => e = .returned (.bool true) ∧ Gr w w' := by
  have HL := Lib.hid h; have HW := Lib.hid hw
  have CKN := Lib.hid (known_any w hk)
  have CF := Lib.hid (fun W (g : Gr w W) => few_any A l c W (h.gr g) hw (by omega))
  have CS := Lib.hid (fun W (g : Gr w W) => set_any A l c W (h.gr g) hw (by omega))
  have CR := Lib.hid (fun W (g : Gr w W) => rSet_any A l c W (h.gr g) hw (by omega))
  have CA := Lib.hid (fun W (g : Gr w W) => right_any A l c W (h.gr g) hw (by omega))
  have CB := Lib.hid (fun W (g : Gr w W) => rRight_any A l c W (h.gr g) hw (by omega))
  have hvl := setV_le l
  clear h hw hk
  by_cases hf : fewP l
  case neg =>
    rw [decide_eq_false hf] at CF
    clear hf
    go_enter Tryd.func3, Tryd.ntmps3
    go_wp2_with fail
    refine CKN.out.mono ?_
    rintro e w1 ⟨rfl, g1⟩
    go_wp2_with fail
    refine (CF.out _ g1).mono ?_
    rintro e w2 ⟨rfl, rfl⟩
    go_wp2
    go_ret
    exact ⟨rfl, g1⟩
  rw [decide_eq_true hf] at CF
  clear hf
  go_enter Tryd.func3, Tryd.ntmps3
  go_wp2_with fail
  refine CKN.out.mono ?_
  rintro e w1 ⟨rfl, g1⟩
  go_wp2_with fail
  refine (CF.out _ g1).mono ?_
  rintro e w2 ⟨rfl, rfl⟩
  go_wp2_with fail
  refine (CS.out _ g1).mono ?_
  rintro e w3 ⟨A3, c3, rfl, l3, g3⟩
  have G3 := Lib.hid (g1.trans g3)
  have L3 := Lib.hid l3
  clear l3 g3
  go_wp2_with fail
  refine (CR.out _ G3.out).mono ?_
  rintro e w4 ⟨A4, c4, rfl, l4, g4⟩
  have G4 := Lib.hid (G3.out.trans g4)
  have hS := same_any A3 A4 (setV l) (setV l) c3 c4 w4 (L3.out.gr g4) l4 (by omega) (by omega)
  rw [decide_eq_true rfl] at hS
  have L4 := Lib.hid (L3.out.gr g4)
  have HS := Lib.hid hS
  clear l4 g4 hS L3
  obtain ⟨ev, hev⟩ : ∃ ev, setE l = ev := ⟨_, rfl⟩
  rw [hev]
  have HEV := Lib.hid hev
  clear hev
  go_wp2_with fail
  refine HS.out.mono ?_
  rintro e w5 ⟨rfl, g5⟩
  have G5 := Lib.hid (G4.out.trans g5)
  have L5 := Lib.hid (L4.out.gr g5)
  clear g5 L4 HS
  obtain ⟨rb, hrb⟩ : ∃ rb, rightB l = rb := ⟨_, rfl⟩
  rw [hrb] at CA CB
  clear hrb
  go_wp2_with fail
  refine (CA.out _ G5.out).mono ?_
  rintro e w6 ⟨rfl, g6⟩
  go_wp2_with fail
  refine (CB.out _ (G5.out.trans g6)).mono ?_
  rintro e w7 ⟨rfl, g7⟩
  have G7 := Lib.hid ((G5.out.trans g6).trans g7)
  have L7 := Lib.hid ((L5.out.gr g6).gr g7)
  clear g6 g7 L5
  cases rb
  all_goals
    go_wp2
    go_loopw [7] (fun i wr => ∃ k : Nat, k ≤ l.length ∧ i = .int .i64 k ∧ Gr w7 wr) (fun i _ => l.length - (intOf i).toNat)
    case atStart => exact ⟨0, Nat.zero_le _, rfl, Gr.refl _⟩
    case round =>
      obtain ⟨k, hk, rfl, hg⟩ := hrel
      by_cases hlt : k < l.length
      · obtain ⟨b, o, rfl, c1, c2, -⟩ := (HL.out.gr (G7.out.trans hg)).at_ hlt
        have hn := (HW.out _ (List.getElem_mem hlt)).1
        have f4 : (k : Int) < (l.length : Int) := by omega
        have f5 : (0 : Int) ≤ k := by omega
        obtain ⟨x, hx⟩ : ∃ x, l[k] = x := ⟨_, rfl⟩
        rw [hx] at c1 c2 hn
        clear hx
        have C1 := Lib.hid (fun W => name_any x.1 W hn)
        have C2 := Lib.hid (fun W => rName_any x.1 W hn)
        obtain ⟨nb, hnb⟩ : ∃ nb, nameB x.1 = nb := ⟨_, rfl⟩
        rw [hnb] at C1 C2
        clear hnb hn
        cases nb
        all_goals
          go_wp2_with fail
          go_quiet ((first | (go_at_call 15; exact quiet_left (C1.out _)) | (go_at_call 16; exact quiet_left (C2.out _))))
          go_wp2
          go_roundw
          case rel => exact ⟨k + 1, by omega, by go_num, by go_simp; exact hg.drewN _⟩
          case measure => simp [intOf]; omega
      · cases hB : setB l
        · have hE : ev = 1 := by rw [← HEV.out]; exact (setV_f hB).2
          subst hE
          clear hB
          go_wp2
          go_ret
          exact ⟨rfl, G7.out.trans hg⟩
        · have hE : ev = 0 := by rw [← HEV.out]; exact (setV_t hB).2
          subst hE
          have hV := (setV_t hB).1
          have hR := setL_right hB
          have hR2 := right_setP hR
          have hB2 := right_setB hR
          have L8 := L7.out.gr hg
          rw [hV] at L8 ⊢
          have hle := setL_le l
          have hwd := setL_wd HW.out
          obtain ⟨m, hm⟩ : ∃ m, setL l = m := ⟨_, rfl⟩
          rw [hm] at L8 hR hR2 hB2 hle hwd ⊢
          have CS2 := Lib.hid (set_any A3 m c3 wr L8 hwd (by omega))
          have CA2 := Lib.hid (fun W (g : Gr wr W) => right_any A3 m c3 W (L8.gr g) hwd (by omega))
          have CM := Lib.hid (fun W A5 c5 (g : Gr wr W) (h5 : LabsAt W A5 m) => same_any A3 A5 m m c3 c5 W (L8.gr g) h5 (by omega) (by omega))
          rw [decide_eq_true rfl] at CM
          rw [rightB_t.2 hR] at CA2
          have HV2 : Hid (setV m = m ∧ setE m = 0) := Lib.hid ⟨by rw [(setV_t hB2).1, hR2.2], (setV_t hB2).2⟩
          clear hB hV hR hR2 hB2 L8 hwd hm
          go_wp2_with fail
          refine CS2.out.mono ?_
          rintro e w8 ⟨A8, c8, rfl, l8, g8⟩
          rw [HV2.out.1] at l8 ⊢
          rw [HV2.out.2]
          have L9 := Lib.hid l8
          clear l8
          go_wp2_with fail
          refine (CA2.out _ g8).mono ?_
          rintro e w9 ⟨rfl, g9⟩
          go_wp2_with fail
          refine (CM.out _ _ _ (g8.trans g9) (L9.out.gr g9)).mono ?_
          rintro e w10 ⟨rfl, g10⟩
          go_wp2
          go_ret
          exact ⟨rfl, (((G7.out.trans hg).trans g8).trans g9).trans g10⟩
theorem lawSets_big (A : Option Addr) (n c : Nat) (w : World) (h : 80 < n) (hn : n ≤ maxLen) (hk : Kn w) :
    Calls Tryd.prog 3 #[.slice A n c] w fun e w' => e = .returned (.bool true) ∧ Gr w w' := by
  have CKN := Lib.hid (known_any w hk)
  clear hk
  go_enter Tryd.func3, Tryd.ntmps3
  go_wp2_with fail
  refine CKN.out.mono ?_
  rintro e w1 ⟨rfl, g1⟩
  go_wp2_with fail
  refine (few_big _ _ _ _ h hn).mono ?_
  rintro e w2 ⟨rfl, rfl⟩
  go_wp2
  go_ret
  exact ⟨rfl, g1⟩
theorem walkSets (A : Option Addr) (n c : Nat) (w : World) (h : n ≤ 80 → ∃ l : List Lb, l.length = n ∧ LabsAt w A l ∧ Wd l) (hn : n ≤ maxLen) (hk : Kn w) :
    Calls Tryd.prog 3 #[.slice A n c] w fun e w' => e = .returned (.bool true) ∧ Gr w w' := by
  by_cases h80 : n ≤ 80
  · obtain ⟨l, rfl, hl, hw⟩ := h h80
    exact lawSets_any A l c w hl hw (by omega) hk
  · exact lawSets_big A n c w (by omega) hn hk
end Go.Proofs.YtgjmjfpeonldgaaDoor
