/- The walk of LabelsKeepDrop. -/
import Derived.Test.YtegbenbhiadnbaaDoorLawParts
import Derived.Test.YtegbenbhiadnbaaDoorKdMath
namespace Go.Proofs.YtegbenbhiadnbaaDoor
open Go.RowKit Go.Sort
set_option maxRecDepth 100000
set_option maxHeartbeats 4000000

theorem lawKd_any (A N1 : Option Addr) (l : List Lb) (c n1 d1 : Nat) (nm vl : ByteArray) (w : World) (h : LabsAt w A l) (hw : Wd l) (hl : l.length ≤ 80)
    (hs1 : InS w N1 n1) (hn1 : n1 ≤ maxLen) (h1 : nm.size ≤ maxLen) (h2 : vl.size ≤ maxLen) (hk : Kn w) :
    Calls Tryd.prog 5 #[.slice A l.length c, .slice N1 n1 d1, .string nm, .string vl] w fun e w' => e = .returned (.bool true) ∧ Gr w w' := by
  obtain ⟨nb1, q1, p1⟩ := names_all d1 hs1 hn1
  have CKN := Lib.hid (known_any _ hk)
  have CF := Lib.hid (fun W (g : Gr w W) => few_any A l c W (h.gr g) hw (by omega))
  have CA := Lib.hid (fun W (g : Gr w W) => rRight_any A l c W (h.gr g) hw (by omega))
  have CN1 := Lib.hid q1
  clear q1
  by_cases hf : fewP l
  case neg =>
    rw [decide_eq_false hf] at CF
    clear hf
    go_enter Tryd.func5, Tryd.ntmps5
    go_wp2_with fail
    refine CKN.out.mono ?_
    rintro e w1 ⟨rfl, g1⟩
    go_wp2_with fail
    refine (CF.out _ g1).mono ?_
    rintro e w2 ⟨rfl, rfl⟩
    go_wp2
    go_ret
    exact ⟨rfl, g1⟩
  rw [decide_eq_true hf] at CF
  clear hf
  cases hrb : rightB l
  · rw [hrb] at CA
    clear hrb
    go_enter Tryd.func5, Tryd.ntmps5
    go_wp2_with fail
    refine CKN.out.mono ?_
    rintro e w1 ⟨rfl, g1⟩
    go_wp2_with fail
    refine (CF.out _ g1).mono ?_
    rintro e w2 ⟨rfl, rfl⟩
    go_wp2_with fail
    refine (CA.out _ g1).mono ?_
    rintro e w3 ⟨rfl, g3⟩
    go_wp2
    go_ret
    exact ⟨rfl, g1.trans g3⟩
  rw [hrb] at CA
  cases nb1
  · clear hrb
    go_enter Tryd.func5, Tryd.ntmps5
    go_wp2_with fail
    refine CKN.out.mono ?_
    rintro e w1 ⟨rfl, g1⟩
    go_wp2_with fail
    refine (CF.out _ g1).mono ?_
    rintro e w2 ⟨rfl, rfl⟩
    go_wp2_with fail
    refine (CA.out _ g1).mono ?_
    rintro e w3 ⟨rfl, g3⟩
    go_wp2_with fail
    refine (CN1.out _ (g1.trans g3)).mono ?_
    rintro e w4 ⟨rfl, rfl⟩
    go_wp2
    go_ret
    exact ⟨rfl, g1.trans g3⟩
  obtain ⟨e80, ns1, el1, s1⟩ := p1 rfl
  clear hs1 hn1 p1
  subst el1
  unfold maxLen at h1 h2
  by_cases hnm : nm.size ≤ 400
  case neg =>
    clear hrb
    have hnm' : ¬ (nm.size : Int) ≤ 400 := by omega
    go_enter Tryd.func5, Tryd.ntmps5
    go_wp2_with fail
    refine CKN.out.mono ?_
    rintro e w1 ⟨rfl, g1⟩
    go_wp2_with fail
    refine (CF.out _ g1).mono ?_
    rintro e w2 ⟨rfl, rfl⟩
    go_wp2_with fail
    refine (CA.out _ g1).mono ?_
    rintro e w3 ⟨rfl, g3⟩
    go_wp2_with fail
    refine (CN1.out _ (g1.trans g3)).mono ?_
    rintro e w4 ⟨rfl, rfl⟩
    go_wp2
    go_ret
    exact ⟨rfl, g1.trans g3⟩
  have hnm' : (nm.size : Int) ≤ 400 := by omega
  by_cases hvl : vl.size ≤ 2000
  case neg =>
    clear hrb
    have hvl' : ¬ (vl.size : Int) ≤ 2000 := by omega
    go_enter Tryd.func5, Tryd.ntmps5
    go_wp2_with fail
    refine CKN.out.mono ?_
    rintro e w1 ⟨rfl, g1⟩
    go_wp2_with fail
    refine (CF.out _ g1).mono ?_
    rintro e w2 ⟨rfl, rfl⟩
    go_wp2_with fail
    refine (CA.out _ g1).mono ?_
    rintro e w3 ⟨rfl, g3⟩
    go_wp2_with fail
    refine (CN1.out _ (g1.trans g3)).mono ?_
    rintro e w4 ⟨rfl, rfl⟩
    go_wp2
    go_ret
    exact ⟨rfl, g1.trans g3⟩
  have hvl' : (vl.size : Int) ≤ 2000 := by omega
  have CK := Lib.hid (fun W (g : Gr w W) => keep_any A N1 l ns1 c d1 W (h.gr g) (s1.gr g) (by omega) (by omega))
  have CD := Lib.hid (fun W (g : Gr w W) => drop_any A N1 l ns1 c d1 W (h.gr g) (s1.gr g) (by omega) (by omega))
  have HPK := Lib.hid (set_parts hrb ns1)
  have rk := right_pick hrb ns1 true
  have rd := right_pick hrb ns1 false
  have wk : Wd (pickL l ns1 true) := pickL_wd hw ns1 true
  have wd : Wd (pickL l ns1 false) := pickL_wd hw ns1 false
  have hp1 := pickL_len l ns1 true
  have hp2 := pickL_len l ns1 false
  have CRK := Lib.hid (fun A' c' W (g : LabsAt W A' (pickL l ns1 true)) => right_any A' _ c' W g wk (by omega))
  have CRD := Lib.hid (fun A' c' W (g : LabsAt W A' (pickL l ns1 false)) => right_any A' _ c' W g wd (by omega))
  rw [rk] at CRK
  rw [rd] at CRD
  have wkd : Wd (pickL l ns1 true ++ pickL l ns1 false) := fun x hx => (List.mem_append.1 hx).elim (wk x) (wd x)
  have CS := Lib.hid (fun A' c' W (g : LabsAt W A' (pickL l ns1 true ++ pickL l ns1 false)) => set_any A' _ c' W g wkd (by simp; omega))
  have HV : Hid (setV (pickL l ns1 true ++ pickL l ns1 false) = l ∧ setE (pickL l ns1 true ++ pickL l ns1 false) = 0) := Lib.hid ⟨by rw [(setV_t HPK.out.1).1, HPK.out.2], (setV_t HPK.out.1).2⟩
  have CW := Lib.hid (fun W (g : Gr w W) => with_any A l c nm vl W (h.gr g) hw (by omega) (by unfold maxLen; omega) (by unfold maxLen; omega))
  have ww : Wd (withL l nm vl) := by
    unfold withL
    split
    · exact outL_wd hw (by unfold maxLen; omega) (by unfold maxLen; omega)
    · exact hw
  have hwl : (withL l nm vl).length ≤ 1000 := by
    have := outL_len l nm vl
    unfold withL
    split <;> omega
  have hwr := with_right hrb nm vl
  have CWR := Lib.hid (fun A' c' W (g : LabsAt W A' (withL l nm vl)) => right_any A' _ c' W g ww (by omega))
  rw [hwr] at CWR
  have CW2 := Lib.hid (fun A' c' W (g : LabsAt W A' (withL l nm vl)) => with_any A' _ c' nm ⟨#[]⟩ W g ww (by omega) (by unfold maxLen; omega) (by decide))
  have CGW := Lib.hid (fun A' c' W (g : LabsAt W A' (withL l nm vl)) => get_any A' _ c' nm W g (by omega))
  have HLL := Lib.hid h
  have CN := Lib.hid (fun W => name_any nm W (by unfold maxLen; omega))
  obtain ⟨nb, hnb⟩ : ∃ nb, nameB nm = nb := ⟨_, rfl⟩
  rw [hnb] at CN
  have HTH : Hid (nb = true → vl.size ≠ 0 → vl.size ≤ 256 → l.length < 32 → getL (withL l nm vl) nm = vl ∧ withL (withL l nm vl) nm ⟨#[]⟩ = pickL l [nm] false) := Lib.hid fun e a b c => with_there hrb (by rw [hnb]; exact e) a b c
  have CDR := Lib.hid (fun W (g : Gr w W) => drop_any A (some ⟨W.heap.size, 0, none⟩) l [nm] c 1 (W.alloc (.cells #[.string nm] 9)) (h.gr (g.alloc _ _)) (strs_one W nm) (by omega) (by simp))
  have hp3 := pickL_len l [nm] false
  have HW2L : Hid ((withL (withL l nm vl) nm ⟨#[]⟩).length ≤ 2000) := Lib.hid (by have := withL_len (withL l nm vl) nm ⟨#[]⟩; omega)
  obtain ⟨K, hK⟩ : ∃ K, pickL l ns1 true = K := ⟨_, rfl⟩
  obtain ⟨D, hD⟩ : ∃ D, pickL l ns1 false = D := ⟨_, rfl⟩
  obtain ⟨L1, hL1⟩ : ∃ L1, withL l nm vl = L1 := ⟨_, rfl⟩
  obtain ⟨L2, hL2⟩ : ∃ L2, withL L1 nm ⟨#[]⟩ = L2 := ⟨_, rfl⟩
  obtain ⟨L3, hL3⟩ : ∃ L3, pickL l [nm] false = L3 := ⟨_, rfl⟩
  obtain ⟨gt, hgt⟩ : ∃ gt, getL L1 nm = gt := ⟨_, rfl⟩
  rw [hK] at CK CRK HPK CS HV hp1
  rw [hD] at CD CRD HPK CS HV hp2
  rw [hL1] at CW CWR CW2 CGW HTH hwl HW2L
  rw [hL2] at CW2 HTH HW2L
  rw [hL3] at CDR HTH hp3
  rw [hgt] at CGW HTH
  clear hK hD hL1 hL2 hL3 hgt h hw s1 hk h1 h2 rk rd wk wd wkd ww hwr hnb hrb
  go_enter Tryd.func5, Tryd.ntmps5
  go_wp2_with fail
  refine CKN.out.mono ?_
  rintro e w1 ⟨rfl, g1⟩
  go_wp2_with fail
  refine (CF.out _ g1).mono ?_
  rintro e w2 ⟨rfl, rfl⟩
  go_wp2_with fail
  refine (CA.out _ g1).mono ?_
  rintro e w3 ⟨rfl, g3⟩
  have G3 := Lib.hid (g1.trans g3)
  clear g1 g3
  go_wp2_with fail
  refine (CN1.out _ G3.out).mono ?_
  rintro e w4 ⟨rfl, rfl⟩
  go_wp2_with fail
  refine (CK.out _ G3.out).mono ?_
  rintro e w5 ⟨v5, rfl, o5, g5⟩
  obtain ⟨A5, c5, rfl, l5, m5, mx5⟩ := o5.form
  have HL5 := Lib.hid l5
  have G5 := Lib.hid (G3.out.trans g5)
  clear g5 o5 l5
  go_wp2_with fail
  refine (CD.out _ G5.out).mono ?_
  rintro e w6 ⟨v6, rfl, o6, g6⟩
  obtain ⟨A6, c6, rfl, l6, m6, mx6⟩ := o6.form
  have HL6 := Lib.hid l6
  have HL56 := Lib.hid (HL5.out.gr g6)
  have G6 := Lib.hid (G5.out.trans g6)
  clear g6 o6 l6 HL5
  have HRK : Hid (∀ W, Gr w6 W → Reads W (.slice A5 K.length c5) K) := Lib.hid fun W g => ⟨A5, c5, rfl, HL56.out.gr g, m5, mx5⟩
  have HRD : Hid (∀ W, Gr w6 W → Reads W (.slice A6 D.length c6) D) := Lib.hid fun W g => ⟨A6, c6, rfl, HL6.out.gr g, m6, mx6⟩
  clear m5 mx5 m6 mx6
  go_wp2_with (first
    | (have tok := hown1; clear tok; at_builtin; refine wpList_app rfl rfl (.tmp 49) (.tmp 50) (by rfl) (by rfl) (B := w6.heap.size) (l := [] ++ K) (m := D) hown1 (HRD.out _ (((Gr.refl w6).alloc _ _).below hbel1 (Nat.le_refl _))) (by simp; omega) (by have := hbel1.size; simp at this; omega) ?_; intro v2 W2 hown2 hbel2 hgrow2 hat2)
    | (at_builtin; refine wpList_app rfl rfl (.tmp 47) (.tmp 48) (by rfl) (by rfl) (B := w6.heap.size) (l := []) (m := K) (own_new w6 _ (Nat.le_refl _)) (HRK.out _ ((Gr.refl w6).alloc _ _)) (by simp; omega) (by simp) ?_; intro v1 W1 hown1 hbel1 hgrow1 hat1))
  obtain ⟨A7, c7, rfl, l7, -, -⟩ := hown2.form
  have G7 : Hid (Gr w W2) := Lib.hid ((((G6.out.alloc _ _).below hbel1 G6.out.size).below hbel2 G6.out.size))
  have L7 : Hid (LabsAt W2 A7 (K ++ D)) := Lib.hid (by simpa using l7)
  have e7 : ([] ++ K ++ D).length = (K ++ D).length := by simp
  rw [e7]
  have GK : Hid (Gr w6 W2) := Lib.hid ((((Gr.refl w6).alloc _ _).below hbel1 (Nat.le_refl _)).below hbel2 (Nat.le_refl _))
  clear hown1 hown2 hbel1 hbel2 hgrow1 hgrow2 hat1 hat2 l7 e7
  go_wp2_with fail
  refine (CS.out _ _ _ L7.out).mono ?_
  rintro e w8 ⟨A8, c8, rfl, l8, g8⟩
  rw [HV.out.1] at l8 ⊢
  rw [HV.out.2]
  have G8 := Lib.hid (G7.out.trans g8)
  have GK8 := Lib.hid (GK.out.trans g8)
  have C8 := Lib.hid (same_self A8 A l c8 c w8 l8 (HLL.out.gr G8.out) (by omega))
  clear g8 l8 G7 GK L7
  go_wp2_with fail
  refine C8.out.mono ?_
  rintro e w9 ⟨rfl, g9⟩
  have G9 := Lib.hid (G8.out.trans g9)
  have GK9 := Lib.hid (GK8.out.trans g9)
  clear g9 G8 GK8 C8
  go_wp2_with fail
  refine (CRK.out _ _ _ (HL56.out.gr GK9.out)).mono ?_
  rintro e w10 ⟨rfl, g10⟩
  have G10 := Lib.hid (G9.out.trans g10)
  have GK10 := Lib.hid (GK9.out.trans g10)
  clear g10 G9 GK9
  go_wp2_with fail
  refine (CRD.out _ _ _ (HL6.out.gr GK10.out)).mono ?_
  rintro e w11 ⟨rfl, g11⟩
  have G11 := Lib.hid (G10.out.trans g11)
  clear g11 G10 GK10
  go_wp2_with fail
  refine (CW.out _ G11.out).mono ?_
  rintro e w12 ⟨A12, c12, rfl, l12, g12⟩
  have G12 := Lib.hid (G11.out.trans g12)
  have HL12 := Lib.hid l12
  clear g12 l12 G11
  go_wp2_with fail
  refine (CWR.out _ _ _ HL12.out).mono ?_
  rintro e w13 ⟨rfl, g13⟩
  have G13 := Lib.hid (G12.out.trans g13)
  have HL13 := Lib.hid (HL12.out.gr g13)
  clear g13 G12 HL12
  go_wp2_with fail
  refine (CW.out _ G13.out).mono ?_
  rintro e w14 ⟨A14, c14, rfl, l14, g14⟩
  have G14 := Lib.hid (G13.out.trans g14)
  have HL14 := Lib.hid (HL13.out.gr g14)
  have HLW := Lib.hid l14
  clear g14 l14 G13 HL13
  go_wp2_with fail
  refine (CW2.out _ _ _ HLW.out).mono ?_
  rintro e w15 ⟨A15, c15, rfl, l15, g15⟩
  have G15 := Lib.hid (G14.out.trans g15)
  have HL15 := Lib.hid (HL14.out.gr g15)
  have HL2 := Lib.hid l15
  clear g15 l15 G14 HL14 HLW
  by_cases h0 : vl.size = 0
  · obtain rfl := empty_eq h0
    clear h0
    go_wp2
    go_ret
    exact ⟨rfl, G15.out⟩
  obtain ⟨z1, z2, z3⟩ := ne_facts (by omega : 0 < vl.size)
  by_cases h32 : 32 ≤ l.length
  · have h32' : (32 : Int) ≤ (l.length : Int) := by omega
    clear h0
    go_wp2
    go_ret
    exact ⟨rfl, G15.out⟩
  have h32' : ¬ (32 : Int) ≤ (l.length : Int) := by omega
  cases nb
  · clear h0
    go_wp2_with fail
    refine (CN.out _).mono ?_
    rintro e w16 ⟨rfl, rfl⟩
    go_wp2
    go_ret
    exact ⟨rfl, G15.out⟩
  by_cases h256 : vl.size ≤ 256
  case neg =>
    have h256' : ¬ (vl.size : Int) ≤ 256 := by omega
    clear h0
    go_wp2_with fail
    refine (CN.out _).mono ?_
    rintro e w16 ⟨rfl, rfl⟩
    go_wp2
    go_ret
    exact ⟨rfl, G15.out⟩
  have h256' : (vl.size : Int) ≤ 256 := by omega
  obtain ⟨rfl, rfl⟩ := HTH.out rfl h0 h256 (by omega)
  clear h0
  go_wp2_with fail
  refine (CN.out _).mono ?_
  rintro e w16 ⟨rfl, rfl⟩
  go_wp2_with fail
  refine (CGW.out _ _ _ HL15.out).mono ?_
  rintro e w17 ⟨rfl, g17⟩
  have G17 := Lib.hid (G15.out.trans g17)
  have HL3 := Lib.hid (HL2.out.gr g17)
  clear g17 G15 HL15 HL2
  go_wp2_with fail
  refine (CDR.out _ G17.out).mono ?_
  rintro e w18 ⟨v18, rfl, o18, g18⟩
  obtain ⟨A18, c18, rfl, l18, -, -⟩ := o18.form
  have G18 := Lib.hid ((G17.out.alloc _ _).trans g18)
  have C18 := Lib.hid (same_self A15 A18 L2 c15 c18 w18 (HL3.out.gr (((Gr.refl _).alloc _ _).trans g18)) l18 (by omega))
  clear g18 l18 o18
  go_wp2_with fail
  refine C18.out.mono ?_
  rintro e w19 ⟨rfl, g19⟩
  go_wp2
  go_ret
  exact ⟨rfl, G18.out.trans g19⟩
theorem lawKd_big (A N1 : Option Addr) (n c n1 d1 : Nat) (nm vl : ByteArray) (w : World) (h : 80 < n) (hn : n ≤ maxLen) (hk : Kn w) :
    Calls Tryd.prog 5 #[.slice A n c, .slice N1 n1 d1, .string nm, .string vl] w fun e w' => e = .returned (.bool true) ∧ Gr w w' := by
  have CKN := Lib.hid (known_any _ hk)
  clear hk
  go_enter Tryd.func5, Tryd.ntmps5
  go_wp2_with fail
  refine CKN.out.mono ?_
  rintro e w1 ⟨rfl, g1⟩
  go_wp2_with fail
  refine (few_big _ _ _ _ h hn).mono ?_
  rintro e w2 ⟨rfl, rfl⟩
  go_wp2
  go_ret
  exact ⟨rfl, g1⟩
theorem walkKd (A N1 : Option Addr) (n c n1 d1 : Nat) (nm vl : ByteArray) (w : World) (h : n ≤ 80 → ∃ l : List Lb, l.length = n ∧ LabsAt w A l ∧ Wd l) (hn : n ≤ maxLen)
    (hs1 : InS w N1 n1) (hn1 : n1 ≤ maxLen) (h1 : nm.size ≤ maxLen) (h2 : vl.size ≤ maxLen) (hk : Kn w) :
    Calls Tryd.prog 5 #[.slice A n c, .slice N1 n1 d1, .string nm, .string vl] w fun e w' => e = .returned (.bool true) ∧ Gr w w' := by
  by_cases h80 : n ≤ 80
  · obtain ⟨l, rfl, hl, hw⟩ := h h80
    exact lawKd_any A N1 l c n1 d1 nm vl w hl hw h80 hs1 hn1 h1 h2 hk
  · exact lawKd_big A N1 n c n1 d1 nm vl w (by omega) hn hk
end Go.Proofs.YtegbenbhiadnbaaDoor
