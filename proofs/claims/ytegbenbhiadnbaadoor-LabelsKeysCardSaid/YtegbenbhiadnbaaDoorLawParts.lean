/- The walk of LabelsParts. -/
import Derived.Test.YtegbenbhiadnbaaDoorKnown
import Derived.Test.YtegbenbhiadnbaaDoorWith
import Derived.Test.YtegbenbhiadnbaaDoorRefGroup
import Derived.Test.YtegbenbhiadnbaaDoorRefQuote
namespace Go.Proofs.YtegbenbhiadnbaaDoor
open Go.RowKit Go.Sort
set_option maxRecDepth 100000
set_option maxHeartbeats 4000000

/-- texts that came in, as far as 'names' reads them -/
def InS (w : World) (N : Option Addr) (n : Nat) : Prop := ∀ m, m ≤ n → m ≤ 81 → ∃ ns : List ByteArray, ns.length = m ∧ StrsAt w N ns ∧ ∀ x ∈ ns, x.size ≤ maxLen
theorem names_all {w : World} {N : Option Addr} {n : Nat} (d : Nat) (h : InS w N n) (hn : n ≤ maxLen) : ∃ nb : Bool, (∀ W, Gr w W → Calls Tryd.prog 9 #[.slice N n d] W fun e w' => e = .returned (.bool nb) ∧ W = w') ∧ (nb = true → n ≤ 80 ∧ ∃ ns : List ByteArray, ns.length = n ∧ StrsAt w N ns) := by
  by_cases h80 : n ≤ 80
  · obtain ⟨ns, rfl, hs, hw⟩ := h n (Nat.le_refl _) (by omega)
    exact ⟨nmsB ns, fun W g => names_any N ns d W (hs.gr g) hw h80, fun _ => ⟨h80, ns, rfl, hs⟩⟩
  · obtain ⟨ns, hl, hs, hw⟩ := h 81 (by omega) (Nat.le_refl _)
    exact ⟨false, fun W g => names_big N ns n d W (hs.gr g) hw hl (by omega) hn, fun e => by cases e⟩

theorem same_self (A B : Option Addr) (m : List Lb) (c d : Nat) (w : World) (ha : LabsAt w A m) (hb : LabsAt w B m) (hm : m.length ≤ 1099511627776) :
    Calls Tryd.prog 12 #[.slice A m.length c, .slice B m.length d] w fun e w' => e = .returned (.bool true) ∧ Gr w w' := by
  have h := same_any A B m m c d w ha hb hm hm
  rw [decide_eq_true rfl] at h
  exact h
theorem lawParts_any (A N1 N2 : Option Addr) (l : List Lb) (c n1 d1 n2 d2 : Nat) (how : Int) (nm vl : ByteArray) (w : World) (h : LabsAt w A l) (hw : Wd l) (hl : l.length ≤ 80)
    (hs1 : InS w N1 n1) (hn1 : n1 ≤ maxLen) (hs2 : InS w N2 n2) (hn2 : n2 ≤ maxLen) (h1 : nm.size ≤ maxLen) (h2 : vl.size ≤ maxLen) (hk : Kn w) :
    Calls Tryd.prog 3 #[.slice A l.length c, .slice N1 n1 d1, .agg #[.int .i64 how, .slice N2 n2 d2], .string nm, .string vl] w fun e w' => e = .returned (.bool true) ∧ Gr w w' := by
  obtain ⟨nb1, q1, p1⟩ := names_all d1 hs1 hn1
  obtain ⟨nb2, q2, p2⟩ := names_all d2 hs2 hn2
  have B1 : Gr w (w.alloc (.cells #[.int .i64 how, .slice N2 n2 d2] 25)) := (Gr.refl w).alloc _ _
  have CKN := Lib.hid (known_any _ (hk.gr B1))
  have CF := Lib.hid (fun W (g : Gr w W) => few_any A l c W (h.gr g) hw (by omega))
  have CA := Lib.hid (fun W (g : Gr w W) => rRight_any A l c W (h.gr g) hw (by omega))
  have CN1 := Lib.hid q1
  have CN2 := Lib.hid q2
  have HBX : Hid (∀ W, Gr (w.alloc (.cells #[.int .i64 how, .slice N2 n2 d2] 25)) W → W.cell? ⟨w.heap.size, 0, none⟩ = some (.int .i64 how) ∧ W.cell? ⟨w.heap.size, 1, none⟩ = some (.slice N2 n2 d2)) := Lib.hid fun W g => ⟨g.cell (by go_simp), g.cell (by go_simp)⟩
  have HB1 := Lib.hid B1
  clear q1 q2 B1
  have out : ∀ W, Gr (w.alloc (.cells #[.int .i64 how, .slice N2 n2 d2] 25)) W → Gr w W := fun W g => HB1.out.trans g
  have OUT := Lib.hid out; clear out
  by_cases hf : fewP l
  case neg =>
    rw [decide_eq_false hf] at CF
    clear hf
    go_enter Tryd.func3, Tryd.ntmps3
    go_wp2_with fail
    refine CKN.out.mono ?_
    rintro e w1 ⟨rfl, g1⟩
    go_wp2_with fail
    refine (CF.out _ (OUT.out _ g1)).mono ?_
    rintro e w2 ⟨rfl, rfl⟩
    go_wp2
    go_ret
    exact ⟨rfl, OUT.out _ g1⟩
  rw [decide_eq_true hf] at CF
  have HF := Lib.hid hf
  clear hf
  cases hrb : rightB l
  · rw [hrb] at CA
    clear hrb
    go_enter Tryd.func3, Tryd.ntmps3
    go_wp2_with fail
    refine CKN.out.mono ?_
    rintro e w1 ⟨rfl, g1⟩
    go_wp2_with fail
    refine (CF.out _ (OUT.out _ g1)).mono ?_
    rintro e w2 ⟨rfl, rfl⟩
    go_wp2_with fail
    refine (CA.out _ (OUT.out _ g1)).mono ?_
    rintro e w3 ⟨rfl, g3⟩
    go_wp2
    go_ret
    exact ⟨rfl, OUT.out _ (g1.trans g3)⟩
  rw [hrb] at CA
  have HRB := Lib.hid hrb
  clear hrb
  cases nb1
  · go_enter Tryd.func3, Tryd.ntmps3
    go_wp2_with fail
    refine CKN.out.mono ?_
    rintro e w1 ⟨rfl, g1⟩
    go_wp2_with fail
    refine (CF.out _ (OUT.out _ g1)).mono ?_
    rintro e w2 ⟨rfl, rfl⟩
    go_wp2_with fail
    refine (CA.out _ (OUT.out _ g1)).mono ?_
    rintro e w3 ⟨rfl, g3⟩
    go_wp2_with fail
    refine (CN1.out _ (OUT.out _ (g1.trans g3))).mono ?_
    rintro e w4 ⟨rfl, rfl⟩
    go_wp2
    go_ret
    exact ⟨rfl, OUT.out _ (g1.trans g3)⟩
  cases nb2
  · go_enter Tryd.func3, Tryd.ntmps3
    go_wp2_with fail
    refine CKN.out.mono ?_
    rintro e w1 ⟨rfl, g1⟩
    go_wp2_with fail
    refine (CF.out _ (OUT.out _ g1)).mono ?_
    rintro e w2 ⟨rfl, rfl⟩
    go_wp2_with fail
    refine (CA.out _ (OUT.out _ g1)).mono ?_
    rintro e w3 ⟨rfl, g3⟩
    obtain ⟨b0, b1⟩ := HBX.out _ (g1.trans g3)
    go_wp2_with fail
    refine (CN1.out _ (OUT.out _ (g1.trans g3))).mono ?_
    rintro e w4 ⟨rfl, rfl⟩
    go_wp2_with fail
    refine (CN2.out _ (OUT.out _ (g1.trans g3))).mono ?_
    rintro e w5 ⟨rfl, rfl⟩
    go_wp2
    go_ret
    exact ⟨rfl, OUT.out _ (g1.trans g3)⟩
  obtain ⟨e80, ns1, el1, s1⟩ := p1 rfl
  obtain ⟨e80', ns2, el2, s2⟩ := p2 rfl
  clear hs1 hs2 hn1 hn2 p1 p2
  subst el1 el2
  unfold maxLen at h1 h2
  by_cases hnm : nm.size ≤ 400
  case neg =>
    have hnm' : ¬ (nm.size : Int) ≤ 400 := by omega
    go_enter Tryd.func3, Tryd.ntmps3
    go_wp2_with fail
    refine CKN.out.mono ?_
    rintro e w1 ⟨rfl, g1⟩
    go_wp2_with fail
    refine (CF.out _ (OUT.out _ g1)).mono ?_
    rintro e w2 ⟨rfl, rfl⟩
    go_wp2_with fail
    refine (CA.out _ (OUT.out _ g1)).mono ?_
    rintro e w3 ⟨rfl, g3⟩
    obtain ⟨b0, b1⟩ := HBX.out _ (g1.trans g3)
    go_wp2_with fail
    refine (CN1.out _ (OUT.out _ (g1.trans g3))).mono ?_
    rintro e w4 ⟨rfl, rfl⟩
    go_wp2_with fail
    refine (CN2.out _ (OUT.out _ (g1.trans g3))).mono ?_
    rintro e w5 ⟨rfl, rfl⟩
    go_wp2
    go_ret
    exact ⟨rfl, OUT.out _ (g1.trans g3)⟩
  by_cases hvl : vl.size ≤ 2000
  case neg =>
    have hnm' : (nm.size : Int) ≤ 400 := by omega
    have hvl' : ¬ (vl.size : Int) ≤ 2000 := by omega
    go_enter Tryd.func3, Tryd.ntmps3
    go_wp2_with fail
    refine CKN.out.mono ?_
    rintro e w1 ⟨rfl, g1⟩
    go_wp2_with fail
    refine (CF.out _ (OUT.out _ g1)).mono ?_
    rintro e w2 ⟨rfl, rfl⟩
    go_wp2_with fail
    refine (CA.out _ (OUT.out _ g1)).mono ?_
    rintro e w3 ⟨rfl, g3⟩
    obtain ⟨b0, b1⟩ := HBX.out _ (g1.trans g3)
    go_wp2_with fail
    refine (CN1.out _ (OUT.out _ (g1.trans g3))).mono ?_
    rintro e w4 ⟨rfl, rfl⟩
    go_wp2_with fail
    refine (CN2.out _ (OUT.out _ (g1.trans g3))).mono ?_
    rintro e w5 ⟨rfl, rfl⟩
    go_wp2
    go_ret
    exact ⟨rfl, OUT.out _ (g1.trans g3)⟩
  have hnm' : (nm.size : Int) ≤ 400 := by omega
  have hvl' : (vl.size : Int) ≤ 2000 := by omega
  have CG := Lib.hid (fun W (g : Gr w W) => get_any A l c nm W (h.gr g) (by omega))
  have CRG := Lib.hid (fun W (g : Gr w W) => rGet_any A l c nm W (h.gr g) (by omega))
  have CW := Lib.hid (fun W (g : Gr w W) => with_any A l c nm vl W (h.gr g) hw (by omega) (by unfold maxLen; omega) (by unfold maxLen; omega))
  have CRW := Lib.hid (fun W (g : Gr w W) => rWith_any A l c nm vl W (h.gr g) hw (by omega) (by unfold maxLen; omega) (by unfold maxLen; omega))
  have CK := Lib.hid (fun W (g : Gr w W) => keep_any A N1 l ns1 c d1 W (h.gr g) (s1.gr g) (by omega) (by omega))
  have CRK := Lib.hid (fun W (g : Gr w W) => rKeep_any A N1 l ns1 c d1 W (h.gr g) (s1.gr g) (by omega) (by omega))
  have CD := Lib.hid (fun W (g : Gr w W) => drop_any A N1 l ns1 c d1 W (h.gr g) (s1.gr g) (by omega) (by omega))
  have CRD := Lib.hid (fun W (g : Gr w W) => rDrop_any A N1 l ns1 c d1 W (h.gr g) (s1.gr g) (by omega) (by omega))
  have CP := Lib.hid (fun W (g : Gr w W) => group_any A N2 l ns2 c d2 how W (h.gr g) (s2.gr g) (by omega) (by omega))
  have CRP := Lib.hid (fun W (g : Gr w W) => rGroup_any A N2 l ns2 c d2 how W (h.gr g) (s2.gr g) (by omega) (by omega))
  have hwl : (withL l nm vl).length ≤ 1000 := by
    have := outL_len l nm vl
    unfold withL
    split <;> omega
  have hp1 := pickL_len l ns1 true
  have hp2 := pickL_len l ns1 false
  have hp3 : (groupL l how ns2).length ≤ 1000 := by
    have := pickL_len l ns2 true
    have := pickL_len l (nmB :: ns2) false
    unfold groupL
    split
    · omega
    · split
      · omega
      · simp
  obtain ⟨L1, hL1⟩ : ∃ L1, withL l nm vl = L1 := ⟨_, rfl⟩
  obtain ⟨L2, hL2⟩ : ∃ L2, pickL l ns1 true = L2 := ⟨_, rfl⟩
  obtain ⟨L3, hL3⟩ : ∃ L3, pickL l ns1 false = L3 := ⟨_, rfl⟩
  obtain ⟨L4, hL4⟩ : ∃ L4, groupL l how ns2 = L4 := ⟨_, rfl⟩
  obtain ⟨gt, hgt⟩ : ∃ gt, getL l nm = gt := ⟨_, rfl⟩
  rw [hL1] at CW CRW hwl
  rw [hL2] at CK CRK hp1
  rw [hL3] at CD CRD hp2
  rw [hL4] at CP CRP hp3
  rw [hgt] at CG CRG
  clear hL1 hL2 hL3 hL4 hgt h hw s1 s2 hk h1 h2
  go_enter Tryd.func3, Tryd.ntmps3
  go_wp2_with fail
  refine CKN.out.mono ?_
  rintro e w1 ⟨rfl, g1⟩
  go_wp2_with fail
  refine (CF.out _ (OUT.out _ g1)).mono ?_
  rintro e w2 ⟨rfl, rfl⟩
  go_wp2_with fail
  refine (CA.out _ (OUT.out _ g1)).mono ?_
  rintro e w3 ⟨rfl, g3⟩
  have G3 := Lib.hid (g1.trans g3)
  clear g1 g3
  obtain ⟨b0, b1⟩ := HBX.out _ G3.out
  go_wp2_with fail
  refine (CN1.out _ (OUT.out _ G3.out)).mono ?_
  rintro e w4 ⟨rfl, rfl⟩
  go_wp2_with fail
  refine (CN2.out _ (OUT.out _ G3.out)).mono ?_
  rintro e w5 ⟨rfl, rfl⟩
  clear b0 b1
  go_wp2_with fail
  refine (CG.out _ (OUT.out _ G3.out)).mono ?_
  rintro e w6 ⟨rfl, g6⟩
  have G6 := Lib.hid (G3.out.trans g6)
  clear g6
  go_wp2_with fail
  refine (CRG.out _ (OUT.out _ G6.out)).mono ?_
  rintro e w7 ⟨rfl, g7⟩
  have G7 := Lib.hid (G6.out.trans g7)
  clear g7
  go_wp2_with fail
  refine (CW.out _ (OUT.out _ G7.out)).mono ?_
  rintro e w8 ⟨A8, c8, rfl, l8, g8⟩
  have G8 := Lib.hid (G7.out.trans g8)
  have HL8 := Lib.hid l8
  clear g8 l8
  go_wp2_with fail
  refine (CRW.out _ (OUT.out _ G8.out)).mono ?_
  rintro e w9 ⟨A9, c9, rfl, l9, g9⟩
  have G9 := Lib.hid (G8.out.trans g9)
  have C9 := Lib.hid (same_self A8 A9 L1 c8 c9 w9 (HL8.out.gr g9) l9 (by omega))
  clear g9 l9
  go_wp2_with fail
  refine C9.out.mono ?_
  rintro e w10 ⟨rfl, g10⟩
  have G10 := Lib.hid (G9.out.trans g10)
  clear g10 C9
  go_wp2_with fail
  obtain ⟨b0, b1⟩ := HBX.out _ G10.out
  have GD : Gr (w.alloc (.cells #[.int .i64 how, .slice N2 ns2.length d2] 25)) w10.drew := G10.out.drew
  have hnl : ns1.length ≤ 80 := by omega
  go_region_held3 (fun w' => w'.cell? ⟨w.heap.size, 0, none⟩ = some (.int .i64 how) ∧ w'.cell? ⟨w.heap.size, 1, none⟩ = some (.slice N2 ns2.length d2))
    (first
      | go_keep
      | exact HBX.out _ G9
      | exact HBX.out _ GG8
      | exact HBX.out _ GG7
      | exact HBX.out _ GG6
      | exact HBX.out _ GG5
      | exact HBX.out _ GG4
      | exact HBX.out _ GG3
      | exact HBX.out _ GG2
      | exact HBX.out _ GG1
      | exact HBX.out _ GD)
    (first
      | (go_at_call 12; refine (same_self _ _ L4 _ _ _ (Q7.gr h8) Q8 (by omega)).mono ?_; rintro e k9 ⟨rfl, h9⟩; have G9 := GG8.trans h9)
      | (go_at_call 20; refine (CRP.out _ (OUT.out _ GG7)).mono ?_; rintro e k8 ⟨P8, x8, rfl, Q8, h8⟩; have GG8 := GG7.trans h8)
      | (go_at_call 19; refine (CP.out _ (OUT.out _ GG6)).mono ?_; rintro e k7 ⟨P7, x7, rfl, Q7, h7⟩; have GG7 := GG6.trans h7)
      | (go_at_call 12; refine (same_self _ _ L3 _ _ _ (Q4.gr h5) Q5 (by omega)).mono ?_; rintro e k6 ⟨rfl, h6⟩; have GG6 := GG5.trans h6)
      | (go_at_call 18; refine (CRD.out _ (OUT.out _ GG4)).mono ?_; rintro e k5 ⟨v5, rfl, o5, h5⟩; obtain ⟨P5, x5, rfl, Q5, -⟩ := o5.form; clear o5; have GG5 := GG4.trans h5)
      | (go_at_call 17; refine (CD.out _ (OUT.out _ GG3)).mono ?_; rintro e k4 ⟨v4, rfl, o4, h4⟩; obtain ⟨P4, x4, rfl, Q4, -⟩ := o4.form; clear o4; have GG4 := GG3.trans h4)
      | (go_at_call 12; refine (same_self _ _ L2 _ _ _ (Q1.gr h2) Q2 (by omega)).mono ?_; rintro e k3 ⟨rfl, h3⟩; have GG3 := GG2.trans h3)
      | (go_at_call 16; refine (CRK.out _ (OUT.out _ GG1)).mono ?_; rintro e k2 ⟨v2, rfl, o2, h2⟩; obtain ⟨P2, x2, rfl, Q2, -⟩ := o2.form; clear o2; have GG2 := GG1.trans h2)
      | (go_at_call 15; refine (CK.out _ (OUT.out _ GD)).mono ?_; rintro e k1 ⟨v1, rfl, o1, h1⟩; obtain ⟨P1, x1, rfl, Q1, -⟩ := o1.form; clear o1; have GG1 := GD.trans h1))
  all_goals
    go_wp2
    go_ret
    exact ⟨rfl, OUT.out _ G9⟩
theorem lawParts_big (A N1 N2 : Option Addr) (n c n1 d1 n2 d2 : Nat) (how : Int) (nm vl : ByteArray) (w : World) (h : 80 < n) (hn : n ≤ maxLen) (hk : Kn w) :
    Calls Tryd.prog 3 #[.slice A n c, .slice N1 n1 d1, .agg #[.int .i64 how, .slice N2 n2 d2], .string nm, .string vl] w fun e w' => e = .returned (.bool true) ∧ Gr w w' := by
  have B1 : Gr w (w.alloc (.cells #[.int .i64 how, .slice N2 n2 d2] 25)) := (Gr.refl w).alloc _ _
  have CKN := Lib.hid (known_any _ (hk.gr B1))
  clear hk
  go_enter Tryd.func3, Tryd.ntmps3
  go_wp2_with fail
  refine CKN.out.mono ?_
  rintro e w1 ⟨rfl, g1⟩
  go_wp2_with fail
  refine (few_big _ _ _ _ h hn).mono ?_
  rintro e w2 ⟨rfl, rfl⟩
  go_wp2
  go_ret
  exact ⟨rfl, B1.trans g1⟩
theorem walkParts (A N1 N2 : Option Addr) (n c n1 d1 n2 d2 : Nat) (how : Int) (nm vl : ByteArray) (w : World) (h : n ≤ 80 → ∃ l : List Lb, l.length = n ∧ LabsAt w A l ∧ Wd l) (hn : n ≤ maxLen)
    (hs1 : InS w N1 n1) (hn1 : n1 ≤ maxLen) (hs2 : InS w N2 n2) (hn2 : n2 ≤ maxLen) (h1 : nm.size ≤ maxLen) (h2 : vl.size ≤ maxLen) (hk : Kn w) :
    Calls Tryd.prog 3 #[.slice A n c, .slice N1 n1 d1, .agg #[.int .i64 how, .slice N2 n2 d2], .string nm, .string vl] w fun e w' => e = .returned (.bool true) ∧ Gr w w' := by
  by_cases h80 : n ≤ 80
  · obtain ⟨l, rfl, hl, hw⟩ := h h80
    exact lawParts_any A N1 N2 l c n1 d1 n2 d2 how nm vl w hl hw h80 hs1 hn1 hs2 hn2 h1 h2 hk
  · exact lawParts_big A N1 N2 n c n1 d1 n2 d2 how nm vl w (by omega) hn hk
end Go.Proofs.YtegbenbhiadnbaaDoor
