/- The walk of VectorMaps. -/
import Derived.Test.YtoooaipbkkiefaaDoorPKnown
namespace Go.Proofs.YtoooaipbkkiefaaDoor.Pt
open Go.RowKit Go.Sort
set_option maxRecDepth 100000
set_option maxHeartbeats 8000000
attribute [local irreducible] wpQuiet

def mpV (fn : Int) (arg : Nat) (l : List Pt) : List Pt := if Fv.fnOk fn then norV (l.map (nmP fun x => Fv.fnV fn x arg)) else []
def mpE (fn : Int) (arg : Nat) (l : List Pt) : Int := if Fv.fnOk fn then norE (l.map (nmP fun x => Fv.fnV fn x arg)) else 1
def lbV (nm vl : ByteArray) (l : List Pt) : List Pt := if lokB nm vl then norV (l.map (labP nm vl)) else []
def lbE (nm vl : ByteArray) (l : List Pt) : Int := if lokB nm vl then norE (l.map (labP nm vl)) else 1
theorem SmP.nil : SmP [] := ⟨by simp, fun p hp => by simp at hp⟩
theorem mpV_sm {l : List Pt} (h : SmP l) (fn : Int) (arg : Nat) : SmP (mpV fn arg l) := by
  unfold mpV; split
  · exact (h.nm _).nor
  · exact SmP.nil
theorem lbV_sm {l : List Pt} (h : SmP l) {nm vl : ByteArray} (h1 : nm.size ≤ maxLen) (h2 : vl.size ≤ maxLen) : SmP (lbV nm vl l) := by
  unfold lbV; split
  · exact (h.map fun p hp => (h.2 p hp).with_ h1 h2).nor
  · exact SmP.nil
theorem map_any (fn : Int) (arg : Nat) (A : Option Addr) (l : List Pt) (c : Nat) (w : World) (h : PtsAt w A l) (hs : SmP l) (ht : Fv.Tab w) :
    Calls Tryd.prog 15 #[.slice A l.length c, .int .i64 fn, .float .f64 arg] w (VPost (mpV fn arg l) (mpE fn arg l) w) := by
  unfold mpV mpE
  cases ho : Fv.fnOk fn
  · exact map_no fn arg A _ c w ht ho
  · exact map_yes fn arg A l c w h hs ht ho
theorem rmap_any (fn : Int) (arg : Nat) (A : Option Addr) (l : List Pt) (c : Nat) (w : World) (h : PtsAt w A l) (hs : SmP l) :
    Calls Tryd.prog 16 #[.slice A l.length c, .int .i64 fn, .float .f64 arg] w (VPost (mpV fn arg l) (mpE fn arg l) w) := by
  unfold mpV mpE
  cases ho : Fv.fnOk fn
  · exact rmap_no fn arg A _ c w ho
  · exact rmap_yes fn arg A l c w h hs ho
theorem label_any (nm vl : ByteArray) (A : Option Addr) (l : List Pt) (c : Nat) (w : World) (h : PtsAt w A l) (hs : SmP l) (ht : Fv.Tab w) (h1 : nm.size ≤ maxLen) (h2 : vl.size ≤ maxLen) :
    Calls Tryd.prog 19 #[.slice A l.length c, .string nm, .string vl] w (VPost (lbV nm vl l) (lbE nm vl l) w) := by
  unfold lbV lbE
  cases ho : lokB nm vl
  · exact label_no nm vl A _ c w h1 ho h2
  · exact label_yes nm vl A l c w h hs ht h1 ho
theorem rlabel_any (nm vl : ByteArray) (A : Option Addr) (l : List Pt) (c : Nat) (w : World) (h : PtsAt w A l) (hs : SmP l) (h1 : nm.size ≤ maxLen) (h2 : vl.size ≤ maxLen) :
    Calls Tryd.prog 20 #[.slice A l.length c, .string nm, .string vl] w (VPost (lbV nm vl l) (lbE nm vl l) w) := by
  unfold lbV lbE
  cases ho : lokB nm vl
  · exact rlabel_no nm vl A _ c w h1 ho h2
  · exact rlabel_yes nm vl A l c w h hs h1 ho

/-! ### what Scaled chooses of a vector is a vector -/
theorem vec_ok {l : List Pt} (h : vecB l = true) : okP l = true ∧ risP l := by
  unfold vecB risB at h
  rw [Bool.and_eq_true, decide_eq_true_eq] at h
  exact h
theorem vec_of {l : List Pt} (h1 : okP l = true) (h2 : risP l) : vecB l = true := by unfold vecB risB; rw [h1, decide_eq_true h2]; rfl
theorem vec_nor {l : List Pt} (h : vecB l = true) : norE l = 0 ∧ norV l = l.map canP := by
  obtain ⟨h1, h2⟩ := vec_ok h
  have h3 := norE_0 h1 (show nodB l = true by unfold nodB; exact decide_eq_true h2.nodup)
  refine ⟨h3.1, h3.2.trans ?_⟩
  have hr : risP (l.map canP) := by
    unfold risP
    rw [List.pairwise_map]
    exact h2
  exact (ordP_of hr (List.Perm.refl _)).1.symm
theorem vec_wh {l : List Pt} (h : vecB l = true) (f : Nat → Bool) : vecB (whP f l) = true := by
  obtain ⟨h1, h2⟩ := vec_ok h
  refine vec_of ?_ (List.Pairwise.filter _ h2)
  unfold okP at h1 ⊢
  rw [List.all_eq_true] at h1 ⊢
  intro p hp
  exact h1 p (List.mem_filter.1 hp).1
theorem canon_idem (a : Nat) : Fv.canon (Fv.canon a) = Fv.canon a := by
  unfold Fv.canon
  cases h : Fv.nanB a
  · simp [h]
  · have h2 : Fv.nanB Fv.kNaN.toNat = true := by decide +kernel
    simp [h2]
theorem can_can (p : Pt) : canP (canP p) = canP p := by
  unfold canP
  refine Prod.ext rfl ?_
  show Fv.canon (Fv.canon p.2) = Fv.canon p.2
  exact canon_idem _
theorem sc_same {l : List Pt} (h : vecB l = true) (op : Int) (x : Nat) (left flag : Bool) : scE op x left flag l = rscE op x left flag l ∧ sameP (scV op x left flag l) (rscV op x left flag l) = true := by
  unfold scE rscE scV rscV
  by_cases ho : op < 1 ∨ 10 < op
  · rw [if_pos ho, if_pos ho, if_pos ho, if_pos ho]
    exact ⟨rfl, sameP_refl _⟩
  rw [if_neg ho, if_neg ho, if_neg ho, if_neg ho]
  cases hf : filB op flag
  · exact ⟨rfl, sameP_refl _⟩
  · have h1 := vec_nor (vec_wh h (fun y => Fv.holdsB op (sdA left x y) (sdB left x y)))
    refine ⟨h1.1.symm, ?_⟩
    show sameP (scW op left x l) (norV (scW op left x l)) = true
    unfold scW
    rw [h1.2]
    refine sameP_of ?_
    rw [List.map_map]
    refine List.map_congr_left fun p _ => (can_can p).symm
theorem scV_sm {l : List Pt} (h : SmP l) (op : Int) (x : Nat) (left flag : Bool) : SmP (scV op x left flag l) := by
  unfold scV; split
  · exact SmP.nil
  split
  · exact whP_sm h _
  · exact (h.nm (fun y => Fv.opV op (sdA left x y) (sdB left x y))).nor
theorem rscV_sm {l : List Pt} (h : SmP l) (op : Int) (x : Nat) (left flag : Bool) : SmP (rscV op x left flag l) := by
  unfold rscV; split
  · exact SmP.nil
  split
  · exact (whP_sm h _).nor
  · exact (h.nm (fun y => Fv.opV op (sdA left x y) (sdB left x y))).nor

theorem walkMaps (A : Option Addr) (c : Nat) (l : List Pt) (fn op : Int) (x : Nat) (left flag : Bool) (nm vl : ByteArray) (w : World) (h : PtsAt w A l) (hw : WdP l) (hl : l.length ≤ maxLen) (h1 : nm.size ≤ maxLen) (h2 : vl.size ≤ maxLen) (ht : Fv.Tab w) (hn : Nms w) :
    Calls Tryd.prog 4 #[.slice A l.length c, .int .i64 fn, .int .i64 op, .float .f64 x, .bool left, .bool flag, .string nm, .string vl] w fun e w' => e = .returned (.bool true) ∧ Gr w w' := by
  have HK := Lib.hid (known_any w ht hn)
  have HF := Lib.hid (fun W (g : Gr w W) => lawRight_any A l c W (h.gr g) hw hl)
  have HL := Lib.hid h; have HT := Lib.hid ht
  have H1 := Lib.hid h1; have H2 := Lib.hid h2
  obtain ⟨v, hv⟩ : ∃ v, rgtV l = v := ⟨_, rfl⟩
  rw [hv] at HF
  clear h hw ht hn
  unfold maxLen at hl h1 h2
  cases v
  · clear hv
    go_enter Tryd.func4, Tryd.ntmps4
    go_wp2_with fail
    refine HK.out.mono ?_
    rintro e w1 ⟨rfl, g1⟩
    go_wp2_with fail
    refine (HF.out w1 g1).mono ?_
    rintro e w2 ⟨rfl, g2⟩
    go_wp2
    all_goals
      go_ret
      exact ⟨rfl, g1.trans g2⟩
  by_cases hnm : 300 < nm.size
  · clear hv
    go_enter Tryd.func4, Tryd.ntmps4
    go_wp2_with fail
    refine HK.out.mono ?_
    rintro e w1 ⟨rfl, g1⟩
    go_wp2_with fail
    refine (HF.out w1 g1).mono ?_
    rintro e w2 ⟨rfl, g2⟩
    go_wp2
    all_goals
      go_ret
      exact ⟨rfl, g1.trans g2⟩
  by_cases hvl : 600 < vl.size
  · clear hv
    go_enter Tryd.func4, Tryd.ntmps4
    go_wp2_with fail
    refine HK.out.mono ?_
    rintro e w1 ⟨rfl, g1⟩
    go_wp2_with fail
    refine (HF.out w1 g1).mono ?_
    rintro e w2 ⟨rfl, g2⟩
    go_wp2
    all_goals
      go_ret
      exact ⟨rfl, g1.trans g2⟩
  have hnm' : nm.size ≤ 300 := by omega
  have hvl' : vl.size ≤ 600 := by omega
  obtain ⟨hfew, hvec⟩ : fewV l = true ∧ vecB l = true := by unfold rgtV at hv; rwa [Bool.and_eq_true] at hv
  have hs := fewV_sm hfew
  have C1 := Lib.hid (fun W (g : Gr w W) => map_any fn x A l c W (HL.out.gr g) hs (HT.out.gv g))
  have C2 := Lib.hid (fun W (g : Gr w W) => rmap_any fn x A l c W (HL.out.gr g) hs)
  have C3 := Lib.hid (fun W (g : Gr w W) => scaled_any op x left flag A l c W (HL.out.gr g) hs (HT.out.gv g))
  have C4 := Lib.hid (fun W (g : Gr w W) => rscaled_any op x left flag A l c W (HL.out.gr g) hs)
  have C5 := Lib.hid (fun W (g : Gr w W) => label_any nm vl A l c W (HL.out.gr g) hs (HT.out.gv g) H1.out H2.out)
  have C6 := Lib.hid (fun W (g : Gr w W) => rlabel_any nm vl A l c W (HL.out.gr g) hs H1.out H2.out)
  have S1 := Lib.hid (mpV_sm hs fn x)
  have S3 := Lib.hid (scV_sm hs op x left flag)
  have S4 := Lib.hid (rscV_sm hs op x left flag)
  have S5 := Lib.hid (lbV_sm hs H1.out H2.out (nm := nm) (vl := vl))
  have hsc := sc_same hvec op x left flag
  rw [← hsc.1] at C4
  have HSC := Lib.hid hsc.2
  obtain ⟨M1, hM1⟩ : ∃ M, mpV fn x l = M := ⟨_, rfl⟩
  obtain ⟨E1, hE1⟩ : ∃ M, mpE fn x l = M := ⟨_, rfl⟩
  obtain ⟨M3, hM3⟩ : ∃ M, scV op x left flag l = M := ⟨_, rfl⟩
  obtain ⟨M4, hM4⟩ : ∃ M, rscV op x left flag l = M := ⟨_, rfl⟩
  obtain ⟨E3, hE3⟩ : ∃ M, scE op x left flag l = M := ⟨_, rfl⟩
  obtain ⟨M5, hM5⟩ : ∃ M, lbV nm vl l = M := ⟨_, rfl⟩
  obtain ⟨E5, hE5⟩ : ∃ M, lbE nm vl l = M := ⟨_, rfl⟩
  rw [hM1, hE1] at C1 C2
  rw [hM1] at S1
  rw [hM3, hE3] at C3
  rw [hM4, hE3] at C4
  rw [hM3] at S3
  rw [hM4] at S4
  rw [hM3, hM4] at HSC
  rw [hM5, hE5] at C5 C6
  rw [hM5] at S5
  clear hv hs hfew hvec hsc hM1 hE1 hM3 hM4 hE3 hM5 hE5 hnm hvl
  go_enter Tryd.func4, Tryd.ntmps4
  go_wp2_with fail
  refine HK.out.mono ?_
  rintro e w1 ⟨rfl, g1⟩
  go_wp2_with fail
  refine (HF.out w1 g1).mono ?_
  rintro e w2 ⟨rfl, g2⟩
  have G2 := Lib.hid (g1.trans g2)
  clear g1 g2
  go_wp2_with fail
  refine (C1.out _ G2.out).mono ?_
  rintro e w3 ⟨A3, c3, rfl, hp3, -, -, g3⟩
  have P3 := Lib.hid hp3; have G3 := Lib.hid (G2.out.trans g3); clear hp3 g3
  go_wp2_with fail
  refine (C2.out _ G3.out).mono ?_
  rintro e w4 ⟨A4, c4, rfl, hp4, -, -, g4⟩
  have Q3 := Lib.hid (P3.out.gr g4); have P4 := Lib.hid hp4; have G4 := Lib.hid (G3.out.trans g4); clear hp4 g4 P3
  go_wp2_with fail
  refine (C3.out _ G4.out).mono ?_
  rintro e w5 ⟨A5, c5, rfl, hp5, -, -, g5⟩
  have R3 := Lib.hid (Q3.out.gr g5); have Q4 := Lib.hid (P4.out.gr g5); have P5 := Lib.hid hp5; have G5 := Lib.hid (G4.out.trans g5); clear hp5 g5 Q3 P4
  go_wp2_with fail
  refine (C4.out _ G5.out).mono ?_
  rintro e w6 ⟨A6, c6, rfl, hp6, -, -, g6⟩
  have T3 := Lib.hid (R3.out.gr g6); have R4 := Lib.hid (Q4.out.gr g6); have Q5 := Lib.hid (P5.out.gr g6); have P6 := Lib.hid hp6; have G6 := Lib.hid (G5.out.trans g6); clear hp6 g6 R3 Q4 P5
  go_wp2_with fail
  refine (C5.out _ G6.out).mono ?_
  rintro e w7 ⟨A7, c7, rfl, hp7, -, -, g7⟩
  have U3 := Lib.hid (T3.out.gr g7); have T4 := Lib.hid (R4.out.gr g7); have R5 := Lib.hid (Q5.out.gr g7); have Q6 := Lib.hid (P6.out.gr g7); have P7 := Lib.hid hp7; have G7 := Lib.hid (G6.out.trans g7); clear hp7 g7 T3 R4 Q5 P6
  go_wp2_with fail
  refine (C6.out _ G7.out).mono ?_
  rintro e w8 ⟨A8, c8, rfl, hp8, -, -, g8⟩
  have P8 := Lib.hid hp8; have G8 := Lib.hid (G7.out.trans g8)
  have CA := Lib.hid (fun W (g : Gr w8 W) => same_yes A3 A4 M1 M1 c3 c4 E1 W ((U3.out.gr g8).gr g) ((T4.out.gr g8).gr g) S1.out S1.out (sameP_refl M1))
  have CB := Lib.hid (fun W (g : Gr w8 W) => same_yes A5 A6 M3 M4 c5 c6 E3 W ((R5.out.gr g8).gr g) ((Q6.out.gr g8).gr g) S3.out S4.out HSC.out)
  have CC := Lib.hid (fun W (g : Gr w8 W) => same_yes A7 A8 M5 M5 c7 c8 E5 W ((P7.out.gr g8).gr g) (P8.out.gr g) S5.out S5.out (sameP_refl M5))
  clear hp8 g8
  go_wp2_with fail
  refine (CA.out _ (Gr.refl _)).mono ?_
  rintro e w9 ⟨rfl, g9⟩
  have G9 := Lib.hid g9; clear g9
  go_wp2_with fail
  refine (CB.out _ G9.out).mono ?_
  rintro e w10 ⟨rfl, g10⟩
  have G10 := Lib.hid (G9.out.trans g10); clear g10
  go_wp2_with fail
  refine (CC.out _ G10.out).mono ?_
  rintro e w11 ⟨rfl, g11⟩
  go_wp2
  go_ret
  exact ⟨rfl, G8.out.trans (G10.out.trans g11)⟩
end Go.Proofs.YtoooaipbkkiefaaDoor.Pt
