/- The walk of VectorNormal. -/
import Derived.Test.YtoooaipbkkiefaaDoorPKnown
namespace Go.Proofs.YtoooaipbkkiefaaDoor.Pt
open Go.RowKit Go.Sort
set_option maxRecDepth 100000
set_option maxHeartbeats 4000000
attribute [local irreducible] wpQuiet

theorem walkNormal (A : Option Addr) (c : Nat) (l : List Pt) (w : World) (h : PtsAt w A l) (hw : WdP l) (hl : l.length ≤ maxLen) (ht : Fv.Tab w) (hn : Nms w) :
    Calls Tryd.prog 3 #[.slice A l.length c] w fun e w' => e = .returned (.bool true) ∧ Gr w w' := by
  have HK := Lib.hid (known_any w ht hn)
  have HF := Lib.hid (fun W (g : Gr w W) => fewV_any A l c W (h.gr g) hw hl)
  have HL := Lib.hid h; have HT := Lib.hid ht
  obtain ⟨v, hv⟩ : ∃ v, fewV l = v := ⟨_, rfl⟩
  rw [hv] at HF
  clear h hw ht hn
  unfold maxLen at hl
  cases v
  · clear hv
    go_enter Tryd.func3, Tryd.ntmps3
    go_wp2_with fail
    refine HK.out.mono ?_
    rintro e w1 ⟨rfl, g1⟩
    go_wp2_with fail
    refine (HF.out w1 g1).mono ?_
    rintro e w2 ⟨rfl, rfl⟩
    go_wp2
    go_ret
    exact ⟨rfl, g1⟩
  · have hs := fewV_sm hv
    have HS := Lib.hid hs
    have CN := Lib.hid (fun W (g : Gr w W) => normal_any A l c W (HL.out.gr g) hs (HT.out.gv g))
    have CR := Lib.hid (fun W (g : Gr w W) => rnormal_any A l c W (HL.out.gr g) hs)
    have CV := Lib.hid (fun W (g : Gr w W) => vright_any A l c W (HL.out.gr g) hs)
    have CW := Lib.hid (fun W (g : Gr w W) => rvright_any A l c W (HL.out.gr g) hs)
    have HSN := Lib.hid hs.nor
    have HVN := Lib.hid (norV_vec l)
    obtain ⟨L, hL⟩ : ∃ L, norV l = L := ⟨_, rfl⟩
    obtain ⟨E, hE⟩ : ∃ E, norE l = E := ⟨_, rfl⟩
    obtain ⟨q, hq⟩ : ∃ q, vecB l = q := ⟨_, rfl⟩
    rw [hL, hE] at CN CR
    rw [hL] at HSN HVN
    rw [hq] at CV CW
    clear hv hs hL hE hq
    cases q
    all_goals
      by_cases hE : E = 0
      · subst hE
        go_enter Tryd.func3, Tryd.ntmps3
        go_wp2_with fail
        refine HK.out.mono ?_
        rintro e w1 ⟨rfl, g1⟩
        go_wp2_with fail
        refine (HF.out w1 g1).mono ?_
        rintro e w2 ⟨rfl, rfl⟩
        go_wp2_with fail
        refine (CN.out _ g1).mono ?_
        rintro e w3 ⟨A3, c3, rfl, hp3, -, -, g3⟩
        have HP3 := Lib.hid hp3
        have G3 := Lib.hid (g1.trans g3)
        clear hp3 g3
        go_wp2_with fail
        refine (CR.out _ G3.out).mono ?_
        rintro e w4 ⟨A4, c4, rfl, hp4, -, -, g4⟩
        have CS := Lib.hid (same_yes A3 A4 L L c3 c4 0 w4 (HP3.out.gr g4) hp4 HSN.out HSN.out (sameP_refl L))
        have HP4 := Lib.hid (HP3.out.gr g4)
        have G4 := Lib.hid (G3.out.trans g4)
        clear hp4 g4 g1
        go_wp2_with (first
          | (go_at_call 11; refine CS.out.mono ?_; rintro e w5 ⟨rfl, g5⟩; have G5 := Lib.hid (G4.out.trans g5); have HP5 := Lib.hid (HP4.out.gr g5); clear g5)
          | (go_at_call_of 12 (Value.slice A l.length c); have tok := G5; clear tok; refine (CV.out _ G5.out).mono ?_; rintro e w6 ⟨rfl, g6⟩; have G6 := Lib.hid (G5.out.trans g6); have HP6 := Lib.hid (HP5.out.gr g6); clear g6 G5)
          | (go_at_call 13; refine (CW.out _ G6.out).mono ?_; rintro e w7 ⟨rfl, g7⟩; have G7 := Lib.hid (G6.out.trans g7); have CX := Lib.hid (vright_any A3 L c3 w7 (HP6.out.gr g7) HSN.out); rw [HVN.out] at CX; clear g7)
          | (go_at_call 12; refine CX.out.mono ?_; rintro e w8 ⟨rfl, g8⟩; have G8 := Lib.hid (G7.out.trans g8); clear g8))
        go_ret
        exact ⟨rfl, G8.out⟩
      · have hE2 : (E != 0) = true := by simpa using hE
        go_enter Tryd.func3, Tryd.ntmps3
        go_wp2_with fail
        refine HK.out.mono ?_
        rintro e w1 ⟨rfl, g1⟩
        go_wp2_with fail
        refine (HF.out w1 g1).mono ?_
        rintro e w2 ⟨rfl, rfl⟩
        go_wp2_with fail
        refine (CN.out _ g1).mono ?_
        rintro e w3 ⟨A3, c3, rfl, hp3, -, -, g3⟩
        have HP3 := Lib.hid hp3
        have G3 := Lib.hid (g1.trans g3)
        clear hp3 g3
        go_wp2_with fail
        refine (CR.out _ G3.out).mono ?_
        rintro e w4 ⟨A4, c4, rfl, hp4, -, -, g4⟩
        have CS := Lib.hid (same_yes A3 A4 L L c3 c4 E w4 (HP3.out.gr g4) hp4 HSN.out HSN.out (sameP_refl L))
        have G4 := Lib.hid (G3.out.trans g4)
        clear hp4 g4 g1
        go_wp2_with (first
          | (go_at_call 11; refine CS.out.mono ?_; rintro e w5 ⟨rfl, g5⟩; have G5 := Lib.hid (G4.out.trans g5); clear g5)
          | (go_at_call 12; refine (CV.out _ G5.out).mono ?_; rintro e w6 ⟨rfl, g6⟩; have G6 := Lib.hid (G5.out.trans g6); clear g6)
          | (go_at_call 13; refine (CW.out _ G6.out).mono ?_; rintro e w7 ⟨rfl, g7⟩; have G7 := Lib.hid (G6.out.trans g7); clear g7))
        go_ret
        exact ⟨rfl, G7.out⟩
end Go.Proofs.YtoooaipbkkiefaaDoor.Pt
