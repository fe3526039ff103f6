/- checkTimes: may a node's offset, range and step be? -/
import Derived.Test.YtikaamonmaohjaaGreatDoorIGrp
namespace Go.Proofs.YtikaamonmaohjaaGreatDoor.Ir
open Go.RowKit
set_option maxRecDepth 100000
set_option maxHeartbeats 4000000

/-- what a node has, as a value -/
def shV (n f m l s o g x fl lb : Bool) (kids : Int) : Array Value := #[.bool n, .bool f, .bool m, .bool l, .bool s, .bool o, .bool g, .bool x, .bool fl, .bool lb, .int .i64 kids]
def offB (x : Int) : Bool := decide (x < -1125899906842624) || decide (1125899906842624 < x)
/-- checkTimes' answer -/
def tmE (o l s : Bool) (of rg st : Int) : Int :=
  if o && offB of then 1 else if (l && !lenB rg) || (s && !lenB st) then 1 else if s && decide (1000 * st < rg) then 6 else 0
theorem times_any (n f m l s o g x fl lb : Bool) (kids : Int) (d : Nf) (p : Np) (nk : Nat) (w : World) :
    Calls Tryz.prog 39 #[.agg (nV d p nk).toArray, .agg (shV n f m l s o g x fl lb kids)] w fun e w' => e = .returned (.int .i64 (tmE o l s d.of d.rg d.st)) ∧ Gr w w' := by
  obtain ⟨W1, hW1, g1, hb1, -, hsz⟩ := nbox w (nV d p nk) 31
  obtain ⟨-, -, -, -, a4, a5, a6, -, -, -, -, -, -, -, -, -, -⟩ := hb1.all
  simp only [Nat.zero_add] at a4 a5 a6
  obtain ⟨W2, hW2, g2, hb2⟩ := fresh W1 (shV n f m l s o g x fl lb kids) 77
  have b3 := hb2 3 (.bool l) rfl
  have b4 := hb2 4 (.bool s) rfl
  have b5 := hb2 5 (.bool o) rfl
  have a4 := g2.cell a4; have a5 := g2.cell a5; have a6 := g2.cell a6
  obtain ⟨P, hP⟩ : ∃ P, w.heap.size = P := ⟨_, rfl⟩
  rw [hsz] at b3 b4 b5
  obtain ⟨P2, hP2⟩ : ∃ P, w.heap.size + 1 = P := ⟨_, rfl⟩
  rw [hP] at a4 a5 a6
  rw [hP2] at b3 b4 b5
  obtain ⟨rg, hrg⟩ : ∃ x, d.rg = x := ⟨_, rfl⟩
  obtain ⟨st, hst⟩ : ∃ x, d.st = x := ⟨_, rfl⟩
  obtain ⟨of, hof⟩ : ∃ x, d.of = x := ⟨_, rfl⟩
  rw [hrg] at a4; rw [hst] at a5; rw [hof] at a6
  have HP := Lib.hid hP; have HW1 := Lib.hid hW1; have HP2 := Lib.hid hP2; have HW2 := Lib.hid hW2; have HG := Lib.hid (g1.trans g2)
  have CR := Lib.hid (fun W => isLen_any rg W)
  have CS := Lib.hid (fun W => isLen_any st W)
  rw [hrg, hst, hof]
  clear hW1 g1 hb1 hsz hP hW2 g2 hb2 hP2 hrg hst hof
  obtain ⟨br, hbr⟩ : ∃ b, lenB rg = b := ⟨_, rfl⟩
  obtain ⟨bs, hbs⟩ : ∃ b, lenB st = b := ⟨_, rfl⟩
  have hsb : bs = true → 1 ≤ st ∧ st ≤ 1125899906842624 := fun h => (lenB_iff st).1 (hbs.trans h)
  have HT : Hid (tmE o l s of rg st = if o && offB of then 1 else if (l && !br) || (s && !bs) then 1 else if s && decide (1000 * st < rg) then 6 else 0) := Lib.hid (by unfold tmE; rw [hbr, hbs])
  rw [hbr] at CR
  rw [hbs] at CS
  clear hbr hbs
  cases o
  · skip
    cases l
    · skip
      cases s
      · have HN : Hid (tmE false false false of rg st = 0) := Lib.hid (by rw [HT.out]; rw [Bool.false_and]; simp)
        go_enter Tryz.func39, Tryz.ntmps39
        go_upto_region 1 with fail
        rw [HW1.out, HP2.out, HP.out]
        rw [HW2.out]
        go_wp2_with (first
          | (go_at_call 34; (with_reducible refine (CR.out _).mono ?_); rintro e w' ⟨rfl, rfl⟩)
          | (go_at_call 34; (with_reducible refine (CS.out _).mono ?_); rintro e w' ⟨rfl, rfl⟩))
        go_ret
        exact ⟨by rw [HN.out]; rfl, HG.out⟩
      · cases bs
        · have HN : Hid (tmE false false true of rg st = 1) := Lib.hid (by rw [HT.out]; rw [Bool.false_and]; simp)
          go_enter Tryz.func39, Tryz.ntmps39
          go_upto_region 1 with fail
          rw [HW1.out, HP2.out, HP.out]
          rw [HW2.out]
          go_wp2_with (first
            | (go_at_call 34; (with_reducible refine (CR.out _).mono ?_); rintro e w' ⟨rfl, rfl⟩)
            | (go_at_call 34; (with_reducible refine (CS.out _).mono ?_); rintro e w' ⟨rfl, rfl⟩))
          go_ret
          exact ⟨by rw [HN.out]; rfl, HG.out⟩
        · obtain ⟨s1, s2⟩ := hsb rfl
          by_cases hm : 1000 * st < rg
          · have HN : Hid (tmE false false true of rg st = 6) := Lib.hid (by rw [HT.out]; rw [Bool.false_and]; simp [hm])
            go_enter Tryz.func39, Tryz.ntmps39
            go_upto_region 1 with fail
            rw [HW1.out, HP2.out, HP.out]
            rw [HW2.out]
            go_wp2_with (first
              | (go_at_call 34; (with_reducible refine (CR.out _).mono ?_); rintro e w' ⟨rfl, rfl⟩)
              | (go_at_call 34; (with_reducible refine (CS.out _).mono ?_); rintro e w' ⟨rfl, rfl⟩))
            go_ret
            exact ⟨by rw [HN.out]; rfl, HG.out⟩
          · have HN : Hid (tmE false false true of rg st = 0) := Lib.hid (by rw [HT.out]; rw [Bool.false_and]; simp [hm])
            have hm2 : rg ≤ 1000 * st := by omega
            go_enter Tryz.func39, Tryz.ntmps39
            go_upto_region 1 with fail
            rw [HW1.out, HP2.out, HP.out]
            rw [HW2.out]
            go_wp2_with (first
              | (go_at_call 34; (with_reducible refine (CR.out _).mono ?_); rintro e w' ⟨rfl, rfl⟩)
              | (go_at_call 34; (with_reducible refine (CS.out _).mono ?_); rintro e w' ⟨rfl, rfl⟩))
            go_ret
            exact ⟨by rw [HN.out]; rfl, HG.out⟩
    · cases br
      · have HN : Hid (tmE false true s of rg st = 1) := Lib.hid (by rw [HT.out]; rw [Bool.false_and]; simp)
        go_enter Tryz.func39, Tryz.ntmps39
        go_upto_region 1 with fail
        rw [HW1.out, HP2.out, HP.out]
        rw [HW2.out]
        go_wp2_with (first
          | (go_at_call 34; (with_reducible refine (CR.out _).mono ?_); rintro e w' ⟨rfl, rfl⟩)
          | (go_at_call 34; (with_reducible refine (CS.out _).mono ?_); rintro e w' ⟨rfl, rfl⟩))
        go_ret
        exact ⟨by rw [HN.out]; rfl, HG.out⟩
      · skip
        cases s
        · have HN : Hid (tmE false true false of rg st = 0) := Lib.hid (by rw [HT.out]; rw [Bool.false_and]; simp)
          go_enter Tryz.func39, Tryz.ntmps39
          go_upto_region 1 with fail
          rw [HW1.out, HP2.out, HP.out]
          rw [HW2.out]
          go_wp2_with (first
            | (go_at_call 34; (with_reducible refine (CR.out _).mono ?_); rintro e w' ⟨rfl, rfl⟩)
            | (go_at_call 34; (with_reducible refine (CS.out _).mono ?_); rintro e w' ⟨rfl, rfl⟩))
          go_ret
          exact ⟨by rw [HN.out]; rfl, HG.out⟩
        · cases bs
          · have HN : Hid (tmE false true true of rg st = 1) := Lib.hid (by rw [HT.out]; rw [Bool.false_and]; simp)
            go_enter Tryz.func39, Tryz.ntmps39
            go_upto_region 1 with fail
            rw [HW1.out, HP2.out, HP.out]
            rw [HW2.out]
            go_wp2_with (first
              | (go_at_call 34; (with_reducible refine (CR.out _).mono ?_); rintro e w' ⟨rfl, rfl⟩)
              | (go_at_call 34; (with_reducible refine (CS.out _).mono ?_); rintro e w' ⟨rfl, rfl⟩))
            go_ret
            exact ⟨by rw [HN.out]; rfl, HG.out⟩
          · obtain ⟨s1, s2⟩ := hsb rfl
            by_cases hm : 1000 * st < rg
            · have HN : Hid (tmE false true true of rg st = 6) := Lib.hid (by rw [HT.out]; rw [Bool.false_and]; simp [hm])
              go_enter Tryz.func39, Tryz.ntmps39
              go_upto_region 1 with fail
              rw [HW1.out, HP2.out, HP.out]
              rw [HW2.out]
              go_wp2_with (first
                | (go_at_call 34; (with_reducible refine (CR.out _).mono ?_); rintro e w' ⟨rfl, rfl⟩)
                | (go_at_call 34; (with_reducible refine (CS.out _).mono ?_); rintro e w' ⟨rfl, rfl⟩))
              go_ret
              exact ⟨by rw [HN.out]; rfl, HG.out⟩
            · have HN : Hid (tmE false true true of rg st = 0) := Lib.hid (by rw [HT.out]; rw [Bool.false_and]; simp [hm])
              have hm2 : rg ≤ 1000 * st := by omega
              go_enter Tryz.func39, Tryz.ntmps39
              go_upto_region 1 with fail
              rw [HW1.out, HP2.out, HP.out]
              rw [HW2.out]
              go_wp2_with (first
                | (go_at_call 34; (with_reducible refine (CR.out _).mono ?_); rintro e w' ⟨rfl, rfl⟩)
                | (go_at_call 34; (with_reducible refine (CS.out _).mono ?_); rintro e w' ⟨rfl, rfl⟩))
              go_ret
              exact ⟨by rw [HN.out]; rfl, HG.out⟩
  · by_cases ho1 : of < -1125899906842624
    · have HN : Hid (tmE true l s of rg st = 1) := Lib.hid (by rw [HT.out, show offB of = true from by unfold offB; rw [decide_eq_true ho1]; rfl]; rfl)
      go_enter Tryz.func39, Tryz.ntmps39
      go_upto_region 1 with fail
      rw [HW1.out, HP2.out, HP.out]
      rw [HW2.out]
      go_wp2_with (first
        | (go_at_call 34; (with_reducible refine (CR.out _).mono ?_); rintro e w' ⟨rfl, rfl⟩)
        | (go_at_call 34; (with_reducible refine (CS.out _).mono ?_); rintro e w' ⟨rfl, rfl⟩))
      go_ret
      exact ⟨by rw [HN.out]; rfl, HG.out⟩
    · by_cases ho2 : 1125899906842624 < of
      · have HN : Hid (tmE true l s of rg st = 1) := Lib.hid (by rw [HT.out, show offB of = true from by unfold offB; rw [decide_eq_true ho2, Bool.or_true]]; rfl)
        go_enter Tryz.func39, Tryz.ntmps39
        go_upto_region 1 with fail
        rw [HW1.out, HP2.out, HP.out]
        rw [HW2.out]
        go_wp2_with (first
          | (go_at_call 34; (with_reducible refine (CR.out _).mono ?_); rintro e w' ⟨rfl, rfl⟩)
          | (go_at_call 34; (with_reducible refine (CS.out _).mono ?_); rintro e w' ⟨rfl, rfl⟩))
        go_ret
        exact ⟨by rw [HN.out]; rfl, HG.out⟩
      · have HO : Hid (offB of = false) := Lib.hid (by unfold offB; rw [decide_eq_false ho1, decide_eq_false ho2]; rfl)
        have ho3 : -1125899906842624 ≤ of := by omega
        have ho4 : of ≤ 1125899906842624 := by omega
        clear ho1 ho2
        cases l
        · skip
          cases s
          · have HN : Hid (tmE true false false of rg st = 0) := Lib.hid (by rw [HT.out]; rw [HO.out]; simp)
            go_enter Tryz.func39, Tryz.ntmps39
            go_upto_region 1 with fail
            rw [HW1.out, HP2.out, HP.out]
            rw [HW2.out]
            go_wp2_with (first
              | (go_at_call 34; (with_reducible refine (CR.out _).mono ?_); rintro e w' ⟨rfl, rfl⟩)
              | (go_at_call 34; (with_reducible refine (CS.out _).mono ?_); rintro e w' ⟨rfl, rfl⟩))
            go_ret
            exact ⟨by rw [HN.out]; rfl, HG.out⟩
          · cases bs
            · have HN : Hid (tmE true false true of rg st = 1) := Lib.hid (by rw [HT.out]; rw [HO.out]; simp)
              go_enter Tryz.func39, Tryz.ntmps39
              go_upto_region 1 with fail
              rw [HW1.out, HP2.out, HP.out]
              rw [HW2.out]
              go_wp2_with (first
                | (go_at_call 34; (with_reducible refine (CR.out _).mono ?_); rintro e w' ⟨rfl, rfl⟩)
                | (go_at_call 34; (with_reducible refine (CS.out _).mono ?_); rintro e w' ⟨rfl, rfl⟩))
              go_ret
              exact ⟨by rw [HN.out]; rfl, HG.out⟩
            · obtain ⟨s1, s2⟩ := hsb rfl
              by_cases hm : 1000 * st < rg
              · have HN : Hid (tmE true false true of rg st = 6) := Lib.hid (by rw [HT.out]; rw [HO.out]; simp [hm])
                go_enter Tryz.func39, Tryz.ntmps39
                go_upto_region 1 with fail
                rw [HW1.out, HP2.out, HP.out]
                rw [HW2.out]
                go_wp2_with (first
                  | (go_at_call 34; (with_reducible refine (CR.out _).mono ?_); rintro e w' ⟨rfl, rfl⟩)
                  | (go_at_call 34; (with_reducible refine (CS.out _).mono ?_); rintro e w' ⟨rfl, rfl⟩))
                go_ret
                exact ⟨by rw [HN.out]; rfl, HG.out⟩
              · have HN : Hid (tmE true false true of rg st = 0) := Lib.hid (by rw [HT.out]; rw [HO.out]; simp [hm])
                have hm2 : rg ≤ 1000 * st := by omega
                go_enter Tryz.func39, Tryz.ntmps39
                go_upto_region 1 with fail
                rw [HW1.out, HP2.out, HP.out]
                rw [HW2.out]
                go_wp2_with (first
                  | (go_at_call 34; (with_reducible refine (CR.out _).mono ?_); rintro e w' ⟨rfl, rfl⟩)
                  | (go_at_call 34; (with_reducible refine (CS.out _).mono ?_); rintro e w' ⟨rfl, rfl⟩))
                go_ret
                exact ⟨by rw [HN.out]; rfl, HG.out⟩
        · cases br
          · have HN : Hid (tmE true true s of rg st = 1) := Lib.hid (by rw [HT.out]; rw [HO.out]; simp)
            go_enter Tryz.func39, Tryz.ntmps39
            go_upto_region 1 with fail
            rw [HW1.out, HP2.out, HP.out]
            rw [HW2.out]
            go_wp2_with (first
              | (go_at_call 34; (with_reducible refine (CR.out _).mono ?_); rintro e w' ⟨rfl, rfl⟩)
              | (go_at_call 34; (with_reducible refine (CS.out _).mono ?_); rintro e w' ⟨rfl, rfl⟩))
            go_ret
            exact ⟨by rw [HN.out]; rfl, HG.out⟩
          · skip
            cases s
            · have HN : Hid (tmE true true false of rg st = 0) := Lib.hid (by rw [HT.out]; rw [HO.out]; simp)
              go_enter Tryz.func39, Tryz.ntmps39
              go_upto_region 1 with fail
              rw [HW1.out, HP2.out, HP.out]
              rw [HW2.out]
              go_wp2_with (first
                | (go_at_call 34; (with_reducible refine (CR.out _).mono ?_); rintro e w' ⟨rfl, rfl⟩)
                | (go_at_call 34; (with_reducible refine (CS.out _).mono ?_); rintro e w' ⟨rfl, rfl⟩))
              go_ret
              exact ⟨by rw [HN.out]; rfl, HG.out⟩
            · cases bs
              · have HN : Hid (tmE true true true of rg st = 1) := Lib.hid (by rw [HT.out]; rw [HO.out]; simp)
                go_enter Tryz.func39, Tryz.ntmps39
                go_upto_region 1 with fail
                rw [HW1.out, HP2.out, HP.out]
                rw [HW2.out]
                go_wp2_with (first
                  | (go_at_call 34; (with_reducible refine (CR.out _).mono ?_); rintro e w' ⟨rfl, rfl⟩)
                  | (go_at_call 34; (with_reducible refine (CS.out _).mono ?_); rintro e w' ⟨rfl, rfl⟩))
                go_ret
                exact ⟨by rw [HN.out]; rfl, HG.out⟩
              · obtain ⟨s1, s2⟩ := hsb rfl
                by_cases hm : 1000 * st < rg
                · have HN : Hid (tmE true true true of rg st = 6) := Lib.hid (by rw [HT.out]; rw [HO.out]; simp [hm])
                  go_enter Tryz.func39, Tryz.ntmps39
                  go_upto_region 1 with fail
                  rw [HW1.out, HP2.out, HP.out]
                  rw [HW2.out]
                  go_wp2_with (first
                    | (go_at_call 34; (with_reducible refine (CR.out _).mono ?_); rintro e w' ⟨rfl, rfl⟩)
                    | (go_at_call 34; (with_reducible refine (CS.out _).mono ?_); rintro e w' ⟨rfl, rfl⟩))
                  go_ret
                  exact ⟨by rw [HN.out]; rfl, HG.out⟩
                · have HN : Hid (tmE true true true of rg st = 0) := Lib.hid (by rw [HT.out]; rw [HO.out]; simp [hm])
                  have hm2 : rg ≤ 1000 * st := by omega
                  go_enter Tryz.func39, Tryz.ntmps39
                  go_upto_region 1 with fail
                  rw [HW1.out, HP2.out, HP.out]
                  rw [HW2.out]
                  go_wp2_with (first
                    | (go_at_call 34; (with_reducible refine (CR.out _).mono ?_); rintro e w' ⟨rfl, rfl⟩)
                    | (go_at_call 34; (with_reducible refine (CS.out _).mono ?_); rintro e w' ⟨rfl, rfl⟩))
                  go_ret
                  exact ⟨by rw [HN.out]; rfl, HG.out⟩
end Go.Proofs.YtikaamonmaohjaaGreatDoor.Ir
