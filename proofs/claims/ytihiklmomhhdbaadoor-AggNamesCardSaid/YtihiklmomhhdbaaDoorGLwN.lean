/- The walk of AggNames. -/
import Derived.Test.YtihiklmomhhdbaaDoorGKnw
namespace Go.Proofs.YtihiklmomhhdbaaDoor.Pt
open Go.RowKit Go.Sort
set_option maxRecDepth 100000
set_option maxHeartbeats 4000000
attribute [local irreducible] wpQuiet

def nmOf (op : Int) : ByteArray := if isA op then aggNm op.toNat else ⟨#[]⟩
theorem name_any (op : Int) (w : World) (hn : Nmz w) :
    Calls Tryd.prog 7 #[.int .i64 op] w fun e w' => e = .returned (.string (nmOf op)) ∧ Gr w w' := by
  have CI := Lib.hid (isA_any op w)
  cases h : isA op
  · rw [h] at CI
    have HN : Hid (nmOf op = ⟨#[]⟩) := Lib.hid (by unfold nmOf; rw [h]; rfl)
    clear h hn
    go_enter Tryd.func7, Tryd.ntmps7
    go_wp2_with fail
    refine CI.out.mono ?_
    rintro e w1 ⟨rfl, rfl⟩
    go_wp2
    go_ret
    exact ⟨by rw [HN.out]; rfl, Gr.refl _⟩
  · rw [h] at CI
    obtain ⟨h1, h8⟩ : 1 ≤ op ∧ op ≤ 8 := by unfold isA at h; simpa using h
    obtain ⟨i, rfl⟩ : ∃ i : Nat, op = i := ⟨op.toNat, by omega⟩
    have HN : Hid (nmOf (i : Int) = aggNm i) := Lib.hid (by unfold nmOf; rw [h]; rfl)
    have c1 := hn.c i (by omega)
    obtain ⟨m, hm⟩ : ∃ m, aggNm i = m := ⟨_, rfl⟩
    rw [hm] at c1 HN
    have f1 : (0 : Int) ≤ (i : Int) := by omega
    have f2 : (i : Int) < 9 := by omega
    have f3 : (i : Int).toNat = i := by omega
    clear h hn hm
    go_enter Tryd.func7, Tryd.ntmps7
    go_wp2_with fail
    refine CI.out.mono ?_
    rintro e w1 ⟨rfl, rfl⟩
    go_wp2
    go_ret
    exact ⟨by rw [HN.out]; rfl, Gr.refl _⟩
/-- the reference's names -/
theorem rnames_any (w : World) :
    Calls Tryd.prog 13 #[] w fun e w' => ∃ g, e = .returned (.slice (some ⟨g, 0, none⟩) 9 9) ∧ (∀ i, i < 9 → w'.cell? ⟨g, i, none⟩ = some (.string (aggNm i))) ∧ Gr w w' := by
  obtain ⟨W1, hW1, g1, hb1⟩ := fresh w #[.string (aggNm 0), .string (aggNm 1), .string (aggNm 2), .string (aggNm 3), .string (aggNm 4), .string (aggNm 5), .string (aggNm 6), .string (aggNm 7), .string (aggNm 8)] 9
  have HW1 := Lib.hid hW1
  have HC : Hid (∀ i, i < 9 → W1.cell? ⟨w.heap.size, i, none⟩ = some (.string (aggNm i))) := Lib.hid (fun i hi => by
    match i, hi with
    | 0, _ => exact hb1 0 _ rfl
    | 1, _ => exact hb1 1 _ rfl
    | 2, _ => exact hb1 2 _ rfl
    | 3, _ => exact hb1 3 _ rfl
    | 4, _ => exact hb1 4 _ rfl
    | 5, _ => exact hb1 5 _ rfl
    | 6, _ => exact hb1 6 _ rfl
    | 7, _ => exact hb1 7 _ rfl
    | 8, _ => exact hb1 8 _ rfl
    | i + 9, h => exact absurd h (by omega))
  clear hW1 hb1
  go_enter Tryd.func13, Tryd.ntmps13
  go_wp2_with fail
  have e1 : w.alloc (.cells #[.string ⟨#[]⟩, .string ⟨#[115, 117, 109]⟩, .string ⟨#[99, 111, 117, 110, 116]⟩, .string ⟨#[109, 105, 110]⟩, .string ⟨#[109, 97, 120]⟩, .string ⟨#[97, 118, 103]⟩, .string ⟨#[116, 111, 112, 107]⟩, .string ⟨#[98, 111, 116, 116, 111, 109, 107]⟩, .string ⟨#[103, 114, 111, 117, 112]⟩] 9) = W1 := HW1.out
  rw [e1]
  go_ret
  exact ⟨w.heap.size, rfl, HC.out, g1⟩
theorem rname_any (op : Int) (w : World) :
    Calls Tryd.prog 8 #[.int .i64 op] w fun e w' => e = .returned (.string (nmOf op)) ∧ Gr w w' := by
  have CN := Lib.hid (rnames_any w)
  by_cases h : 1 ≤ op ∧ op ≤ 8
  · obtain ⟨h1, h8⟩ := h
    obtain ⟨i, rfl⟩ : ∃ i : Nat, op = i := ⟨op.toNat, by omega⟩
    have HN : Hid (nmOf (i : Int) = aggNm i) := Lib.hid (by unfold nmOf isA; rw [decide_eq_true h1, decide_eq_true h8]; rfl)
    have HI : Hid (i < 9) := Lib.hid (by omega)
    have f0 : ¬ (i : Int) < 1 := by omega
    have f1 : (0 : Int) ≤ (i : Int) := by omega
    have f2 : (i : Int) < 9 := by omega
    have f3 : (i : Int).toNat = i := by omega
    have f4 : ¬ (8 : Int) < (i : Int) := by omega
    go_enter Tryd.func8, Tryd.ntmps8
    go_wp2_with fail
    refine CN.out.mono ?_
    rintro e w1 ⟨g, rfl, hc, g1⟩
    have c1 := hc i HI.out
    clear hc CN
    go_wp2
    go_ret
    exact ⟨by rw [HN.out]; rfl, g1⟩
  · have HN : Hid (nmOf op = ⟨#[]⟩) := Lib.hid (by unfold nmOf isA; rw [if_neg]; simpa using h)
    clear CN
    by_cases h1 : op < 1
    · clear h
      go_enter Tryd.func8, Tryd.ntmps8
      go_wp2
      go_ret
      exact ⟨by rw [HN.out]; rfl, Gr.refl _⟩
    · have h8 : 8 < op := by omega
      clear h
      go_enter Tryd.func8, Tryd.ntmps8
      go_wp2
      go_ret
      exact ⟨by rw [HN.out]; rfl, Gr.refl _⟩
theorem rnamed_any (s : ByteArray) (w : World) :
    Calls Tryd.prog 6 #[.string s] w fun e w' => e = .returned (.tuple #[.int .i64 (nmdI s), .bool (nmdB s)]) ∧ Gr w w' := by
  have CN := Lib.hid (rnames_any w)
  go_enter Tryd.func6, Tryd.ntmps6
  go_wp2_with fail
  refine CN.out.mono ?_
  rintro e w1 ⟨g, rfl, hc, g1⟩
  have HC := Lib.hid hc; have G1 := Lib.hid g1
  clear hc g1 CN
  go_wp2
  go_loopw [5] (fun i wr => ∃ k : Nat, k ≤ 8 ∧ i = .int .i64 ((k : Int) + 1) ∧ Hid (fndN s k = none) ∧ Gr w1 wr) (fun i _ => 9 - (intOf i).toNat)
  case atStart => exact ⟨0, Nat.zero_le _, rfl, Lib.hid rfl, Gr.refl _⟩
  case round =>
    obtain ⟨k, hk, rfl, HF, hg⟩ := hrel
    by_cases hlt : k < 8
    · have c1 := hg.cell (HC.out (k + 1) (by omega))
      have HS := Lib.hid (fndN_s s k)
      have hle : (k : Int) + 1 ≤ 8 := by omega
      have f0 : (0 : Int) ≤ (k : Int) + 1 := by omega
      have f1 : (k : Int) + 1 < 9 := by omega
      have f2 : ((k : Int) + 1).toNat = k + 1 := by omega
      obtain ⟨m, hm⟩ : ∃ m, aggNm (k + 1) = m := ⟨_, rfl⟩
      rw [hm] at c1 HS
      clear hm
      cases e1 : (m.toList == s.toList)
      · have HN2 : Hid (fndN s (k + 1) = none) := Lib.hid (by rw [HS.out, HF.out, e1]; rfl)
        go_wp2
        go_roundw
        case rel => exact ⟨k + 1, by omega, by go_num, HN2, hg⟩
        case measure => simp [intOf]; omega
      · have HN2 : Hid (fndN s 8 = some k) := Lib.hid (fndN_ge s (n := k + 1) (by rw [HS.out, HF.out, e1]; rfl) (by omega))
        go_wp2
        go_ret2
        exact ⟨by unfold nmdI nmdB; rw [HN2.out]; rfl, G1.out.trans hg⟩
    · obtain rfl : k = 8 := by omega
      go_wp2
      go_ret2
      exact ⟨by unfold nmdI nmdB; rw [HF.out]; rfl, G1.out.trans hg⟩
theorem walkNames (op : Int) (s : ByteArray) (w : World) (ht : Fv.Tab w) (hn : Nmz w) (hkn : Kn w) :
    Calls Tryd.prog 3 #[.int .i64 op, .string s] w fun e w' => e = .returned (.bool true) ∧ Gr w w' := by
  have HK := Lib.hid (known10_any w ht hn hkn)
  have C1 := Lib.hid (fun W (g : Gr w W) => named_any s W (hn.gv g))
  have C2 := Lib.hid (fun W => rnamed_any s W)
  have C3 := Lib.hid (fun W (g : Gr w W) => name_any op W (hn.gv g))
  have C4 := Lib.hid (fun W => rname_any op W)
  have C5 := Lib.hid (fun W => takes_any op W)
  have C6 := Lib.hid (fun W => rtakes_any op W)
  clear ht hn hkn
  go_enter Tryd.func3, Tryd.ntmps3
  go_wp2_with fail
  refine HK.out.mono ?_
  rintro e w1 ⟨rfl, g1⟩
  go_wp2_with fail
  refine (C1.out _ g1).mono ?_
  rintro e w2 ⟨rfl, g2⟩
  have G2 := Lib.hid (g1.trans g2)
  go_wp2_with fail
  refine (C2.out _).mono ?_
  rintro e w3 ⟨rfl, g3⟩
  have G3 := Lib.hid (G2.out.trans g3)
  clear g1 g2 g3 G2 HK C1 C2
  go_wp2_with fail
  refine (C3.out _ G3.out).mono ?_
  rintro e w4 ⟨rfl, g4⟩
  go_wp2_with fail
  refine (C4.out _).mono ?_
  rintro e w5 ⟨rfl, g5⟩
  have G5 := Lib.hid (G3.out.trans (g4.trans g5))
  clear g4 g5 C3 C4 G3
  go_wp2_with fail
  refine (C5.out _).mono ?_
  rintro e w6 ⟨rfl, rfl⟩
  go_wp2_with fail
  refine (C6.out _).mono ?_
  rintro e w7 ⟨rfl, rfl⟩
  go_wp2
  go_ret
  exact ⟨rfl, G5.out⟩
end Go.Proofs.YtihiklmomhhdbaaDoor.Pt
