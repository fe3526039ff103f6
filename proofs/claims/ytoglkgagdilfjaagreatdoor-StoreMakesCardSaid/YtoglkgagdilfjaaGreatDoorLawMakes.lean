/- StoreMakes: its walk. -/
import Derived.Test.YtoglkgagdilfjaaGreatDoorOfS
namespace Go.Proofs.YtoglkgagdilfjaaGreatDoor
open Go.RowKit Go.Sort
set_option maxRecDepth 100000
set_option maxHeartbeats 4000000

theorem one_raw {W : World} {b o k : Nat} {l : List Rwm} {r : Rwm} (h : RawsAt W (some ⟨b, o, none⟩) l) (hr : l[k]? = some r) : RawsAt W (some ⟨b, o + k * 3, none⟩) [r] := fun _ => ⟨b, o + k * 3, rfl, fun i x hx => by
  match i, hx with
  | 0, hx =>
    obtain rfl : r = x := by simpa using hx
    obtain ⟨b', o', e, hc⟩ := h (by have := (List.getElem?_eq_some_iff.1 hr).1; omega)
    injection e with e
    injection e with e1 e2
    subst e1; subst e2
    exact hc k r hr⟩
theorem walkMakes_err (A : Option Addr) (c : Nat) (l : List Rwm) (i : Int) (w : World) (h : RawsAt w A l) (hw : WdR l) (hl : l.length ≤ maxLen) (hc : l.length ≤ c) (hll : ∀ r ∈ l, r.l.length ≤ maxLen) (hk : Kn w) (ht : Tab w) (hf : fewR l) (he : ¬ errA l = 0) :
    Calls Tryz.prog 3 #[.slice A l.length c, .int .i64 i] w fun e w' => e = .returned (.bool true) ∧ Gr w w' := by
  have hwr := fewR_wr hf hw
  have HL := Lib.hid h; have HWR := Lib.hid hwr
  have CK := Lib.hid (knownS_any w hk ht)
  have CF : Hid (∀ W, Gr w W → Calls Tryz.prog 9 #[.slice A l.length c] W fun e w' => e = .returned (.bool true) ∧ W = w') := Lib.hid (fun W g => (fewS_any A c l W (h.gr g) hw hl hll).mono fun e w' ⟨h1, h2⟩ => by
    rcases h2 with ⟨-, rfl⟩ | ⟨h3, -⟩
    · exact ⟨rfl, h1⟩
    · exact absurd hf h3)
  have CN : Hid (∀ W, Gr w W → Calls Tryz.prog 10 #[.slice A l.length c] W fun e w' => e = .returned (.tuple #[.pointer none, .int .i64 (errA l)]) ∧ Gr W w') := Lib.hid (fun W g => (newS_any A c l W (h.gr g) hwr (hk.gr g) (ht.gr g)).mono fun e w' ⟨h1, h2⟩ => by
    rw [if_neg he] at h2
    exact ⟨h2, h1⟩)
  have CO := Lib.hid (fun W (g : Gr w W) => of_any A c l W (h.gr g) hwr.n)
  have CR : Hid (∀ W A' c', RawsAt W A' l → Calls Tryz.prog 11 #[.slice A' l.length c'] W fun e w' => e = .returned (.tuple #[.pointer none, .int .i64 (errA l)]) ∧ Gr W w') := Lib.hid (fun W A' c' h' => (rNew_any A' c' l W h' hwr).mono fun e w' ⟨h1, h2⟩ => by
    rw [if_neg he] at h2
    exact ⟨h2, h1⟩)
  obtain ⟨E, hE⟩ : ∃ E, errA l = E := ⟨_, rfl⟩
  rw [hE] at CN CR
  unfold maxLen at hl
  have hn := hwr.n
  clear h hw hll hk ht hf he hwr hE
  go_enter Tryz.func3, Tryz.ntmps3
  go_wp2_with (first
    | (go_at_call 8; refine CK.out.mono ?_; rintro e w1 ⟨rfl, g1⟩)
    | (go_at_call 9; refine (CF.out _ g1).mono ?_; rintro e w' ⟨rfl, rfl⟩)
    | (go_at_call 10; refine (CN.out _ g1).mono ?_; rintro e w2 ⟨rfl, g2⟩)
    | (go_at_call 12; refine (CO.out _ (g1.trans g2)).mono ?_; rintro e w3 ⟨g3, A3, c3, rfl, hr3⟩)
    | (go_at_call 11; refine (CR.out _ A3 c3 hr3).mono ?_; rintro e w4 ⟨rfl, g4⟩)
    | fail)
  have HG4 := Lib.hid (((g1.trans g2).trans g3).trans g4)
  clear g1 g2 g3 g4 hr3
  go_loopw [9] (fun i9 wr => ∃ k : Nat, k ≤ l.length ∧ i9 = .int .i64 k ∧ Hid (Gr w wr)) (fun i9 _ => l.length - (intOf i9).toNat)
  case atStart => exact ⟨0, Nat.zero_le _, rfl, HG4⟩
  case round =>
    obtain ⟨k, hk, rfl, HG⟩ := hrel
    by_cases hlt : k < l.length
    · obtain ⟨b, o, LA, lc, rfl, d1, hLA, d2, d3, -⟩ := (HL.out.gr HG.out).at_ hlt
      have hb := HWR.out.l l[k] (List.getElem_mem hlt)
      obtain ⟨r, hr⟩ : ∃ r, l[k] = r := ⟨_, rfl⟩
      have HK : Hid (l[k]? = some r) := Lib.hid (by rw [List.getElem?_eq_getElem hlt, hr])
      rw [hr] at d1 hLA d2 d3 hb
      have n1 : (k : Int) < (l.length : Int) := by omega
      have n2 : (0 : Int) ≤ (k : Int) := by omega
      have n3 : (k : Int) + 1 ≤ (c : Int) := by omega
      have hck : ¬ c = k := by omega
      have n4 : (k : Int) ≤ (k : Int) + 1 := by omega
      have n5 : (0 : Int) ≤ (k : Int) + 1 := by omega
      have n6 : ((k : Int) + 1).toNat = k + 1 := by omega
      have ww : IntKind.i64.wrap ((k : Int) + 1) = (k : Int) + 1 := by rw [IntKind.wrap_i64]; omega
      have CC := Lib.hid (fun W (g : Gr wr W) => check_any LA lc r W (hLA.gr g) hb.1 (by omega))
      have CO1 := Lib.hid (fun W (g : Gr wr W) => of_any (some ⟨b, o + k * 3, none⟩) (c - k) [r] W (one_raw ((HL.out.gr HG.out).gr g) HK.out) (by simp))
      have CR1 := Lib.hid (fun W LA' lc' (h : LabsAt W LA' r.l) => rcheck_raw LA' lc' r W h hb.1 (by omega))
      obtain ⟨d, hd⟩ : ∃ d, rawE r = d := ⟨_, rfl⟩
      rw [hd] at CC CR1
      obtain ⟨rl, rt, rv⟩ := r
      simp only at d1 d2 d3 CC CR1
      clear hr hb hLA hd
      go_upto_region 12 with fail
      go_region_law
        (first
          | (go_simp
             go_at_call 13
             refine (CC.out _ (Gr.refl _).drew).mono ?_
             rintro e w5 ⟨rfl, g5⟩
             have G5 : Gr wr w5 := (Gr.refl wr).drew.trans g5)
          | (go_simp
             go_at_call 12
             refine (CO1.out _ G5).mono ?_
             rintro e w6 ⟨g6, A6, c6, rfl, hr6⟩
             have G6 : Gr wr w6 := G5.trans g6
             obtain ⟨b6, o6, rfl, hcells⟩ := hr6 (by simp)
             obtain ⟨LA6, lc6, x0, x1, x2, x3⟩ := hcells 0 _ rfl
             simp only [Nat.zero_mul, Nat.add_zero] at x0 x2 x3
             have HX1 := Lib.hid x1
             clear hcells x1 hr6)
          | (go_simp
             go_at_call 14
             refine (CR1.out _ LA6 lc6 HX1.out).mono ?_
             rintro e w7 ⟨rfl, g7⟩
             have G7 : Gr wr w7 := G6.trans g7))
      all_goals
        have HG7 := Lib.hid (HG.out.trans G7)
        have nd : (d != d) = false := by simp
        clear G5 G6 G7 g5 g6 g7 x0 x2 x3 d1 d2 d3
        go_wp2_with fail
        go_roundw
        case rel => exact ⟨k + 1, by omega, by go_num, HG7⟩
        case measure => simp [intOf]; omega
    · obtain rfl : k = l.length := by omega
      have n3 : ¬ (l.length : Int) < (l.length : Int) := by omega
      go_wp2
      go_ret
      exact ⟨rfl, HG.out⟩
end Go.Proofs.YtoglkgagdilfjaaGreatDoor
