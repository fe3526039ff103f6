/- pointsFit: do a plan's Subs ask few enough points? -/
import Derived.Test.YtikaamonmaohjaaGreatDoorISize
namespace Go.Proofs.YtikaamonmaohjaaGreatDoor.Ir
open Go.RowKit
set_option maxRecDepth 100000
set_option maxHeartbeats 2000000

def lenB (x : Int) : Bool := decide (1 ≤ x) && decide (x ≤ 1125899906842624)
def isSub (d : Nf) : Bool := d.k == 5 && lenB d.rg && lenB d.st
/-- at how many points its kids are asked, if it is at p -/
def subP (d : Nf) (p : Int) : Int := if isSub d then p * (d.rg.tdiv d.st + 1) else p
mutual
def fit : Tr → Int → Bool | .mk d ks, p => !decide (4096 < subP d p) && fits ks (subP d p)
def fits : List Tr → Int → Bool | [], _ => true | t :: r, p => fit t p && fits r p
end
theorem lenB_iff (x : Int) : lenB x = true ↔ 1 ≤ x ∧ x ≤ 1125899906842624 := by unfold lenB; simp
theorem isLen_any (x : Int) (w : World) : Calls Tryz.prog 34 #[.int .i64 x] w fun e w' => e = .returned (.bool (lenB x)) ∧ w = w' := by
  by_cases h1 : 1 ≤ x
  · by_cases h2 : x ≤ 1125899906842624
    · have H : Hid (lenB x = true) := Lib.hid ((lenB_iff x).2 ⟨h1, h2⟩)
      go_enter Tryz.func34, Tryz.ntmps34
      go_wp2
      go_ret
      exact ⟨by rw [H.out]; rfl, rfl⟩
    · have H : Hid (lenB x = false) := Lib.hid (by unfold lenB; simp; omega)
      have h3 : 1125899906842624 < x := by omega
      go_enter Tryz.func34, Tryz.ntmps34
      go_wp2
      go_ret
      exact ⟨by rw [H.out]; rfl, rfl⟩
  · have H : Hid (lenB x = false) := Lib.hid (by unfold lenB; simp; omega)
    have h3 : x < 1 := by omega
    go_enter Tryz.func34, Tryz.ntmps34
    go_wp2
    go_ret
    exact ⟨by rw [H.out]; rfl, rfl⟩
theorem subP_bd {d : Nf} {p : Int} (h1 : 1 ≤ p) (h2 : p ≤ 4096) : 1 ≤ subP d p ∧ (isSub d = true → 0 ≤ d.rg.tdiv d.st ∧ d.rg.tdiv d.st ≤ 1125899906842624) := by
  have hq : isSub d = true → 0 ≤ d.rg.tdiv d.st ∧ d.rg.tdiv d.st ≤ 1125899906842624 := fun h => by
    unfold isSub at h
    simp only [Bool.and_eq_true, lenB_iff] at h
    obtain ⟨⟨-, hr⟩, hs⟩ := h
    rw [Int.tdiv_eq_ediv_of_nonneg (by omega)]
    refine ⟨Int.ediv_nonneg (by omega) (by omega), ?_⟩
    have := Int.ediv_le_self d.st (show 0 ≤ d.rg by omega)
    omega
  refine ⟨?_, hq⟩
  unfold subP
  split
  · rename_i h
    have := (hq h).1
    have h3 : p * 1 ≤ p * (d.rg.tdiv d.st + 1) := Int.mul_le_mul_of_nonneg_left (by omega) (by omega)
    omega
  · exact h1
theorem fits_all (l : List Tr) (p : Int) : fits l p = l.all (fit · p) := by
  induction l with
  | nil => rfl
  | cons t r ih => rw [fits, ih]; rfl
theorem fits_step {l : List Tr} {k : Nat} (h : k < l.length) (p : Int) : fits (l.drop k) p = (fit l[k] p && fits (l.drop (k + 1)) p) := by
  rw [List.drop_eq_getElem_cons h]; rfl
theorem fit_any (t : Tr) : ∀ (p : Np) (pt : Int) (w : World), TrP w t p → 1 ≤ pt → pt ≤ 4096 →
    Calls Tryz.prog 18 #[.agg (nV t.d p t.ks.length).toArray, .int .i64 pt] w fun e w' => e = .returned (.bool (fit t pt)) ∧ Gr w w' := by
  induction t using Tr.ind with
  | h d ks ih =>
  intro p pt w h hm hM
  have HT := Lib.hid h
  have hk1 := h.w.b.k1
  have hk2 := h.w.b.k2
  simp only [Tr.d, Tr.ks] at hk1 hk2 ⊢
  have IH := Lib.hid ih
  clear ih h
  obtain ⟨W1, hW1, g1, hb1, -, hsz⟩ := nbox w (nV d p ks.length) 31
  obtain ⟨a0, -, -, -, a4, a5, -, -, -, -, -, -, -, -, -, -, a16⟩ := hb1.all
  simp only [Nat.zero_add] at a4 a5 a16
  obtain ⟨P, hP⟩ : ∃ P, w.heap.size = P := ⟨_, rfl⟩
  rw [hP] at a0 a4 a5 a16
  have HP := Lib.hid hP; have HW1 := Lib.hid hW1; have HG1 := Lib.hid g1; have HT1 : Hid (TrP W1 (.mk d ks) p) := Lib.hid (HT.out.gr g1)
  obtain ⟨A, hAe⟩ : ∃ A, p.kA = A := ⟨_, rfl⟩
  rw [hAe] at a16
  have HAe := Lib.hid hAe
  have CR := Lib.hid (fun W => isLen_any d.rg W)
  have CS := Lib.hid (fun W => isLen_any d.st W)
  obtain ⟨hb0, hbs⟩ := subP_bd (d := d) hm hM
  have HS : Hid (subP d pt = if isSub d then pt * (d.rg.tdiv d.st + 1) else pt) := Lib.hid rfl
  have HF : Hid (fit (.mk d ks) pt = (!decide (4096 < subP d pt) && fits ks (subP d pt))) := Lib.hid rfl
  obtain ⟨f, hf⟩ : ∃ f, fit (.mk d ks) pt = f := ⟨_, rfl⟩
  rw [hf] at HF ⊢
  obtain ⟨rg, hrg⟩ : ∃ x, d.rg = x := ⟨_, rfl⟩
  obtain ⟨st, hst⟩ : ∃ x, d.st = x := ⟨_, rfl⟩
  obtain ⟨kd, hkd⟩ : ∃ x, d.k = x := ⟨_, rfl⟩
  have HI : Hid (isSub d = (kd == 5 && lenB rg && lenB st)) := Lib.hid (by unfold isSub; rw [hrg, hst, hkd])
  rw [hrg] at a4 CR HS hbs
  rw [hst] at a5 CS HS hbs
  rw [hkd] at a0
  obtain ⟨q, hq⟩ : ∃ q, subP d pt = q := ⟨_, rfl⟩
  rw [hq] at HS HF hb0
  obtain ⟨br, hbr⟩ : ∃ b, lenB rg = b := ⟨_, rfl⟩
  obtain ⟨bs, hbs'⟩ : ∃ b, lenB st = b := ⟨_, rfl⟩
  rw [hbr] at CR HI; rw [hbs'] at CS HI
  have HBR := Lib.hid hbr; have HBS := Lib.hid hbs'; have HQ := Lib.hid hq
  clear hW1 g1 hb1 hsz hP hAe hf hrg hst hkd hq hbr hbs'
  have hcase : Hid (isSub d = true) ∨ Hid (isSub d = false) := by cases h : isSub d; exact .inr (Lib.hid rfl); exact .inl (Lib.hid rfl)
  have hway : (kd = 5 ∧ br = true ∧ bs = true ∧ rg.tdiv st ≤ 1125899906842624 ∧ 0 ≤ rg.tdiv st ∧ ¬ st = 0 ∧ pt * (rg.tdiv st + 1) = q ∧ q ≤ 4611686018427392000) ∨ (q = pt ∧ ((kd == 5) = false ∨ (kd = 5 ∧ br = false) ∨ (kd = 5 ∧ br = true ∧ bs = false))) := by
    rcases hcase with h | h
    · left
      have h' := h.out
      rw [HI.out] at h'
      simp only [Bool.and_eq_true, beq_iff_eq] at h'
      obtain ⟨⟨rfl, rfl⟩, rfl⟩ := h'
      obtain ⟨h1, h2⟩ := hbs h.out
      have hv : q = pt * (rg.tdiv st + 1) := by rw [HS.out, if_pos h.out]
      have hsb := (lenB_iff st).1 HBS.out
      have hle : pt * (rg.tdiv st + 1) ≤ 4096 * 1125899906842625 := Int.mul_le_mul hM (by omega) (by omega) (by omega)
      exact ⟨rfl, rfl, rfl, h2, h1, by omega, hv.symm, by omega⟩
    · right
      have h' := h.out
      have hv : q = pt := by rw [HS.out, h.out]; rfl
      refine ⟨hv, ?_⟩
      rw [HI.out] at h'
      cases hk : (kd == 5)
      · exact .inl rfl
      · obtain rfl : kd = 5 := by simpa using hk
        cases br
        · exact .inr (.inl ⟨rfl, rfl⟩)
        · cases bs
          · exact .inr (.inr ⟨rfl, rfl, rfl⟩)
          · simp at h'
  clear hcase HS hbs HI HQ
  have CR2 : Hid (∀ W, Calls Tryz.prog 34 #[.int .i64 rg] W fun e w' => e = .returned (.bool br) ∧ W = w') := CR
  have hq5 : q ≤ 4611686018427392000 := by rcases hway with h | h <;> omega
  by_cases hbig : 4096 < q
  · have HN : Hid (f = false) := Lib.hid (by rw [HF.out, decide_eq_true hbig]; rfl)
    rcases hway with ⟨rfl, rfl, rfl, hd1, hd2, hz, hv, -⟩ | ⟨rfl, hw⟩
    · obtain ⟨dv, hdv⟩ : ∃ dv, rg.tdiv st = dv := ⟨_, rfl⟩
      rw [hdv] at hd1 hd2 hv
      have hsz : (st == 0) = false := by simpa using hz
      go_enter Tryz.func18, Tryz.ntmps18
      go_upto_region 1 with fail
      rw [HW1.out, HP.out]
      go_wp2_with (first
        | (go_at_call 34; (with_reducible refine (CR.out _).mono ?_); rintro e w' ⟨rfl, rfl⟩)
        | (go_at_call 34; (with_reducible refine (CS.out _).mono ?_); rintro e w' ⟨rfl, rfl⟩))
      go_ret
      exact ⟨by rw [HN.out]; rfl, HG1.out⟩
    · omega
  · rcases hway with ⟨rfl, rfl, rfl, hd1, hd2, hz, hv, -⟩ | ⟨rfl, hw⟩
    · obtain ⟨dv, hdv⟩ : ∃ dv, rg.tdiv st = dv := ⟨_, rfl⟩
      rw [hdv] at hd1 hd2 hv
      have hsz : (st == 0) = false := by simpa using hz
      go_enter Tryz.func18, Tryz.ntmps18
      go_upto_region 1 with fail
      rw [HW1.out, HP.out]
      go_upto_region 5 with (first
        | (go_at_call 34; (with_reducible refine (CR.out _).mono ?_); rintro e w' ⟨rfl, rfl⟩)
        | (go_at_call 34; (with_reducible refine (CS.out _).mono ?_); rintro e w' ⟨rfl, rfl⟩))
      go_wp2
      go_loopw [33] (fun i wr => ∃ k : Nat, k ≤ ks.length ∧ i = .int .i64 k ∧ Hid (fits ks q = fits (ks.drop k) q) ∧ Gr W1 wr) (fun i _ => ks.length - (intOf i).toNat)
      case atStart => exact ⟨0, Nat.zero_le _, rfl, Lib.hid rfl, Gr.refl _⟩
      case round =>
        obtain ⟨k, hk, rfl, HR, hg⟩ := hrel
        by_cases hlt : k < ks.length
        · obtain ⟨b, o, q2, hA, hc, ht, -⟩ := (HT1.out.gr hg).kids hlt
          obtain rfl : A = some ⟨b, o, none⟩ := HAe.out.symm.trans hA
          clear hA
          have HST := Lib.hid (fits_step hlt q)
          have IHk := Lib.hid (fun (p : Np) (w : World) => IH.out ks[k] (List.getElem_mem hlt) p q w)
          obtain ⟨t, htt⟩ : ∃ t, ks[k] = t := ⟨_, rfl⟩
          rw [htt] at hc ht HST IHk
          clear htt
          obtain ⟨W2, hW2, g2, hb2, -, -⟩ := nbox wr (nV t.d q2 t.ks.length) 31
          have HW2 := Lib.hid hW2
          have CC := Lib.hid (IHk.out q2 W2 (TrP.gr g2 t q2 ht) (by omega) (by omega))
          obtain ⟨r, hr⟩ : ∃ r, fit t q = r := ⟨_, rfl⟩
          rw [hr] at CC HST
          clear hW2 hr
          cases r
          · have HN : Hid (f = false) := Lib.hid (by rw [HF.out, HR.out, HST.out]; simp)
            go_wp2_with (first
              | (refine load_node rfl (.tmp 35) rfl _ _ rfl hc ?_)
              | (refine store_node rfl (.tmp 6) (.tmp 36) rfl rfl rfl rfl ?_; rw [HW2.out])
              | (refine load_node rfl (.tmp 6) rfl _ _ rfl hb2 ?_)
              | (go_at_call 18; refine CC.out.mono ?_; rintro e w3 ⟨rfl, g3⟩))
            have hg3 := HG1.out.trans ((hg.trans g2).trans g3)
            clear g3
            go_wp2
            go_ret
            exact ⟨by rw [HN.out]; rfl, hg3⟩
          · have HN : Hid (fits ks q = fits (ks.drop (k + 1)) q) := Lib.hid (by rw [HR.out, HST.out]; rfl)
            go_wp2_with (first
              | (refine load_node rfl (.tmp 35) rfl _ _ rfl hc ?_)
              | (refine store_node rfl (.tmp 6) (.tmp 36) rfl rfl rfl rfl ?_; rw [HW2.out])
              | (refine load_node rfl (.tmp 6) rfl _ _ rfl hb2 ?_)
              | (go_at_call 18; refine CC.out.mono ?_; rintro e w3 ⟨rfl, g3⟩))
            have hg3 : Gr W1 w3 := (hg.trans g2).trans g3
            clear g3
            go_wp2
            go_roundw
            case rel => exact ⟨k + 1, by omega, by go_num, HN, hg3⟩
            case measure => simp [intOf]; omega
        · obtain rfl : k = ks.length := by omega
          have HN : Hid (f = true) := Lib.hid (by rw [HF.out, HR.out, List.drop_length, decide_eq_false (by omega), fits]; rfl)
          go_wp2
          go_ret
          exact ⟨by rw [HN.out]; rfl, HG1.out.trans hg⟩
    · rcases hw with hw | ⟨rfl, rfl⟩ | ⟨rfl, rfl, rfl⟩
      all_goals
        go_enter Tryz.func18, Tryz.ntmps18
        go_upto_region 1 with fail
        rw [HW1.out, HP.out]
        go_upto_region 5 with (first
          | (go_at_call 34; (with_reducible refine (CR.out _).mono ?_); rintro e w' ⟨rfl, rfl⟩)
          | (go_at_call 34; (with_reducible refine (CS.out _).mono ?_); rintro e w' ⟨rfl, rfl⟩))
        go_wp2
        go_loopw [33] (fun i wr => ∃ k : Nat, k ≤ ks.length ∧ i = .int .i64 k ∧ Hid (fits ks q = fits (ks.drop k) q) ∧ Gr W1 wr) (fun i _ => ks.length - (intOf i).toNat)
        case atStart => exact ⟨0, Nat.zero_le _, rfl, Lib.hid rfl, Gr.refl _⟩
        case round =>
          obtain ⟨k, hk, rfl, HR, hg⟩ := hrel
          by_cases hlt : k < ks.length
          · obtain ⟨b, o, q2, hA, hc, ht, -⟩ := (HT1.out.gr hg).kids hlt
            obtain rfl : A = some ⟨b, o, none⟩ := HAe.out.symm.trans hA
            clear hA
            have HST := Lib.hid (fits_step hlt q)
            have IHk := Lib.hid (fun (p : Np) (w : World) => IH.out ks[k] (List.getElem_mem hlt) p q w)
            obtain ⟨t, htt⟩ : ∃ t, ks[k] = t := ⟨_, rfl⟩
            rw [htt] at hc ht HST IHk
            clear htt
            obtain ⟨W2, hW2, g2, hb2, -, -⟩ := nbox wr (nV t.d q2 t.ks.length) 31
            have HW2 := Lib.hid hW2
            have CC := Lib.hid (IHk.out q2 W2 (TrP.gr g2 t q2 ht) (by omega) (by omega))
            obtain ⟨r, hr⟩ : ∃ r, fit t q = r := ⟨_, rfl⟩
            rw [hr] at CC HST
            clear hW2 hr
            cases r
            · have HN : Hid (f = false) := Lib.hid (by rw [HF.out, HR.out, HST.out]; simp)
              go_wp2_with (first
                | (refine load_node rfl (.tmp 35) rfl _ _ rfl hc ?_)
                | (refine store_node rfl (.tmp 6) (.tmp 36) rfl rfl rfl rfl ?_; rw [HW2.out])
                | (refine load_node rfl (.tmp 6) rfl _ _ rfl hb2 ?_)
                | (go_at_call 18; refine CC.out.mono ?_; rintro e w3 ⟨rfl, g3⟩))
              have hg3 := HG1.out.trans ((hg.trans g2).trans g3)
              clear g3
              go_wp2
              go_ret
              exact ⟨by rw [HN.out]; rfl, hg3⟩
            · have HN : Hid (fits ks q = fits (ks.drop (k + 1)) q) := Lib.hid (by rw [HR.out, HST.out]; rfl)
              go_wp2_with (first
                | (refine load_node rfl (.tmp 35) rfl _ _ rfl hc ?_)
                | (refine store_node rfl (.tmp 6) (.tmp 36) rfl rfl rfl rfl ?_; rw [HW2.out])
                | (refine load_node rfl (.tmp 6) rfl _ _ rfl hb2 ?_)
                | (go_at_call 18; refine CC.out.mono ?_; rintro e w3 ⟨rfl, g3⟩))
              have hg3 : Gr W1 w3 := (hg.trans g2).trans g3
              clear g3
              go_wp2
              go_roundw
              case rel => exact ⟨k + 1, by omega, by go_num, HN, hg3⟩
              case measure => simp [intOf]; omega
          · obtain rfl : k = ks.length := by omega
            have HN : Hid (f = true) := Lib.hid (by rw [HF.out, HR.out, List.drop_length, decide_eq_false (by omega), fits]; rfl)
            go_wp2
            go_ret
            exact ⟨by rw [HN.out]; rfl, HG1.out.trans hg⟩
end Go.Proofs.YtikaamonmaohjaaGreatDoor.Ir
