/- checkNode, way 6 of its seven. -/
import Derived.Test.YtikaamonmaohjaaGreatDoorICn
namespace Go.Proofs.YtikaamonmaohjaaGreatDoor.Ir
open Go.RowKit
set_option maxRecDepth 100000
set_option maxHeartbeats 1000000

theorem chn_6 (d : Nf) (p : Np) (nk : Nat) (w : World) (h : Nw w d p nk) (hl : Lt w) (hm : d.m.length ≤ 1099511627776) (hok : okK d.k = true) (hnk : (nk : Int) = kdN d.k) (hE : hM d.k = false ∧ hF d.k = true ∧ hX d.k = false ∧ hG d.k = true ∧ hLb d.k = false) :
    Calls Tryz.prog 20 #[.agg (nV d p nk).toArray] w fun e w' => e = .returned (.int .i64 (errN d nk)) ∧ Gr w w' := by
  obtain ⟨W1, hW1, g1, hb1, -, hsz⟩ := nbox w (nV d p nk) 31
  obtain ⟨P, hP⟩ : ∃ P, w.heap.size = P := ⟨_, rfl⟩
  rw [hP] at hb1 hsz
  have HP := Lib.hid hP; have HW1 := Lib.hid hW1; have HG1 := Lib.hid g1
  have hw1 := h.gr g1
  have HL := Lib.hid (hl.gr g1)
  obtain ⟨r, hr⟩ : ∃ r, errN d nk = r := ⟨_, rfl⟩
  have HE : Hid (errN d nk = r) := Lib.hid hr
  rw [hr]
  have CSh := Lib.hid (shape_any d p nk W1)
  have HB1 := Lib.hid hb1
  have HWN := Lib.hid hw1
  have hk1 := h.b.k1
  have hk2 := h.b.k2
  clear hW1 g1 hP h hl hr hb1 hw1
  go_enter Tryz.func20, Tryz.ntmps20
  go_upto_region 1 with fail
  rw [HW1.out, HP.out]
  have hb1 := HB1.out
  go_wp2_with (refine load_node rfl (.tmp 1) rfl _ _ rfl hb1 ?_)
  refine CSh.out.mono ?_
  rintro e w2 ⟨rfl, g2⟩
  obtain ⟨W3, hW3, g3, hb3⟩ := fresh w2 (shKV d.k d.fn) 77
  have HW3 := Lib.hid hW3
  have hG3 : Gr W1 W3 := g2.trans g3
  obtain ⟨S, hSz⟩ : ∃ S, w2.heap.size = S := ⟨_, rfl⟩
  rw [hSz] at hb3
  have HS := Lib.hid hSz
  have HRG : Hid (W3.rangeAt S 0 (shKV d.k d.fn).toList) := Lib.hid (fun j v hv => by rw [Nat.zero_add]; exact hb3 j v (by simpa using hv))
  have b1 := hb3 1 (.bool (hF d.k)) rfl
  have b2 := hb3 2 (.bool (hM d.k)) rfl
  have b6 := hb3 6 (.bool (hG d.k)) rfl
  have b7 := hb3 7 (.bool (hX d.k)) rfl
  have b9 := hb3 9 (.bool (hLb d.k)) rfl
  have b10 := hb3 10 (.int .i64 (kdN d.k)) rfl
  obtain ⟨-, -, -, a3, -, -, -, a7, a8, a9, a10, a11, a12, -, a14, a15, a16⟩ := (hb1.gr hG3).all
  simp only [Nat.zero_add] at a3 a7 a8 a9 a10 a11 a12 a14 a15 a16
  have HB : Hid (∀ W, Gr W3 W → CellsAt W P 0 (nV d p nk)) := Lib.hid (fun W g => hb1.gr (hG3.trans g))
  have HR : Hid (∀ W, Gr W3 W → W.rangeAt S 0 (shKV d.k d.fn).toList) := Lib.hid (fun W g j v hv => by have := HRG.out j v hv; rw [Nat.zero_add] at this ⊢; exact g.cell this)
  have hwn := HWN.out.gr hG3
  have GF : Hid (Gr w W3) := Lib.hid (HG1.out.trans hG3)
  have CM : Hid (∀ W, Gr W3 W → Calls Tryz.prog 38 #[.slice p.mA d.m.length p.mC] W fun e w' => e = .returned (.int .i64 (checkA d.m)) ∧ Gr W w') := Lib.hid (fun W g => mcheck_any p.mA d.m p.mC W (hwn.m.gr g) hwn.b.wm hm)
  have CT : Hid (∀ W, Calls Tryz.prog 39 #[.agg (nV d p nk).toArray, .agg (shKV d.k d.fn)] W fun e w' => e = .returned (.int .i64 (tmE (hO d.k) (hL d.k) (hS d.k) d.of d.rg d.st)) ∧ Gr W w') := Lib.hid (fun W => times_any _ _ _ _ _ _ _ _ _ _ _ d p nk W)
  have CF : Hid (∀ W, Gr W3 W → hF d.k = true → Calls Tryz.prog 40 #[.agg (nV d p nk).toArray] W fun e w' => e = .returned (.bool (fnB d.k d.fn)) ∧ Gr W w') := Lib.hid (fun W g hf => isFun_any d p nk W ((HL.out.gr hG3).gr g) (hF_k hf))
  have CJ : Hid (∀ W, Gr W3 W → Calls Tryz.prog 41 #[.agg #[.int .i64 d.xh, .slice p.xA d.xn.length p.xC, .int .i64 d.card, .slice p.iA d.inc.length p.iC]] W fun e w' => e = .returned (.int .i64 (ckV (chkM d.card d.xh d.xn d.inc))) ∧ Gr W w') := Lib.hid (fun W g => jcheck_any d.card d.xh p.xA p.iA d.xn d.inc p.xC p.iC W (hwn.x.gr g) (hwn.i.gr g) hwn.b.x1 (by have := hwn.b.x2; unfold maxLen; omega) hwn.b.wx hwn.b.i1 (by have := hwn.b.i2; unfold maxLen; omega) hwn.b.wi)
  have CG : Hid (∀ W, Gr W3 W → Calls Tryz.prog 42 #[.agg #[.int .i64 d.gh, .slice p.gA d.gn.length p.gC]] W fun e w' => e = .returned (.int .i64 (ckV (chkG d.gh d.gn))) ∧ Gr W w') := Lib.hid (fun W g => check_any p.gA d.gn p.gC d.gh W (hwn.g.gr g) hwn.b.g1 (by have := hwn.b.g2; unfold maxLen; omega) hwn.b.wg)
  have CN : Hid (∀ W, Calls Tryz.prog 43 #[.string d.name] W fun e w' => e = .returned (.bool (nameB d.name)) ∧ W = w') := Lib.hid (fun W => name_any d.name W hwn.b.nm)
  have hvl := hwn.b.vl
  unfold maxLen at hvl
  obtain ⟨eM, eF, eX, eG, eB⟩ := hE
  have HF0 : Hid (hF d.k = true → hF d.k = true) := Lib.hid id
  obtain ⟨gA, hgA⟩ : ∃ x, p.gA = x := ⟨_, rfl⟩
  have HIK := Lib.hid hwn.b
  clear hwn hW3 hSz hb3 g2 g3 HRG hG3 hb1 hgA CSh
  go_upto_region 2 with (refine store_shape rfl (.tmp 3) (.tmp 10) rfl w2.heap.size rfl rfl rfl rfl rfl (sh_one _ _) ?_)
  rw [HW3.out, HS.out]
  try rw [hok]
  have HOK := Lib.hid hok
  have H0 : Hid (¬ (okK d.k = false ∨ (nk : Int) ≠ kdN d.k)) := Lib.hid (by rw [HOK.out]; simp [hnk])
  rw [← hnk] at b10
  clear hnk
  rw [eF] at b1; rw [eM] at b2; rw [eG] at b6; rw [eX] at b7; rw [eB] at b9
  have EMQ := Lib.hid eM; have EFQ := Lib.hid eF; have EXQ := Lib.hid eX; have EGQ := Lib.hid eG; have EBQ := Lib.hid eB
  clear eM eF eX eG eB hok
  rcases (Decidable.em (tmE (hO d.k) (hL d.k) (hS d.k) d.of d.rg d.st = 0)).symm with hT | hT
  · obtain ⟨v, hv⟩ : ∃ v, tmE (hO d.k) (hL d.k) (hS d.k) d.of d.rg d.st = v := ⟨_, rfl⟩
    have HVV := Lib.hid hv
    have HA2 : Hid (tmE (hO d.k) (hL d.k) (hS d.k) d.of d.rg d.st ≠ 0) := Lib.hid hT
    rw [hv] at CT hT
    have hb : (v != 0) = true := by simpa using hT
    clear hv hT
    have HN : Hid (errN d nk = v) := Lib.hid (by unfold errN; rw [if_neg H0.out, if_neg (fun h => absurd (EMQ.out.symm.trans h.1) (by decide)), if_pos HA2.out, HVV.out])
    go_upto_region 9 with (first | (refine load_node rfl (.tmp 1) rfl _ _ rfl (HB.out _ (by first | assumption | exact Gr.refl _)) ?_) | (refine load_shape rfl (.tmp 3) rfl S rfl (HR.out _ (by first | assumption | exact Gr.refl _)) ?_) | (go_at_call 39; refine (CT.out _).mono ?_; rintro e w5 ⟨rfl, g5⟩; have g5 : Gr W3 w5 := (by first | exact g4.trans g5 | exact g5); have b1r := g5.cell b1; have b2r := g5.cell b2; have b6r := g5.cell b6; have b7r := g5.cell b7; have b9r := g5.cell b9; have a7r := g5.cell a7; have a8r := g5.cell a8; have a9r := g5.cell a9; have a10r := g5.cell a10; have a11r := g5.cell a11; have a12r := g5.cell a12; have a14r := g5.cell a14; have a15r := g5.cell a15))
    go_wp2
    go_ret
    exact ⟨by rw [← HE.out, HN.out]; rfl, GF.out.trans (by first | exact g7 | exact g6 | exact g5 | exact g4 | exact Gr.refl _)⟩
  rw [hT] at CT
  have HT2 := Lib.hid hT
  clear hT
  unfold nV at CF
  cases hf : fnB d.k d.fn
  · have HFF := Lib.hid hf
    rw [hf] at CF
    clear hf
    have HN : Hid (errN d nk = 1) := Lib.hid (by unfold errN; rw [if_neg H0.out, if_neg (fun h => absurd (EMQ.out.symm.trans h.1) (by decide)), if_neg (fun h => h HT2.out), if_pos ⟨EFQ.out, HFF.out⟩])
    go_upto_region 9 with (first | (refine load_node rfl (.tmp 1) rfl _ _ rfl (HB.out _ (by first | assumption | exact Gr.refl _)) ?_) | (refine load_shape rfl (.tmp 3) rfl S rfl (HR.out _ (by first | assumption | exact Gr.refl _)) ?_) | (go_at_call 39; refine (CT.out _).mono ?_; rintro e w5 ⟨rfl, g5⟩; have g5 : Gr W3 w5 := (by first | exact g4.trans g5 | exact g5); have b1r := g5.cell b1; have b2r := g5.cell b2; have b6r := g5.cell b6; have b7r := g5.cell b7; have b9r := g5.cell b9; have a7r := g5.cell a7; have a8r := g5.cell a8; have a9r := g5.cell a9; have a10r := g5.cell a10; have a11r := g5.cell a11; have a12r := g5.cell a12; have a14r := g5.cell a14; have a15r := g5.cell a15; obtain ⟨f0, f1, f2, f3, f4, f5, f6, f7, f8, f9, f10, f11, f12, f13, f14, f15, f16⟩ := (HB.out _ g5).all; simp only [Nat.zero_add] at f1 f2 f3 f4 f5 f6 f7 f8 f9 f10 f11 f12 f13 f14 f15 f16))
    go_wp2_with (go_at_call 40; refine (CF.out _ (by first | assumption | exact Gr.refl _) EFQ.out).mono ?_; rintro e w6 ⟨rfl, g6⟩; have g6 : Gr W3 w6 := g5.trans g6; have b1s := g6.cell b1; have b2s := g6.cell b2; have b6s := g6.cell b6; have b7s := g6.cell b7; have b9s := g6.cell b9; have a7s := g6.cell a7; have a8s := g6.cell a8; have a9s := g6.cell a9; have a10s := g6.cell a10; have a11s := g6.cell a11; have a12s := g6.cell a12; have a14s := g6.cell a14; have a15s := g6.cell a15)
    go_ret
    exact ⟨by rw [← HE.out, HN.out]; rfl, GF.out.trans (by first | exact g7 | exact g6 | exact g5 | exact g4 | exact Gr.refl _)⟩
  have HFF := Lib.hid hf
  rw [hf] at CF
  clear hf
  obtain ⟨v, hv⟩ : ∃ v, ckV (chkG d.gh d.gn) = v := ⟨_, rfl⟩
  have HVV := Lib.hid hv
  rw [hv] at CG
  clear hv
  have HN : Hid (errN d nk = v) := Lib.hid (by unfold errN; rw [if_neg H0.out, if_neg (fun h => absurd (EMQ.out.symm.trans h.1) (by decide)), if_neg (fun h => h HT2.out), if_neg (fun h => absurd (HFF.out.symm.trans h.2) (by decide)), if_neg (fun h => absurd (EXQ.out.symm.trans h) (by decide)), if_pos EGQ.out, HVV.out])
  go_upto_region 9 with (first | (refine load_node rfl (.tmp 1) rfl _ _ rfl (HB.out _ (by first | assumption | exact Gr.refl _)) ?_) | (refine load_shape rfl (.tmp 3) rfl S rfl (HR.out _ (by first | assumption | exact Gr.refl _)) ?_) | (go_at_call 39; refine (CT.out _).mono ?_; rintro e w5 ⟨rfl, g5⟩; have g5 : Gr W3 w5 := (by first | exact g4.trans g5 | exact g5); have b1r := g5.cell b1; have b2r := g5.cell b2; have b6r := g5.cell b6; have b7r := g5.cell b7; have b9r := g5.cell b9; have a7r := g5.cell a7; have a8r := g5.cell a8; have a9r := g5.cell a9; have a10r := g5.cell a10; have a11r := g5.cell a11; have a12r := g5.cell a12; have a14r := g5.cell a14; have a15r := g5.cell a15; obtain ⟨f0, f1, f2, f3, f4, f5, f6, f7, f8, f9, f10, f11, f12, f13, f14, f15, f16⟩ := (HB.out _ g5).all; simp only [Nat.zero_add] at f1 f2 f3 f4 f5 f6 f7 f8 f9 f10 f11 f12 f13 f14 f15 f16))
  go_upto_region 13 with (go_at_call 40; refine (CF.out _ (by first | assumption | exact Gr.refl _) EFQ.out).mono ?_; rintro e w6 ⟨rfl, g6⟩; have g6 : Gr W3 w6 := g5.trans g6; have b1s := g6.cell b1; have b2s := g6.cell b2; have b6s := g6.cell b6; have b7s := g6.cell b7; have b9s := g6.cell b9; have a7s := g6.cell a7; have a8s := g6.cell a8; have a9s := g6.cell a9; have a10s := g6.cell a10; have a11s := g6.cell a11; have a12s := g6.cell a12; have a14s := g6.cell a14; have a15s := g6.cell a15)
  go_wp2_with (go_at_call 42; refine (CG.out _ (by first | assumption | exact Gr.refl _)).mono ?_; rintro e w7 ⟨rfl, g7⟩; have g7 : Gr W3 w7 := g6.trans g7)
  go_ret
  exact ⟨by rw [← HE.out, HN.out]; rfl, GF.out.trans (by first | exact g7 | exact g6 | exact g5 | exact g4 | exact Gr.refl _)⟩
end Go.Proofs.YtikaamonmaohjaaGreatDoor.Ir
