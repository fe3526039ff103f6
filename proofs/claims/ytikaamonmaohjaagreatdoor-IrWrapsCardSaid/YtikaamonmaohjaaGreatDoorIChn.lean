/- checkNode: may what a node has be? -/
import Derived.Test.YtikaamonmaohjaaGreatDoorICn1
import Derived.Test.YtikaamonmaohjaaGreatDoorICn2
import Derived.Test.YtikaamonmaohjaaGreatDoorICn3
import Derived.Test.YtikaamonmaohjaaGreatDoorICn4
import Derived.Test.YtikaamonmaohjaaGreatDoorICn5
import Derived.Test.YtikaamonmaohjaaGreatDoorICn6
import Derived.Test.YtikaamonmaohjaaGreatDoorICn7
namespace Go.Proofs.YtikaamonmaohjaaGreatDoor.Ir
open Go.RowKit
set_option maxRecDepth 100000
set_option maxHeartbeats 1000000

theorem chn_0 (d : Nf) (p : Np) (nk : Nat) (w : World) (h : Nw w d p nk) (hl : Lt w) (hm : d.m.length ≤ 1099511627776) (hnk0 : okK d.k = true → ¬ (nk : Int) = kdN d.k) :
    Calls Tryz.prog 20 #[.agg (nV d p nk).toArray] w fun e w' => e = .returned (.int .i64 (errN d nk)) ∧ Gr w w' := by
  obtain ⟨W1, hW1, g1, hb1, -, hsz⟩ := nbox w (nV d p nk) 31
  obtain ⟨P, hP⟩ : ∃ P, w.heap.size = P := ⟨_, rfl⟩
  rw [hP] at hb1 hsz
  have HP := Lib.hid hP; have HW1 := Lib.hid hW1; have HG1 := Lib.hid g1
  have hw1 := h.gr g1
  have HL := Lib.hid (hl.gr g1)
  obtain ⟨r, hr⟩ : ∃ r, errN d nk = r := ⟨_, rfl⟩
  have HE : Hid (errN d nk = r) := Lib.hid hr
  rw [hr]
  have CSh := Lib.hid (shape_any d p nk W1)
  have HB1 := Lib.hid hb1
  have HWN := Lib.hid hw1
  have hk1 := h.b.k1
  have hk2 := h.b.k2
  clear hW1 g1 hP h hl hr hb1 hw1
  go_enter Tryz.func20, Tryz.ntmps20
  go_upto_region 1 with fail
  rw [HW1.out, HP.out]
  have hb1 := HB1.out
  go_wp2_with (refine load_node rfl (.tmp 1) rfl _ _ rfl hb1 ?_)
  refine CSh.out.mono ?_
  rintro e w2 ⟨rfl, g2⟩
  obtain ⟨W3, hW3, g3, hb3⟩ := fresh w2 (shKV d.k d.fn) 77
  have HW3 := Lib.hid hW3
  have hG3 : Gr W1 W3 := g2.trans g3
  obtain ⟨S, hSz⟩ : ∃ S, w2.heap.size = S := ⟨_, rfl⟩
  rw [hSz] at hb3
  have HS := Lib.hid hSz
  have HRG : Hid (W3.rangeAt S 0 (shKV d.k d.fn).toList) := Lib.hid (fun j v hv => by rw [Nat.zero_add]; exact hb3 j v (by simpa using hv))
  have b1 := hb3 1 (.bool (hF d.k)) rfl
  have b2 := hb3 2 (.bool (hM d.k)) rfl
  have b6 := hb3 6 (.bool (hG d.k)) rfl
  have b7 := hb3 7 (.bool (hX d.k)) rfl
  have b9 := hb3 9 (.bool (hLb d.k)) rfl
  have b10 := hb3 10 (.int .i64 (kdN d.k)) rfl
  obtain ⟨-, -, -, a3, -, -, -, a7, a8, a9, a10, a11, a12, -, a14, a15, a16⟩ := (hb1.gr hG3).all
  simp only [Nat.zero_add] at a3 a7 a8 a9 a10 a11 a12 a14 a15 a16
  have HB : Hid (∀ W, Gr W3 W → CellsAt W P 0 (nV d p nk)) := Lib.hid (fun W g => hb1.gr (hG3.trans g))
  have HR : Hid (∀ W, Gr W3 W → W.rangeAt S 0 (shKV d.k d.fn).toList) := Lib.hid (fun W g j v hv => by have := HRG.out j v hv; rw [Nat.zero_add] at this ⊢; exact g.cell this)
  have hwn := HWN.out.gr hG3
  have GF : Hid (Gr w W3) := Lib.hid (HG1.out.trans hG3)
  have CM : Hid (∀ W, Gr W3 W → Calls Tryz.prog 38 #[.slice p.mA d.m.length p.mC] W fun e w' => e = .returned (.int .i64 (checkA d.m)) ∧ Gr W w') := Lib.hid (fun W g => mcheck_any p.mA d.m p.mC W (hwn.m.gr g) hwn.b.wm hm)
  have CT : Hid (∀ W, Calls Tryz.prog 39 #[.agg (nV d p nk).toArray, .agg (shKV d.k d.fn)] W fun e w' => e = .returned (.int .i64 (tmE (hO d.k) (hL d.k) (hS d.k) d.of d.rg d.st)) ∧ Gr W w') := Lib.hid (fun W => times_any _ _ _ _ _ _ _ _ _ _ _ d p nk W)
  have CF : Hid (∀ W, Gr W3 W → hF d.k = true → Calls Tryz.prog 40 #[.agg (nV d p nk).toArray] W fun e w' => e = .returned (.bool (fnB d.k d.fn)) ∧ Gr W w') := Lib.hid (fun W g hf => isFun_any d p nk W ((HL.out.gr hG3).gr g) (hF_k hf))
  have CJ : Hid (∀ W, Gr W3 W → Calls Tryz.prog 41 #[.agg #[.int .i64 d.xh, .slice p.xA d.xn.length p.xC, .int .i64 d.card, .slice p.iA d.inc.length p.iC]] W fun e w' => e = .returned (.int .i64 (ckV (chkM d.card d.xh d.xn d.inc))) ∧ Gr W w') := Lib.hid (fun W g => jcheck_any d.card d.xh p.xA p.iA d.xn d.inc p.xC p.iC W (hwn.x.gr g) (hwn.i.gr g) hwn.b.x1 (by have := hwn.b.x2; unfold maxLen; omega) hwn.b.wx hwn.b.i1 (by have := hwn.b.i2; unfold maxLen; omega) hwn.b.wi)
  have CG : Hid (∀ W, Gr W3 W → Calls Tryz.prog 42 #[.agg #[.int .i64 d.gh, .slice p.gA d.gn.length p.gC]] W fun e w' => e = .returned (.int .i64 (ckV (chkG d.gh d.gn))) ∧ Gr W w') := Lib.hid (fun W g => check_any p.gA d.gn p.gC d.gh W (hwn.g.gr g) hwn.b.g1 (by have := hwn.b.g2; unfold maxLen; omega) hwn.b.wg)
  have CN : Hid (∀ W, Calls Tryz.prog 43 #[.string d.name] W fun e w' => e = .returned (.bool (nameB d.name)) ∧ W = w') := Lib.hid (fun W => name_any d.name W hwn.b.nm)
  have hvl := hwn.b.vl
  unfold maxLen at hvl
  have HNK := Lib.hid hnk0
  clear hnk0
  have HF0 : Hid (hF d.k = true → hF d.k = true) := Lib.hid id
  obtain ⟨gA, hgA⟩ : ∃ x, p.gA = x := ⟨_, rfl⟩
  have HIK := Lib.hid hwn.b
  clear hwn hW3 hSz hb3 g2 g3 HRG hG3 hb1 hgA CSh
  go_upto_region 2 with (refine store_shape rfl (.tmp 3) (.tmp 10) rfl w2.heap.size rfl rfl rfl rfl rfl (sh_one _ _) ?_)
  rw [HW3.out, HS.out]
  cases hok : okK d.k
  · have HN : Hid (errN d nk = 1) := Lib.hid (by unfold errN; rw [if_pos (.inl hok)])
    clear hok
    go_wp2
    go_ret
    exact ⟨by rw [← HE.out, HN.out]; rfl, GF.out⟩
  · have hnk := HNK.out hok
    have HN : Hid (errN d nk = 1) := Lib.hid (by unfold errN; rw [if_pos (.inr hnk)])
    obtain ⟨kk, hkk⟩ : ∃ x, kdN d.k = x := ⟨_, rfl⟩
    rw [hkk] at hnk b10
    have hne : ((nk : Int) == kk) = false := by simpa using hnk
    clear hnk hkk hok
    go_wp2
    go_ret
    exact ⟨by rw [← HE.out, HN.out]; rfl, GF.out⟩
theorem chn_any (d : Nf) (p : Np) (nk : Nat) (w : World) (h : Nw w d p nk) (hl : Lt w) (hm : d.m.length ≤ 1099511627776) :
    Calls Tryz.prog 20 #[.agg (nV d p nk).toArray] w fun e w' => e = .returned (.int .i64 (errN d nk)) ∧ Gr w w' := by
  by_cases hok : okK d.k = true
  · by_cases hnk : (nk : Int) = kdN d.k
    · rcases kind_ways hok with e | e | e | e | e | e | e
      · exact chn_1 d p nk w h hl hm hok hnk e
      · exact chn_2 d p nk w h hl hm hok hnk e
      · exact chn_3 d p nk w h hl hm hok hnk e
      · exact chn_4 d p nk w h hl hm hok hnk e
      · exact chn_5 d p nk w h hl hm hok hnk e
      · exact chn_6 d p nk w h hl hm hok hnk e
      · exact chn_7 d p nk w h hl hm hok hnk e
    · exact chn_0 d p nk w h hl hm (fun _ => hnk)
  · exact chn_0 d p nk w h hl hm (fun e => absurd e hok)
end Go.Proofs.YtikaamonmaohjaaGreatDoor.Ir
