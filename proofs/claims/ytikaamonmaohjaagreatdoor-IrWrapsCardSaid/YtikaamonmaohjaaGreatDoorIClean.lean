/- Clean, of a node that has no more than its kind has. -/
import Derived.Test.YtikaamonmaohjaaGreatDoorIKept
import Derived.Test.YtikaamonmaohjaaGreatDoorITxt
import Derived.Test.YtikaamonmaohjaaGreatDoorIClL
import Derived.Test.YtikaamonmaohjaaGreatDoorIRng
import Derived.Test.YtikaamonmaohjaaGreatDoorIKno
import Derived.Deep.RegionHeld3
namespace Go.Proofs.YtikaamonmaohjaaGreatDoor.Ir
open Go.RowKit Go.Shelf Go.Sort
set_option maxRecDepth 100000
set_option maxHeartbeats 40000000
attribute [local irreducible] wpQuiet

/-- a node that has no more than its kind has -/
structure Cl (d : Nf) (nk : Nat) : Prop where
  num : d.num = 0
  fn : hF d.k = false → d.fn = 0
  m : hM d.k = false → d.m = []
  rg : hL d.k = false → d.rg = 0
  st : hS d.k = false → d.st = 0
  of : hO d.k = false → d.of = 0
  g : hG d.k = false → d.gh = 0 ∧ d.gn = []
  x : hX d.k = false → (d.xh = 0 ∧ d.xn = []) ∧ d.card = 0 ∧ d.inc = []
  fl : hX d.k = false → d.flag = false
  nm : hLb d.k = false → d.name = ⟨#[]⟩
  vl : hLb d.k = false → d.value = ⟨#[]⟩
  kd : kdM d.k nk = nk
theorem range_gr {W W' : World} {b o : Nat} {vs : List Value} (h : W.rangeAt b o vs) (g : Gr W W') : W'.rangeAt b o vs := fun i v e => g.cell (h i v e)
theorem kids_id (d : Nf) (p : Np) (nk : Nat) (k fn : Int) (w : World) (h1 : nk ≤ p.kC) (h2 : p.kC ≤ 9223372036854775807) (h3 : p.kA = none → nk = 0) (h4 : kdM k nk = nk) :
    Calls Tryz.prog 65 #[.agg (shKV k fn), .agg (nV d p nk).toArray] w fun e w' => e = .returned (.slice p.kA nk p.kC) ∧ Gr w w' := by
  have := kids_any d p nk k fn w h1 h2 h3
  rwa [h4] at this
theorem each_id (A : Option Addr) (c : Nat) (ks : List Tr) (w : World) (hk : 0 < ks.length → ∃ b o, A = some ⟨b, o, none⟩ ∧ KidsAt w b o ks) (hlen : ks.length ≤ 1000) (hF : ∀ t ∈ ks, Chg 27 id w t) :
    Calls Tryz.prog 81 #[.slice A ks.length c, .func (.func 27) #[] #[]] w (FrK ks w) := by
  have eg : ∀ args w, (callFunc 27 args).run Tryz.prog w = .ok (.enter 27 args) w := enters_of Tryz.func27 (by kernel_rfl) rfl
  have := each_any 27 eg id A c ks w hk hlen hF
  rwa [List.map_id] at this
theorem clean_step (d : Nf) (ks : List Tr) (p : Np) (w : World) (h : TrP w (.mk d ks) p) (hc : Cl d ks.length) (ho : d.m.length ≤ 1000 ∧ d.gn.length ≤ 1000 ∧ d.xn.length ≤ 1000 ∧ d.inc.length ≤ 1000 ∧ ks.length ≤ 1000) (hks : ∀ t ∈ ks, Chg 27 id w t) :
    Calls Tryz.prog 27 #[.agg (nV d p ks.length).toArray] w (FrT (.mk d ks) w) := by
  have hres : Tryz.f27.results = #[.cell 2 31] := by kernel_rfl
  obtain ⟨W1, hW1, g1, b1, s1⟩ := ibox w (nV d p ks.length).toArray 31
  obtain ⟨W2, hW2, g2, b2, s2⟩ := ibox W1 (nV d0 pNil 0).toArray 31
  have hg := g1.trans g2
  rw [s1] at b2
  have hb := box_cells (hgr g2 b1)
  have hT2 := TrP.gr hg (.mk d ks) p h
  have CS := Lib.hid (shape_any d p ks.length W2)
  obtain ⟨N, hN⟩ : ∃ N, w.heap.size = N := ⟨_, rfl⟩
  rw [hN] at hb b2 s1
  have HG := Lib.hid hg; have HT2 := Lib.hid hT2; have HW1 := Lib.hid hW1; have HW2 := Lib.hid hW2; have HB2 := Lib.hid b2; have HBN := Lib.hid hb
  have HC := Lib.hid hc; have HO := Lib.hid ho; have HKS := Lib.hid hks
  have HS2 : Hid (W2.heap.size = N + 2) := Lib.hid (by omega)
  have HN := Lib.hid hN
  clear h hc ho hks g1 b1 s1 g2 b2 s2 hg hT2 hW1 hW2 hN
  go_enter Tryz.func27, Tryz.ntmps27
  go_upto_region 1 with fail
  rw [HW1.out, show W1.alloc (.cells #[.int .i64 0, .float .f64 0, .int .i64 0, .slice none 0 0, .int .i64 0, .int .i64 0, .int .i64 0, .int .i64 0, .slice none 0 0, .int .i64 0, .slice none 0 0, .int .i64 0, .slice none 0 0, .bool false, .string ⟨#[]⟩, .string ⟨#[]⟩, .slice none 0 0] 31) = W2 from HW2.out, HN.out]
  go_wp2_with (first
    | (refine load_node rfl (.tmp 1) rfl _ _ rfl hb ?_)
    | fail)
  refine CS.out.mono ?_
  rintro e w3 ⟨rfl, g3⟩
  obtain ⟨W5, hW5⟩ : ∃ W5, w3.alloc (.cells (shKV d.k d.fn) 77) = W5 := ⟨_, rfl⟩
  have g5 : Gr w3 W5 := by rw [← hW5]; exact (Gr.refl w3).alloc _ _
  obtain ⟨B, hB⟩ : ∃ B, w3.heap.size = B := ⟨_, rfl⟩
  have hsr : W5.rangeAt B 0 (shKV d.k d.fn).toList := by
    intro i v e
    rw [← hW5, ← hB, World.cell?_alloc_at _ _ _ _ (by simp), Nat.zero_add]
    simpa using e
  have HBG : Hid (N + 2 ≤ B) := Lib.hid (by have := g3.size; have := HS2.out; omega)
  have HW5a := Lib.hid hW5; have HB := Lib.hid hB
  have HG5 := Lib.hid (HG.out.trans (g3.trans g5))
  have hT5 := TrP.gr (g3.trans g5) (.mk d ks) p HT2.out
  have hw0 := hb.gr (g3.trans g5)
  have HB5 := Lib.hid (hgr (g3.trans g5) HB2.out)
  have HSZ : Hid (N + 2 ≤ W5.heap.size) := Lib.hid (by have := (g3.trans g5).size; have := HS2.out; omega)
  have HW5 := Lib.hid hT5.w
  have HKD : Hid (∀ W, Gr W5 W → 0 < ks.length → ∃ b o, p.kA = some ⟨b, o, none⟩ ∧ KidsAt W b o ks) := Lib.hid (fun W g h0 => by
    have hx := TrP.gr g (.mk d ks) p hT5
    unfold TrP at hx
    exact hx.2 h0)
  have HKA : Hid (p.kA = none → ks.length = 0) := Lib.hid (fun hn => by
    rcases Nat.eq_zero_or_pos ks.length with e | e
    · exact e
    · obtain ⟨b, o, e', -⟩ := HKD.out W5 (Gr.refl _) e
      rw [hn] at e'; cases e')
  clear hT5 g3 g5 hW5 hB hb CS
  go_upto_region 2 with (refine store_shape rfl (.tmp 3) (.tmp 8) rfl w3.heap.size rfl rfl rfl rfl rfl (sh_one _ _) ?_; rw [HW5a.out, HB.out])
  have Ckf := Lib.hid (fun W (_ : Gr W5 W) => kept_float (hN d.k d.fn) d.num W (fun _ => HC.out.num))
  have Ccn := Lib.hid (show ∀ W, Gr W5 W → Calls Tryz.prog 71 #[.float .f64 d.num] W fun e w' => e = .returned (.float .f64 d.num) ∧ Gr W w' from fun W _ => by rw [HC.out.num]; exact canon_zero W)
  have Cfn := Lib.hid (fun W (_ : Gr W5 W) => kept_int (hF d.k) d.fn W HC.out.fn)
  have Ckm := Lib.hid (fun W (g : Gr W5 W) => kept_mats (hM d.k) p.mA d.m p.mC W (HW5.out.m.gr g) HC.out.m)
  have Ccm := Lib.hid (fun W A c (h : MatsAt W A d.m) => mclone A c d.m W h (by have := HO.out.1; omega))
  have Crg := Lib.hid (fun W (_ : Gr W5 W) => kept_int (hL d.k) d.rg W HC.out.rg)
  have Cst := Lib.hid (fun W (_ : Gr W5 W) => kept_int (hS d.k) d.st W HC.out.st)
  have Cof := Lib.hid (fun W (_ : Gr W5 W) => kept_int (hO d.k) d.of W HC.out.of)
  have Ckg := Lib.hid (fun W (g : Gr W5 W) => kept_grp (hG d.k) d.gh p.gA d.gn p.gC W (HW5.out.g.gr g) HC.out.g)
  have Ccg := Lib.hid (fun W A c (h : StrsAt W A d.gn) => cgroup d.gh A c d.gn W h (by have := HO.out.2.1; omega))
  have Ckx := Lib.hid (fun W (g : Gr W5 W) => kept_mch (hX d.k) d.xh p.xA d.xn p.xC d.card p.iA d.inc p.iC W (HW5.out.x.gr g) (HW5.out.i.gr g) HC.out.x)
  have Ccx := Lib.hid (fun W A c B e (h : StrsAt W A d.xn) (h' : StrsAt W B d.inc) => cmatch d.xh A c d.xn d.card B e d.inc W h (by have := HO.out.2.2.1; omega) h' (by have := HO.out.2.2.2.1; omega))
  have Ckb := Lib.hid (fun W (_ : Gr W5 W) => kept_bool (hX d.k) d.flag W HC.out.fl)
  have Cnm := Lib.hid (fun W (_ : Gr W5 W) => kept_str (hLb d.k) d.name W HC.out.nm)
  have Cvl := Lib.hid (fun W (_ : Gr W5 W) => kept_str (hLb d.k) d.value W HC.out.vl)
  have Ckk := Lib.hid (show ∀ W, Gr W5 W → Calls Tryz.prog 65 #[.agg #[.bool (hN d.k d.fn), .bool (hF d.k), .bool (hM d.k), .bool (hL d.k), .bool (hS d.k), .bool (hO d.k), .bool (hG d.k), .bool (hX d.k), .bool (hX d.k), .bool (hLb d.k), .int .i64 (kdN d.k)], .agg #[.int .i64 d.k, .float .f64 d.num, .int .i64 d.fn, .slice p.mA d.m.length p.mC, .int .i64 d.rg, .int .i64 d.st, .int .i64 d.of, .int .i64 d.gh, .slice p.gA d.gn.length p.gC, .int .i64 d.xh, .slice p.xA d.xn.length p.xC, .int .i64 d.card, .slice p.iA d.inc.length p.iC, .bool d.flag, .string d.name, .string d.value, .slice p.kA ks.length p.kC]] W fun e w' => e = .returned (.slice p.kA ks.length p.kC) ∧ Gr W w' from fun W _ => kids_id d p ks.length d.k d.fn W HW5.out.b.k1 HW5.out.b.k2 HKA.out HC.out.kd)
  have Cea := Lib.hid (fun W (g : Gr W5 W) => each_id p.kA p.kC ks W (HKD.out W g) (by have := HO.out.2.2.2.2; omega) (fun t ht p' W' g' hT => HKS.out t ht p' W' ((HG5.out.trans g).trans g') hT))
  have HBX : Hid (∀ W, Gr W5 W → (fun w' => CellsAt w' N 0 (nV d p ks.length) ∧ w'.rangeAt B 0 (shKV d.k d.fn).toList) W) := Lib.hid (fun W g => ⟨hw0.gr g, range_gr hsr g⟩)
  have e0 : ∀ args w, (callFunc 72 args).run Tryz.prog w = .ok (.enter 72 args) w := enters_of Tryz.func72 (by kernel_rfl) rfl
  have e1 : ∀ args w, (callFunc 71 args).run Tryz.prog w = .ok (.enter 71 args) w := enters_of Tryz.func71 (by kernel_rfl) rfl
  have e2 : ∀ args w, (callFunc 44 args).run Tryz.prog w = .ok (.enter 44 args) w := enters_of Tryz.func44 (by kernel_rfl) rfl
  have e3 : ∀ args w, (callFunc 74 args).run Tryz.prog w = .ok (.enter 74 args) w := enters_of Tryz.func74 (by kernel_rfl) rfl
  have e4 : ∀ args w, (callFunc 73 args).run Tryz.prog w = .ok (.enter 73 args) w := enters_of Tryz.func73 (by kernel_rfl) rfl
  have e5 : ∀ args w, (callFunc 76 args).run Tryz.prog w = .ok (.enter 76 args) w := enters_of Tryz.func76 (by kernel_rfl) rfl
  have e6 : ∀ args w, (callFunc 75 args).run Tryz.prog w = .ok (.enter 75 args) w := enters_of Tryz.func75 (by kernel_rfl) rfl
  have e7 : ∀ args w, (callFunc 78 args).run Tryz.prog w = .ok (.enter 78 args) w := enters_of Tryz.func78 (by kernel_rfl) rfl
  have e8 : ∀ args w, (callFunc 77 args).run Tryz.prog w = .ok (.enter 77 args) w := enters_of Tryz.func77 (by kernel_rfl) rfl
  have e9 : ∀ args w, (callFunc 79 args).run Tryz.prog w = .ok (.enter 79 args) w := enters_of Tryz.func79 (by kernel_rfl) rfl
  have e10 : ∀ args w, (callFunc 80 args).run Tryz.prog w = .ok (.enter 80 args) w := enters_of Tryz.func80 (by kernel_rfl) rfl
  have e11 : ∀ args w, (callFunc 65 args).run Tryz.prog w = .ok (.enter 65 args) w := enters_of Tryz.func65 (by kernel_rfl) rfl
  have e12 : ∀ args w, (callFunc 81 args).run Tryz.prog w = .ok (.enter 81 args) w := enters_of Tryz.func81 (by kernel_rfl) rfl
  have hBN : B ≠ N + 1 := by have := HBG.out; omega
  clear hw0 hsr
  have GD : Gr W5 W5.drew := (Gr.refl W5).drew
  go_wp2_with fail
  show (Code.region 2 (opsOf Tryz.f27 2) true).wp _ _ _ _
  refine wp_plan (plan := planC) (S := fun w' => CellsAt w' N 0 (nV d p ks.length) ∧ w'.rangeAt B 0 (shKV d.k d.fn).toList) (by kernel_rfl) opsC_sel planC_ok (by rw [opsC_size]; decide) (fun _ _ d _ _ h => by cases d <;> exact h) (HBX.out _ GD) ?_
  show wpPlan _ _ _ _ [(0, true), (1, true), (2, true), (3, true), (4, true), (5, true), (8, true), (9, true), (10, true), (11, true), (13, true), (14, true), (15, true), (16, true), (19, true), (20, true), (21, true), (22, true), (24, true), (25, true), (26, true), (27, true), (29, true), (30, true), (31, true), (32, true), (34, true), (35, true), (36, true), (37, true), (40, true), (41, true), (42, true), (43, true), (46, true), (47, true), (48, true), (49, true), (51, true), (52, true), (53, true), (54, true), (56, true), (57, true), (58, true), (59, true), (61, true), (62, true), (6, false), (7, false), (12, false), (17, false), (18, false), (23, false), (28, false), (33, false), (38, false), (39, false), (44, false), (45, false), (50, false), (55, false), (60, false), (63, false), (64, false), (65, true), (66, false)] _ _
  refine plan_take (some 10) rfl rfl rfl (fun w _ => x_field rfl rfl (faN_0 _ w)) ?_
  simp only [Act.put, List.setIfInBounds_toArray, List.set_cons_zero, List.set_cons_succ]
  refine plan_take (some 11) rfl rfl rfl (fun w hS => x_load rfl rfl (ld_int w (hS.1 0 _ rfl))) ?_
  simp only [Act.put, List.setIfInBounds_toArray, List.set_cons_zero, List.set_cons_succ]
  refine plan_take (some 12) rfl rfl rfl (fun w _ => x_field rfl rfl (faS_0 _ w)) ?_
  simp only [Act.put, List.setIfInBounds_toArray, List.set_cons_zero, List.set_cons_succ]
  refine plan_take (some 13) rfl rfl rfl (fun w hS => x_load rfl rfl (ld_bool w (hS.2 0 _ rfl))) ?_
  simp only [Act.put, List.setIfInBounds_toArray, List.set_cons_zero, List.set_cons_succ]
  refine plan_take (some 14) rfl rfl rfl (fun w _ => x_field rfl rfl (faN_1 _ w)) ?_
  simp only [Act.put, List.setIfInBounds_toArray, List.set_cons_zero, List.set_cons_succ]
  refine plan_take (some 15) rfl rfl rfl (fun w hS => x_load rfl rfl (ld_float w (hS.1 1 _ rfl))) ?_
  simp only [Act.put, List.setIfInBounds_toArray, List.set_cons_zero, List.set_cons_succ]
  refine plan_take (some 18) rfl rfl rfl (fun w _ => x_field rfl rfl (faS_1 _ w)) ?_
  simp only [Act.put, List.setIfInBounds_toArray, List.set_cons_zero, List.set_cons_succ]
  refine plan_take (some 19) rfl rfl rfl (fun w hS => x_load rfl rfl (ld_bool w (hS.2 1 _ rfl))) ?_
  simp only [Act.put, List.setIfInBounds_toArray, List.set_cons_zero, List.set_cons_succ]
  refine plan_take (some 20) rfl rfl rfl (fun w _ => x_field rfl rfl (faN_2 _ w)) ?_
  simp only [Act.put, List.setIfInBounds_toArray, List.set_cons_zero, List.set_cons_succ]
  refine plan_take (some 21) rfl rfl rfl (fun w hS => x_load rfl rfl (ld_int w (hS.1 2 _ rfl))) ?_
  simp only [Act.put, List.setIfInBounds_toArray, List.set_cons_zero, List.set_cons_succ]
  refine plan_take (some 23) rfl rfl rfl (fun w _ => x_field rfl rfl (faS_2 _ w)) ?_
  simp only [Act.put, List.setIfInBounds_toArray, List.set_cons_zero, List.set_cons_succ]
  refine plan_take (some 24) rfl rfl rfl (fun w hS => x_load rfl rfl (ld_bool w (hS.2 2 _ rfl))) ?_
  simp only [Act.put, List.setIfInBounds_toArray, List.set_cons_zero, List.set_cons_succ]
  refine plan_take (some 25) rfl rfl rfl (fun w _ => x_field rfl rfl (faN_3 _ w)) ?_
  simp only [Act.put, List.setIfInBounds_toArray, List.set_cons_zero, List.set_cons_succ]
  refine plan_take (some 26) rfl rfl rfl (fun w hS => x_load rfl rfl (ld_mats w (hS.1 3 _ rfl))) ?_
  simp only [Act.put, List.setIfInBounds_toArray, List.set_cons_zero, List.set_cons_succ]
  refine plan_take (some 29) rfl rfl rfl (fun w _ => x_field rfl rfl (faS_3 _ w)) ?_
  simp only [Act.put, List.setIfInBounds_toArray, List.set_cons_zero, List.set_cons_succ]
  refine plan_take (some 30) rfl rfl rfl (fun w hS => x_load rfl rfl (ld_bool w (hS.2 3 _ rfl))) ?_
  simp only [Act.put, List.setIfInBounds_toArray, List.set_cons_zero, List.set_cons_succ]
  refine plan_take (some 31) rfl rfl rfl (fun w _ => x_field rfl rfl (faN_4 _ w)) ?_
  simp only [Act.put, List.setIfInBounds_toArray, List.set_cons_zero, List.set_cons_succ]
  refine plan_take (some 32) rfl rfl rfl (fun w hS => x_load rfl rfl (ld_int w (hS.1 4 _ rfl))) ?_
  simp only [Act.put, List.setIfInBounds_toArray, List.set_cons_zero, List.set_cons_succ]
  refine plan_take (some 34) rfl rfl rfl (fun w _ => x_field rfl rfl (faS_4 _ w)) ?_
  simp only [Act.put, List.setIfInBounds_toArray, List.set_cons_zero, List.set_cons_succ]
  refine plan_take (some 35) rfl rfl rfl (fun w hS => x_load rfl rfl (ld_bool w (hS.2 4 _ rfl))) ?_
  simp only [Act.put, List.setIfInBounds_toArray, List.set_cons_zero, List.set_cons_succ]
  refine plan_take (some 36) rfl rfl rfl (fun w _ => x_field rfl rfl (faN_5 _ w)) ?_
  simp only [Act.put, List.setIfInBounds_toArray, List.set_cons_zero, List.set_cons_succ]
  refine plan_take (some 37) rfl rfl rfl (fun w hS => x_load rfl rfl (ld_int w (hS.1 5 _ rfl))) ?_
  simp only [Act.put, List.setIfInBounds_toArray, List.set_cons_zero, List.set_cons_succ]
  refine plan_take (some 39) rfl rfl rfl (fun w _ => x_field rfl rfl (faS_5 _ w)) ?_
  simp only [Act.put, List.setIfInBounds_toArray, List.set_cons_zero, List.set_cons_succ]
  refine plan_take (some 40) rfl rfl rfl (fun w hS => x_load rfl rfl (ld_bool w (hS.2 5 _ rfl))) ?_
  simp only [Act.put, List.setIfInBounds_toArray, List.set_cons_zero, List.set_cons_succ]
  refine plan_take (some 41) rfl rfl rfl (fun w _ => x_field rfl rfl (faN_6 _ w)) ?_
  simp only [Act.put, List.setIfInBounds_toArray, List.set_cons_zero, List.set_cons_succ]
  refine plan_take (some 42) rfl rfl rfl (fun w hS => x_load rfl rfl (ld_int w (hS.1 6 _ rfl))) ?_
  simp only [Act.put, List.setIfInBounds_toArray, List.set_cons_zero, List.set_cons_succ]
  refine plan_take (some 44) rfl rfl rfl (fun w _ => x_field rfl rfl (faS_6 _ w)) ?_
  simp only [Act.put, List.setIfInBounds_toArray, List.set_cons_zero, List.set_cons_succ]
  refine plan_take (some 45) rfl rfl rfl (fun w hS => x_load rfl rfl (ld_bool w (hS.2 6 _ rfl))) ?_
  simp only [Act.put, List.setIfInBounds_toArray, List.set_cons_zero, List.set_cons_succ]
  refine plan_take (some 46) rfl rfl rfl (fun w _ => x_field rfl rfl (faN_7 _ w)) ?_
  simp only [Act.put, List.setIfInBounds_toArray, List.set_cons_zero, List.set_cons_succ]
  refine plan_take (some 47) rfl rfl rfl (fun w hS => x_load rfl rfl (ld_grp w (range2 (hS.1 7 _ rfl) (hS.1 8 _ rfl)))) ?_
  simp only [Act.put, List.setIfInBounds_toArray, List.set_cons_zero, List.set_cons_succ]
  refine plan_take (some 50) rfl rfl rfl (fun w _ => x_field rfl rfl (faS_7 _ w)) ?_
  simp only [Act.put, List.setIfInBounds_toArray, List.set_cons_zero, List.set_cons_succ]
  refine plan_take (some 51) rfl rfl rfl (fun w hS => x_load rfl rfl (ld_bool w (hS.2 7 _ rfl))) ?_
  simp only [Act.put, List.setIfInBounds_toArray, List.set_cons_zero, List.set_cons_succ]
  refine plan_take (some 52) rfl rfl rfl (fun w _ => x_field rfl rfl (faN_8 _ w)) ?_
  simp only [Act.put, List.setIfInBounds_toArray, List.set_cons_zero, List.set_cons_succ]
  refine plan_take (some 53) rfl rfl rfl (fun w hS => x_load rfl rfl (ld_mch w (range4 (hS.1 9 _ rfl) (hS.1 10 _ rfl) (hS.1 11 _ rfl) (hS.1 12 _ rfl)))) ?_
  simp only [Act.put, List.setIfInBounds_toArray, List.set_cons_zero, List.set_cons_succ]
  refine plan_take (some 56) rfl rfl rfl (fun w _ => x_field rfl rfl (faS_8 _ w)) ?_
  simp only [Act.put, List.setIfInBounds_toArray, List.set_cons_zero, List.set_cons_succ]
  refine plan_take (some 57) rfl rfl rfl (fun w hS => x_load rfl rfl (ld_bool w (hS.2 8 _ rfl))) ?_
  simp only [Act.put, List.setIfInBounds_toArray, List.set_cons_zero, List.set_cons_succ]
  refine plan_take (some 58) rfl rfl rfl (fun w _ => x_field rfl rfl (faN_9 _ w)) ?_
  simp only [Act.put, List.setIfInBounds_toArray, List.set_cons_zero, List.set_cons_succ]
  refine plan_take (some 59) rfl rfl rfl (fun w hS => x_load rfl rfl (ld_bool w (hS.1 13 _ rfl))) ?_
  simp only [Act.put, List.setIfInBounds_toArray, List.set_cons_zero, List.set_cons_succ]
  refine plan_take (some 61) rfl rfl rfl (fun w _ => x_field rfl rfl (faS_9 _ w)) ?_
  simp only [Act.put, List.setIfInBounds_toArray, List.set_cons_zero, List.set_cons_succ]
  refine plan_take (some 62) rfl rfl rfl (fun w hS => x_load rfl rfl (ld_bool w (hS.2 9 _ rfl))) ?_
  simp only [Act.put, List.setIfInBounds_toArray, List.set_cons_zero, List.set_cons_succ]
  refine plan_take (some 63) rfl rfl rfl (fun w _ => x_field rfl rfl (faN_10 _ w)) ?_
  simp only [Act.put, List.setIfInBounds_toArray, List.set_cons_zero, List.set_cons_succ]
  refine plan_take (some 64) rfl rfl rfl (fun w hS => x_load rfl rfl (ld_str w (hS.1 14 _ rfl))) ?_
  simp only [Act.put, List.setIfInBounds_toArray, List.set_cons_zero, List.set_cons_succ]
  refine plan_take (some 66) rfl rfl rfl (fun w _ => x_field rfl rfl (faS_9 _ w)) ?_
  simp only [Act.put, List.setIfInBounds_toArray, List.set_cons_zero, List.set_cons_succ]
  refine plan_take (some 67) rfl rfl rfl (fun w hS => x_load rfl rfl (ld_bool w (hS.2 9 _ rfl))) ?_
  simp only [Act.put, List.setIfInBounds_toArray, List.set_cons_zero, List.set_cons_succ]
  refine plan_take (some 68) rfl rfl rfl (fun w _ => x_field rfl rfl (faN_11 _ w)) ?_
  simp only [Act.put, List.setIfInBounds_toArray, List.set_cons_zero, List.set_cons_succ]
  refine plan_take (some 69) rfl rfl rfl (fun w hS => x_load rfl rfl (ld_str w (hS.1 15 _ rfl))) ?_
  simp only [Act.put, List.setIfInBounds_toArray, List.set_cons_zero, List.set_cons_succ]
  refine plan_take (some 71) rfl rfl rfl (fun w hS => x_load rfl rfl (ld_shape w hS.2)) ?_
  simp only [Act.put, List.setIfInBounds_toArray, List.set_cons_zero, List.set_cons_succ]
  refine plan_take (some 72) rfl rfl rfl (fun w hS => x_load rfl rfl (ld_node w hS.1)) ?_
  simp only [Act.put, List.setIfInBounds_toArray, List.set_cons_zero, List.set_cons_succ]
  refine plan_op rfl rfl (x_call (some 16) rfl rfl (by simp only [List.map_toArray, List.map_cons, List.map_nil]; rfl) e0 (Ckf.out _ GD) ?_)
  rintro e k1 ⟨rfl, h1⟩
  have G1 := GD.trans h1
  refine ⟨_, rfl, HBX.out _ G1, ?_⟩
  simp only [Act.put, List.setIfInBounds_toArray, List.set_cons_zero, List.set_cons_succ]
  refine plan_op rfl rfl (x_call (some 17) rfl rfl (by simp only [List.map_toArray, List.map_cons, List.map_nil]; rfl) e1 (Ccn.out _ G1) ?_)
  rintro e k2 ⟨rfl, h2⟩
  have G2 := G1.trans h2
  refine ⟨_, rfl, HBX.out _ G2, ?_⟩
  simp only [Act.put, List.setIfInBounds_toArray, List.set_cons_zero, List.set_cons_succ]
  refine plan_op rfl rfl (x_call (some 22) rfl rfl (by simp only [List.map_toArray, List.map_cons, List.map_nil]; rfl) e2 (Cfn.out _ G2) ?_)
  rintro e k3 ⟨rfl, h3⟩
  have G3 := G2.trans h3
  refine ⟨_, rfl, HBX.out _ G3, ?_⟩
  simp only [Act.put, List.setIfInBounds_toArray, List.set_cons_zero, List.set_cons_succ]
  refine plan_op rfl rfl (x_call (some 27) rfl rfl (by simp only [List.map_toArray, List.map_cons, List.map_nil]; rfl) e3 (Ckm.out _ G3) ?_)
  rintro e k4 ⟨mA0, mC0, rfl, h4, m0⟩
  have G4 := G3.trans h4
  refine ⟨_, rfl, HBX.out _ G4, ?_⟩
  simp only [Act.put, List.setIfInBounds_toArray, List.set_cons_zero, List.set_cons_succ]
  refine plan_op rfl rfl (x_call (some 28) rfl rfl (by simp only [List.map_toArray, List.map_cons, List.map_nil]; rfl) e4 (Ccm.out _ _ _ m0) ?_)
  rintro e k5 ⟨mA', mC', rfl, m1, m2, h5, m3⟩
  have G5 := G4.trans h5
  refine ⟨_, rfl, HBX.out _ G5, ?_⟩
  simp only [Act.put, List.setIfInBounds_toArray, List.set_cons_zero, List.set_cons_succ]
  refine plan_op rfl rfl (x_call (some 33) rfl rfl (by simp only [List.map_toArray, List.map_cons, List.map_nil]; rfl) e2 (Crg.out _ G5) ?_)
  rintro e k6 ⟨rfl, h6⟩
  have G6 := G5.trans h6
  refine ⟨_, rfl, HBX.out _ G6, ?_⟩
  simp only [Act.put, List.setIfInBounds_toArray, List.set_cons_zero, List.set_cons_succ]
  refine plan_op rfl rfl (x_call (some 38) rfl rfl (by simp only [List.map_toArray, List.map_cons, List.map_nil]; rfl) e2 (Cst.out _ G6) ?_)
  rintro e k7 ⟨rfl, h7⟩
  have G7 := G6.trans h7
  refine ⟨_, rfl, HBX.out _ G7, ?_⟩
  simp only [Act.put, List.setIfInBounds_toArray, List.set_cons_zero, List.set_cons_succ]
  refine plan_op rfl rfl (x_call (some 43) rfl rfl (by simp only [List.map_toArray, List.map_cons, List.map_nil]; rfl) e2 (Cof.out _ G7) ?_)
  rintro e k8 ⟨rfl, h8⟩
  have G8 := G7.trans h8
  refine ⟨_, rfl, HBX.out _ G8, ?_⟩
  simp only [Act.put, List.setIfInBounds_toArray, List.set_cons_zero, List.set_cons_succ]
  refine plan_op rfl rfl (x_call (some 48) rfl rfl (by simp only [List.map_toArray, List.map_cons, List.map_nil]; rfl) e5 (Ckg.out _ G8) ?_)
  rintro e k9 ⟨gA0, gC0, rfl, h9, g0⟩
  have G9 := G8.trans h9
  refine ⟨_, rfl, HBX.out _ G9, ?_⟩
  simp only [Act.put, List.setIfInBounds_toArray, List.set_cons_zero, List.set_cons_succ]
  refine plan_op rfl rfl (x_call (some 49) rfl rfl (by simp only [List.map_toArray, List.map_cons, List.map_nil]; rfl) e6 (Ccg.out _ _ _ g0) ?_)
  rintro e k10 ⟨gA', gC', rfl, g1, g2, h10, g3⟩
  have G10 := G9.trans h10
  refine ⟨_, rfl, HBX.out _ G10, ?_⟩
  simp only [Act.put, List.setIfInBounds_toArray, List.set_cons_zero, List.set_cons_succ]
  refine plan_op rfl rfl (x_call (some 54) rfl rfl (by simp only [List.map_toArray, List.map_cons, List.map_nil]; rfl) e7 (Ckx.out _ G10) ?_)
  rintro e k11 ⟨xA0, xC0, iA0, iC0, rfl, h11, x0, i0⟩
  have G11 := G10.trans h11
  refine ⟨_, rfl, HBX.out _ G11, ?_⟩
  simp only [Act.put, List.setIfInBounds_toArray, List.set_cons_zero, List.set_cons_succ]
  refine plan_op rfl rfl (x_call (some 55) rfl rfl (by simp only [List.map_toArray, List.map_cons, List.map_nil]; rfl) e8 (Ccx.out _ _ _ _ _ x0 i0) ?_)
  rintro e k12 ⟨xA', xC', iA', iC', rfl, x1, x2, i1, i2, h12, x3, i3⟩
  have G12 := G11.trans h12
  refine ⟨_, rfl, HBX.out _ G12, ?_⟩
  simp only [Act.put, List.setIfInBounds_toArray, List.set_cons_zero, List.set_cons_succ]
  refine plan_op rfl rfl (x_call (some 60) rfl rfl (by simp only [List.map_toArray, List.map_cons, List.map_nil]; rfl) e9 (Ckb.out _ G12) ?_)
  rintro e k13 ⟨rfl, h13⟩
  have G13 := G12.trans h13
  refine ⟨_, rfl, HBX.out _ G13, ?_⟩
  simp only [Act.put, List.setIfInBounds_toArray, List.set_cons_zero, List.set_cons_succ]
  refine plan_op rfl rfl (x_call (some 65) rfl rfl (by simp only [List.map_toArray, List.map_cons, List.map_nil]; rfl) e10 (Cnm.out _ G13) ?_)
  rintro e k14 ⟨rfl, h14⟩
  have G14 := G13.trans h14
  refine ⟨_, rfl, HBX.out _ G14, ?_⟩
  simp only [Act.put, List.setIfInBounds_toArray, List.set_cons_zero, List.set_cons_succ]
  refine plan_op rfl rfl (x_call (some 70) rfl rfl (by simp only [List.map_toArray, List.map_cons, List.map_nil]; rfl) e10 (Cvl.out _ G14) ?_)
  rintro e k15 ⟨rfl, h15⟩
  have G15 := G14.trans h15
  refine ⟨_, rfl, HBX.out _ G15, ?_⟩
  simp only [Act.put, List.setIfInBounds_toArray, List.set_cons_zero, List.set_cons_succ]
  refine plan_op rfl rfl (x_call (some 73) rfl rfl (by simp only [List.map_toArray, List.map_cons, List.map_nil]; rfl) e11 (Ckk.out _ G15) ?_)
  rintro e k16 ⟨rfl, h16⟩
  have G16 := G15.trans h16
  refine ⟨_, rfl, HBX.out _ G16, ?_⟩
  simp only [Act.put, List.setIfInBounds_toArray, List.set_cons_zero, List.set_cons_succ]
  refine plan_op rfl rfl (x_call (some 74) rfl rfl (by simp only [List.map_toArray, List.map_cons, List.map_nil]; rfl) e12 (Cea.out _ G16) ?_)
  rintro e k17 ⟨kA', kC', rfl, k1, k2, h17, k3⟩
  have G17 := G16.trans h17
  refine ⟨_, rfl, HBX.out _ G17, ?_⟩
  simp only [Act.put, List.setIfInBounds_toArray, List.set_cons_zero, List.set_cons_succ]
  refine plan_take (some 75) rfl rfl rfl (fun w _ => x_build rfl (by simp only [List.map_toArray, List.map_cons, List.map_nil]; rfl) (build17 _ _ _ _ _ _ _ _ _ _ _ _ _ _ _ _ _ _ _ _ _ _ _ _ _ _ _ w)) ?_
  simp only [Act.put, List.setIfInBounds_toArray, List.set_cons_zero, List.set_cons_succ]
  have hF := hgr G17 HB5.out
  refine plan_op rfl rfl (wp_store_row 31 (.tmp 2) (.tmp 75) rfl (N + 1) (nV d (⟨mA', mC', gA', gC', xA', xC', iA', iC', kA', kC'⟩ : Np) ks.length).toArray rfl rfl 31 _ hF info_node rfl (one_node _ _ _) ⟨⟨fun i v e => (World.cell?_of_block (setRow_other _ _ (by show N ≠ N + 1; omega))).trans ((HBX.out _ G17).1 i v e), fun i v e => (World.cell?_of_block (setRow_other _ _ hBN)).trans ((HBX.out _ G17).2 i v e)⟩, ?_⟩)
  have hnb := HW5.out.b
  obtain ⟨p', hp'⟩ : ∃ q : Np, (⟨mA', mC', gA', gC', xA', xC', iA', iC', kA', kC'⟩ : Np) = q := ⟨_, rfl⟩
  have hml : maxLen = 9223372036854775807 := by unfold maxLen; decide
  rw [hml] at m2 g2 x2 i2 k2
  have HNB : Hid (Nb d (⟨mA', mC', gA', gC', xA', xC', iA', iC', kA', kC'⟩ : Np) ks.length) := Lib.hid ⟨m1, m2, g1, g2, x1, x2, i1, i2, k1, k2, hnb.wm, hnb.wg, hnb.wx, hnb.wi, hnb.nm, hnb.vl, hnb.ik, hnb.ifn, hnb.irg, hnb.ist, hnb.iof, hnb.igh, hnb.ixh, hnb.icd⟩
  have A5 := h6.trans (h7.trans (h8.trans (h9.trans (h10.trans (h11.trans (h12.trans (h13.trans (h14.trans (h15.trans (h16.trans h17))))))))))
  have A10 := h11.trans (h12.trans (h13.trans (h14.trans (h15.trans (h16.trans h17)))))
  have A12 := h13.trans (h14.trans (h15.trans (h16.trans h17)))
  have hN2 := HSZ.out
  have hNw := HN.out
  have HFIN : Hid (FrT (.mk d ks) w (.returned (.agg (nV d (⟨mA', mC', gA', gC', xA', xC', iA', iC', kA', kC'⟩ : Np) ks.length).toArray)) (k17.setRow (N + 1) (nV d (⟨mA', mC', gA', gC', xA', xC', iA', iC', kA', kC'⟩ : Np) ks.length).toArray)) := Lib.hid (by
    refine ⟨_, rfl, Gr.setRow (HG5.out.trans G17) (by omega) _, ?_⟩
    have s4 := G4.size; have s9 := G9.size; have s11 := G11.size; have s16 := G16.size
    unfold NewT TrP
    refine ⟨⟨HNB.out, MatsAt.cm (cm_only fun b hb hl => ?_) m3, StrsAt.cm (cm_only fun b hb hl => ?_) g3, StrsAt.cm (cm_only fun b hb hl => ?_) x3, StrsAt.cm (cm_only fun b hb hl => ?_) i3⟩, fun h0 => ?_⟩
    · have hb := of_decide_eq_true hb
      exact ⟨decide_eq_true (by omega), (setRow_other _ _ (by omega)).trans (A5.b.block b hl)⟩
    · have hb := of_decide_eq_true hb
      exact ⟨decide_eq_true (by omega), (setRow_other _ _ (by omega)).trans (A10.b.block b hl)⟩
    · have hb := of_decide_eq_true hb
      exact ⟨decide_eq_true (by omega), (setRow_other _ _ (by omega)).trans (A12.b.block b hl)⟩
    · have hb := of_decide_eq_true hb
      exact ⟨decide_eq_true (by omega), (setRow_other _ _ (by omega)).trans (A12.b.block b hl)⟩
    · obtain ⟨kb, e, hk⟩ := k3 h0
      refine ⟨kb, 0, e, KidsAt.cm (cm_only fun b hb hl => ?_) kb 0 ks hk⟩
      have hb := of_decide_eq_true hb
      exact ⟨decide_eq_true (by omega), setRow_other _ _ (by omega)⟩)
  have HX : Hid ((k17.setRow (N + 1) (nV d (⟨mA', mC', gA', gC', xA', xC', iA', iC', kA', kC'⟩ : Np) ks.length).toArray).heap[N + 1]? = some (.cells (nV d (⟨mA', mC', gA', gC', xA', xC', iA', iC', kA', kC'⟩ : Np) ks.length).toArray 31 (0, 0))) := Lib.hid (setRow_same _ hF)
  refine plan_end ?_
  go_wp2_with fail
  refine bodyPost_ret (v := .agg (nV d (⟨mA', mC', gA', gC', xA', xC', iA', iC', kA', kC'⟩ : Np) ks.length).toArray) (results_cell_row (p := 2) (ty := 31) hres _ _ (N + 1) _ _ (0, 0) _ rfl HX.out Tryz.underlying31 rfl info_node) rfl ?_
  exact HFIN.out
end Go.Proofs.YtikaamonmaohjaaGreatDoor.Ir
