/- each, nameless, the program's. -/
import Derived.Test.YtoooaipbkkiefaaDoorPFn
namespace Go.Proofs.YtoooaipbkkiefaaDoor.Pt
open Go.RowKit Go.Sort
set_option maxRecDepth 100000
set_option maxHeartbeats 4000000
attribute [local irreducible] wpQuiet

/-- each: what a closure makes of each point, in order -/
theorem each_any (F : FuncId) (cb : Array Value) (f : Pt → Pt) (A : Option Addr) (l : List Pt) (c : Nat) (w : World) (h : PtsAt w A l) (hs : SmP l) (hf : Chg w F cb f) (hm : SmP (l.map f)) (ht : Fv.Tab w)
    (eg : ∀ args w, (callFunc F args).run Tryd.prog w = .ok (.enter F args) w) :
    Calls Tryd.prog 52 #[.slice A l.length c, .func (.func F) #[] cb] w (VPost (norV (l.map f)) (norE (l.map f)) w) := by
  obtain ⟨L, hL⟩ : ∃ L, l.map f = L := ⟨_, rfl⟩
  rw [hL] at hm ⊢
  have HLL := Lib.hid hL
  clear hL
  obtain ⟨i0, hi, hz0, hz1, hz2⟩ := info_parts pt_info
  have HL := Lib.hid h; have HS := Lib.hid hs; have HT := Lib.hid ht; have HF := Lib.hid hf; have HM := Lib.hid hm
  have hlen : l.length ≤ 1000 := hs.1
  clear h hs ht hf hm
  go_enter Tryd.func52, Tryd.ntmps52
  go_wp2_with (refine wpList_make_own _ rfl _ _ 22 rfl w.heap.size 42 i0 _ 2 Tryd.underlying22 hi hz0 hz1 .i64 .i64 (l.length : Int) l.length rfl rfl rfl (by rw [hz2]; omega) (by unfold maxLen; omega) (Nat.le_refl _) ?_; intro W0 hown0 hgr0)
  have HST : Hid (PSt w W0 (.slice (some ⟨w.heap.size, 0, none⟩) 0 l.length) [] ((l.take 0).map f)) := Lib.hid ⟨(Gr.refl w).grown hgr0 (by simp), hown0, by simpa using Rds.nil _, fun k c p hc => by simp at hc⟩
  clear hown0 hgr0 hi hz0 hz1 hz2 i0
  go_loopw [6, 14] (fun v i wr => ∃ (k : Nat) (cs : List Pc), k ≤ l.length ∧ i = .int .i64 k ∧ Hid (PSt w wr v cs ((l.take k).map f))) (fun _ i _ => l.length - (intOf i).toNat)
  case atStart => exact ⟨0, [], Nat.zero_le _, rfl, HST⟩
  case round =>
    obtain ⟨k, cs, hk, rfl, HG⟩ := hrel
    by_cases hlt : k < l.length
    · have hg := HG.out.g
      obtain ⟨b, o, s1, n1, rfl, c1, c2, la1, hbl⟩ := (HL.out.gr hg).cell hlt
      have m1 := HS.out.at_ hlt
      obtain ⟨x, hx⟩ : ∃ x, l[k] = x := ⟨_, rfl⟩
      have HTK : Hid ((l.take (k + 1)).map f = (l.take k).map f ++ [f x]) := Lib.hid (by rw [List.take_succ_eq_append_getElem hlt, List.map_append, hx]; rfl)
      rw [hx] at c1 c2 la1 m1
      obtain ⟨W2, hW2, g2, hb2⟩ := fresh wr #[.slice s1 x.1.length n1, .float .f64 x.2] 42
      have d1 := hb2 0 _ rfl
      have d2 := hb2 1 _ rfl
      have HW2 := Lib.hid hW2
      have HG2 := Lib.hid (HG.out.gr g2)
      have CC := Lib.hid (HF.out W2 s1 n1 x (hg.trans g2) (la1.gr g2) m1)
      have hcs : cs.length ≤ 1000 := by rw [HG.out.rds.len]; simp; omega
      obtain ⟨P, hP⟩ : ∃ P, wr.heap.size = P := ⟨_, rfl⟩
      simp only [hP] at d1 d2
      have HP := Lib.hid hP
      obtain ⟨x1, x2⟩ := x
      simp only at c1 c2 CC d1 d2
      clear hx la1 m1 hW2 hb2 HG hg hP
      obtain ⟨y, hy⟩ : ∃ y, f (x1, x2) = y := ⟨_, rfl⟩
      rw [hy] at CC HTK
      have HY := Lib.hid hy
      clear hy
      go_upto_region 5 with fail
      rw [HW2.out, HP.out]
      go_wp2_with fail
      refine CC.out.mono ?_
      rintro e w4 ⟨A4, c4, rfl, hl4, g4, hf4⟩
      obtain ⟨w5, hw5, g5, hb5⟩ := fresh w4 #[.slice A4 y.1.length c4, .float .f64 y.2] 42
      have HA5 := (run_appR1 (B := w.heap.size) (l := cs) ((⟨A4, y.1.length, c4⟩, y.2) : Pc) (HG2.out.gr (g4.trans g5)).row (hb5 0 _ rfl) (hb5 1 _ rfl) (by omega) (HG2.out.gr (g4.trans g5)).g.size)
      rw [← hw5] at HA5
      have HA5 := Lib.hid HA5
      have HL4 := Lib.hid hl4; have HF4 := Lib.hid hf4; have HG4 := Lib.hid g4; have HW5 := Lib.hid hw5; have HG5 := Lib.hid g5
      clear hl4 hf4 g4 g5 hb5 hw5
      go_wp2_with (at_builtin; refine wpList_app2 rfl (.tmp 18) (.tmp 22) (by rfl) (by rfl) (by rfl) (by rfl) HA5.out ?_; rintro v7 w7 ⟨ho7, hg7, hv7⟩)
      have HN : Hid (PSt w w7 v7 (cs ++ [((⟨A4, y.1.length, c4⟩, y.2) : Pc)]) ((l.take (k + 1)).map f)) := Lib.hid (by
        rw [HTK.out]
        rw [HW5.out] at hg7 hv7
        refine (HG2.out.gr (HG4.out.trans HG5.out)).app (r := [y]) (Rds.one ⟨rfl, rfl, HL4.out.gr HG5.out⟩) (fun j c' p hc hp h0 b hb e => ?_) ho7 hg7 hv7
        match j, hc, hp with
        | 0, hc, hp =>
          obtain rfl : _ = c' := by simpa using hc
          obtain rfl : _ = p := by simpa using hp
          have h1 := HF4.out h0 b hb
          have h2 := (HG2.out.row.lt e).2
          omega)
      clear ho7 hg7 hv7
      go_roundw
      case rel => exact ⟨k + 1, _, by omega, by go_num, HN⟩
      case measure => simp [intOf]; omega
    · obtain rfl : k = l.length := by omega
      have hp := HG.out
      rw [List.take_length, HLL.out] at hp
      obtain ⟨A', c', rfl, hpt, -, -, -⟩ := hp.at_
      have HG1 := Lib.hid hp.g
      have CN := Lib.hid (normal_any A' L c' wr hpt HM.out (HT.out.gv hp.g))
      clear hp hpt HG
      go_wp2_with fail
      refine CN.out.mono ?_
      rintro e w4 ⟨A4, c4, rfl, hp4, h1, h2, g4⟩
      have HP4 := Lib.hid hp4
      clear hp4
      go_wp2
      go_ret2
      exact ⟨A4, c4, rfl, HP4.out, h1, h2, HG1.out.trans g4⟩
end Go.Proofs.YtoooaipbkkiefaaDoor.Pt
/- nameless, Map, Label, the program's. -/
namespace Go.Proofs.YtoooaipbkkiefaaDoor.Pt
open Go.RowKit Go.Sort
set_option maxRecDepth 100000
set_option maxHeartbeats 4000000
attribute [local irreducible] wpQuiet

theorem SmL.pick {x : List Lb} (h : SmL x) (ns : List ByteArray) (am : Bool) : SmL (pickL x ns am) := ⟨by have := pickL_len x ns am; have := h.1; omega, pickL_wd h.2 ns am⟩
theorem SmP.map {l : List Pt} {f : Pt → Pt} (h : SmP l) (hf : ∀ p ∈ l, SmL (f p).1) : SmP (l.map f) := ⟨by have := h.1; simpa using this, fun p hp => by obtain ⟨q, hq, rfl⟩ := List.mem_map.1 hp; exact hf q hq⟩
theorem SmP.nm {l : List Pt} (h : SmP l) (g : Nat → Nat) : SmP (l.map (nmP g)) := h.map fun p hp => (h.2 p hp).pick _ _
theorem nameless_any (G : FuncId) (cb : Array Value) (g : Nat → Nat) (A : Option Addr) (l : List Pt) (c : Nat) (w : World) (h : PtsAt w A l) (hs : SmP l) (hv : ValC w G cb g) (ht : Fv.Tab w)
    (eg : ∀ args w, (callFunc G args).run Tryd.prog w = .ok (.enter G args) w) :
    Calls Tryd.prog 39 #[.slice A l.length c, .func (.func G) #[] cb] w (VPost (norV (l.map (nmP g))) (norE (l.map (nmP g))) w) := by
  obtain ⟨W1, hW1, g1, hb1⟩ := fresh w #[.func (.func G) #[] cb] 55
  have hmf : ∀ (fn : Fn) (first cap : Array Value) (w : World), (Instr.makeFunc fn first cap).run Tryd.prog w = .ok (.func fn first cap) w := fun _ _ _ _ => rfl
  have eg2 : ∀ args w, (callFunc 73 args).run Tryd.prog w = .ok (.enter 73 args) w := enters_of Tryd.func73 (by kernel_rfl) rfl
  have CE := Lib.hid (each_any 73 #[.pointer (some ⟨w.heap.size, 0, none⟩)] (nmP g) A l c W1 (h.gr g1) hs (nmls_any G cb g W1 w.heap.size (fun W x hg => hv W x (g1.trans hg)) (hb1 0 _ rfl) eg) (hs.nm g) (ht.gv g1) eg2)
  have HW1 := Lib.hid hW1; have G1 := Lib.hid g1
  obtain ⟨L, hL⟩ : ∃ L, l.map (nmP g) = L := ⟨_, rfl⟩
  rw [hL] at CE ⊢
  clear hL h hs hv ht hW1 g1 hb1
  go_enter Tryd.func39, Tryd.ntmps39
  go_upto_region 1 with fail
  rw [HW1.out]
  go_wp2_with fail
  refine CE.out.mono ?_
  rintro e w4 ⟨A4, c4, rfl, hp4, h1, h2, g4⟩
  have HP4 := Lib.hid hp4
  clear hp4
  go_wp2
  go_ret2
  exact ⟨A4, c4, rfl, HP4.out, h1, h2, G1.out.trans g4⟩

/-! ### Map -/
theorem map1_any (fn : Int) (arg : Nat) (W0 : World) (a b : Nat) (ha : W0.cell? ⟨a, 0, none⟩ = some (.int .i64 fn)) (hb : W0.cell? ⟨b, 0, none⟩ = some (.float .f64 arg)) (ht : Fv.Tab W0) :
    ValC W0 40 #[.pointer (some ⟨a, 0, none⟩), .pointer (some ⟨b, 0, none⟩)] (fun x => Fv.fnV fn x arg) := by
  intro W x hg
  have c1 := hg.cell ha
  have c2 := hg.cell hb
  have CF := Lib.hid (Fv.fn_any fn x arg W (ht.gv hg))
  obtain ⟨y, hy⟩ : ∃ y, Fv.fnV fn x arg = y := ⟨_, rfl⟩
  obtain ⟨k, hk⟩ : ∃ k, Fv.fnOk fn = k := ⟨_, rfl⟩
  simp only [hy]
  rw [hy, hk] at CF
  clear hy hk ha hb ht hg
  go_enter Tryd.func40, Tryd.ntmps40
  go_wp2_with fail
  refine CF.out.mono ?_
  rintro e w' ⟨rfl, n, rfl⟩
  go_wp2
  go_ret
  exact ⟨rfl, (Gr.refl _).drewN _⟩
theorem map_yes (fn : Int) (arg : Nat) (A : Option Addr) (l : List Pt) (c : Nat) (w : World) (h : PtsAt w A l) (hs : SmP l) (ht : Fv.Tab w) (ho : Fv.fnOk fn = true) :
    Calls Tryd.prog 15 #[.slice A l.length c, .int .i64 fn, .float .f64 arg] w (VPost (norV (l.map (nmP fun x => Fv.fnV fn x arg))) (norE (l.map (nmP fun x => Fv.fnV fn x arg))) w) := by
  obtain ⟨W1, hW1, g1, hb1⟩ := fresh w #[.int .i64 fn] 3
  obtain ⟨W2, hW2, g2, hb2⟩ := fresh W1 #[.float .f64 arg] 32
  have hsz : W1.heap.size = w.heap.size + 1 := by rw [← hW1]; simp
  have c1 := g2.cell (hb1 0 _ rfl)
  have c2 := hb2 0 _ rfl
  rw [hsz] at c2
  have hmf : ∀ (fn : Fn) (first cap : Array Value) (w : World), (Instr.makeFunc fn first cap).run Tryd.prog w = .ok (.func fn first cap) w := fun _ _ _ _ => rfl
  have eg : ∀ args w, (callFunc 40 args).run Tryd.prog w = .ok (.enter 40 args) w := enters_of Tryd.func40 (by kernel_rfl) rfl
  have CF := Lib.hid (Fv.fn_any fn 0 arg W2 ((ht.gv g1).gv g2))
  rw [ho] at CF
  have CN := Lib.hid (fun W (g : Gr W2 W) => nameless_any 40 #[.pointer (some ⟨w.heap.size, 0, none⟩), .pointer (some ⟨w.heap.size + 1, 0, none⟩)] (fun x => Fv.fnV fn x arg) A l c W (((h.gr g1).gr g2).gr g) hs (map1_any fn arg W _ _ (g.cell c1) (g.cell c2) (((ht.gv g1).gv g2).gv g)) (((ht.gv g1).gv g2).gv g) eg)
  obtain ⟨L, hL⟩ : ∃ L, l.map (nmP fun x => Fv.fnV fn x arg) = L := ⟨_, rfl⟩
  rw [hL] at CN ⊢
  have HW1 := Lib.hid hW1; have HW2 := Lib.hid hW2; have G2 := Lib.hid (g1.trans g2)
  obtain ⟨y, hy⟩ : ∃ y, Fv.fnV fn 0 arg = y := ⟨_, rfl⟩
  rw [hy] at CF
  clear hL h hs ht ho hW1 g1 hb1 hW2 g2 hb2 hsz hy
  go_enter Tryd.func15, Tryd.ntmps15
  go_upto_region 1 with fail
  rw [HW1.out, HW2.out]
  go_wp2_with fail
  refine CF.out.mono ?_
  rintro e w' ⟨rfl, n, rfl⟩
  go_wp2_with fail
  refine (CN.out _ ((Gr.refl _).drewN _)).mono ?_
  rintro e w4 ⟨A4, c4, rfl, hp4, h1, h2, g4⟩
  have HP4 := Lib.hid hp4
  clear hp4
  go_wp2
  go_ret2
  exact ⟨A4, c4, rfl, HP4.out, h1, h2, (G2.out.drewN _).trans g4⟩
theorem map_no (fn : Int) (arg : Nat) (A : Option Addr) (n c : Nat) (w : World) (ht : Fv.Tab w) (ho : Fv.fnOk fn = false) :
    Calls Tryd.prog 15 #[.slice A n c, .int .i64 fn, .float .f64 arg] w (VPost [] 1 w) := by
  obtain ⟨W1, hW1, g1, hb1⟩ := fresh w #[.int .i64 fn] 3
  obtain ⟨W2, hW2, g2, hb2⟩ := fresh W1 #[.float .f64 arg] 32
  have hsz : W1.heap.size = w.heap.size + 1 := by rw [← hW1]; simp
  have c1 := g2.cell (hb1 0 _ rfl)
  have c2 := hb2 0 _ rfl
  rw [hsz] at c2
  have CF := Lib.hid (Fv.fn_any fn 0 arg W2 ((ht.gv g1).gv g2))
  rw [ho] at CF
  have HW1 := Lib.hid hW1; have HW2 := Lib.hid hW2; have G2 := Lib.hid (g1.trans g2)
  obtain ⟨y, hy⟩ : ∃ y, Fv.fnV fn 0 arg = y := ⟨_, rfl⟩
  rw [hy] at CF
  clear ht ho hW1 g1 hb1 hW2 g2 hb2 hsz hy
  go_enter Tryd.func15, Tryd.ntmps15
  go_upto_region 1 with fail
  rw [HW1.out, HW2.out]
  go_wp2_with fail
  refine CF.out.mono ?_
  rintro e w' ⟨rfl, n, rfl⟩
  go_wp2
  go_ret2
  exact ⟨none, 0, rfl, PtsAt.nil _ _, by simp, by unfold maxLen; omega, G2.out.drewN _⟩
end Go.Proofs.YtoooaipbkkiefaaDoor.Pt
/- Label, the program's. -/
namespace Go.Proofs.YtoooaipbkkiefaaDoor.Pt
open Go.RowKit Go.Sort
set_option maxRecDepth 100000
set_option maxHeartbeats 4000000
attribute [local irreducible] wpQuiet

/-- with another value of a label -/
def labP (nm vl : ByteArray) (p : Pt) : Pt := (withL p.1 nm vl, p.2)
theorem SmL.with_ {x : List Lb} (h : SmL x) {nm vl : ByteArray} (h1 : nm.size ≤ maxLen) (h2 : vl.size ≤ maxLen) : SmL (withL x nm vl) := by
  unfold withL
  split
  · rename_i hr
    have := (rightB_t.1 hr).1
    exact ⟨by omega, outL_wd h.2 h1 h2⟩
  · exact h
theorem lbl_any (nm vl : ByteArray) (W0 : World) (fa fb : Nat) (ha : W0.cell? ⟨fa, 0, none⟩ = some (.string nm)) (hb : W0.cell? ⟨fb, 0, none⟩ = some (.string vl)) (h1 : nm.size ≤ maxLen) (h2 : vl.size ≤ maxLen) :
    Chg W0 53 #[.pointer (some ⟨fa, 0, none⟩), .pointer (some ⟨fb, 0, none⟩)] (labP nm vl) := by
  intro W A c p hg hl hs
  obtain ⟨p1, p2⟩ := p
  simp only at hl hs ⊢
  have hres : Tryd.f53.results = #[.cell 4 42] := by kernel_rfl
  obtain ⟨W1, hW1, g1, hb1⟩ := fresh W #[.slice A p1.length c, .float .f64 p2] 42
  obtain ⟨W2, hW2, g2, hb2⟩ := fresh W1 #[.slice none 0 0, .float .f64 0] 42
  have c0 := g2.cell (hb1 0 _ rfl)
  have c1 := g2.cell (hb1 1 _ rfl)
  have ca := g2.cell (g1.cell (hg.cell ha))
  have cb := g2.cell (g1.cell (hg.cell hb))
  have hsz : W1.heap.size = W.heap.size + 1 := by rw [← hW1]; simp
  have HBX : Hid (W2.heap[W.heap.size + 1]? = some (.cells #[.slice none 0 0, .float .f64 0] 42 (0, 0))) := Lib.hid (by rw [← hsz, ← hW2]; exact heap_alloc_new _ _)
  have HW1 := Lib.hid hW1; have HW2 := Lib.hid hW2
  have CW := Lib.hid (fun W' (gg : Gr W2 W') => withF_any A p1 c nm vl W' (((hl.gr g1).gr g2).gr gg) hs.2 (by have := hs.1; omega) h1 h2)
  obtain ⟨N, hN⟩ : ∃ N, W.heap.size = N := ⟨_, rfl⟩
  rw [hN] at c0 c1 HBX
  have HN := Lib.hid hN
  have HG := Lib.hid (g1.trans g2)
  have hnea : fa ≠ N + 1 := by have h1 := World.block_lt_of_cell? W0 _ ha; have h2 := hg.size; have h3 : fa < W0.heap.size := h1; omega
  have hneb : fb ≠ N + 1 := by have h1 := World.block_lt_of_cell? W0 _ hb; have h2 := hg.size; have h3 : fb < W0.heap.size := h1; omega
  have hnea2 : N + 1 ≠ fa := fun e => hnea e.symm
  have hneb2 : N + 1 ≠ fb := fun e => hneb e.symm
  obtain ⟨O, hO⟩ : ∃ O, withL p1 nm vl = O := ⟨_, rfl⟩
  have HO : Hid (labP nm vl (p1, p2) = (O, p2)) := Lib.hid (by unfold labP; rw [hO])
  rw [hO] at CW
  clear ha hb hl hs hW1 hW2 hb1 hb2 hsz hN g1 g2 hg hO h1 h2
  have HNF : Hid (∀ W, Gr W2 W → W.cell? ⟨N + 1, 0, none⟩ = some (.slice none 0 0) ∧ W.cell? ⟨N + 1, 1, none⟩ = some (.float .f64 0) ∧ W.frozen? ⟨N + 1, 0, none⟩ = false ∧ W.frozen? ⟨N + 1, 1, none⟩ = false) := Lib.hid (fun W g => by
    have h1 := (g.b.block (N + 1) (Array.getElem?_eq_some_iff.1 HBX.out).1).trans HBX.out
    exact ⟨cell_of_row W _ 0 _ _ _ h1, cell_of_row W _ 1 _ _ _ h1, frozen_of_row W _ 0 _ _ h1, frozen_of_row W _ 1 _ _ h1⟩)
  go_enter Tryd.func53, Tryd.ntmps53
  go_upto_region 1 with fail
  rw [HW1.out, HW2.out, HN.out]
  go_region_held3 (fun w' => w'.cell? ⟨N, 0, none⟩ = some (.slice A p1.length c) ∧ w'.cell? ⟨N, 1, none⟩ = some (.float .f64 p2) ∧ w'.cell? ⟨fa, 0, none⟩ = some (.string nm) ∧ w'.cell? ⟨fb, 0, none⟩ = some (.string vl))
    (first | exact ksd | exact ⟨c0, c1, ca, cb⟩ | go_keep)
    (first
      | (go_simp
         go_at_call 54
         refine (CW.out _ ((Gr.refl _).drew)).mono ?_
         rintro e w4 ⟨A4, c4, rfl, hl4, g4, hf4⟩
         have gd5 : Gr W2 w4 := (Gr.refl _).drew.trans g4
         have ksd : w4.cell? ⟨N, 0, none⟩ = some (.slice A p1.length c) ∧ w4.cell? ⟨N, 1, none⟩ = some (.float .f64 p2) ∧ w4.cell? ⟨fa, 0, none⟩ = some (.string nm) ∧ w4.cell? ⟨fb, 0, none⟩ = some (.string vl) := ⟨gd5.cell c0, gd5.cell c1, gd5.cell ca, gd5.cell cb⟩
         obtain ⟨x0, x1, x2, x3⟩ := HNF.out w4 gd5
         have x1' : ∀ u, (w4.setCell ⟨N + 1, 0, none⟩ u).cell? ⟨N + 1, 1, none⟩ = some (.float .f64 0) := fun u => by rw [World.cell?_setCell_other _ _ _ _ (by simp)]; exact x1))
  have HFIN := Lib.hid (pt_end (y := p2) (c := c4) HN.out HG.out hl4 gd5 (Gr.refl _) (Array.getElem?_eq_some_iff.1 HBX.out).1 hf4)
  have HR5 := Lib.hid (box2 ((gd5.b.block (N + 1) (Array.getElem?_eq_some_iff.1 HBX.out).1).trans HBX.out) (.slice A4 O.length c4) (.float .f64 p2))
  clear hl4 gd5 hf4
  go_wp2_with fail
  refine bodyPost_ret (v := .agg #[.slice A4 O.length c4, .float .f64 p2]) (results_cell_row (p := 4) (ty := 42) hres _ _ (N + 1) _ _ (0, 0) _ rfl HR5.out Tryd.underlying42 rfl pt_size) rfl ?_
  rw [HO.out]
  exact HFIN.out
/-- may a label be so? -/
def lokB (nm vl : ByteArray) : Bool := nameB nm && decide (vl.size ≤ 256)
theorem label_yes (nm vl : ByteArray) (A : Option Addr) (l : List Pt) (c : Nat) (w : World) (h : PtsAt w A l) (hs : SmP l) (ht : Fv.Tab w) (h1 : nm.size ≤ maxLen) (ho : lokB nm vl = true) :
    Calls Tryd.prog 19 #[.slice A l.length c, .string nm, .string vl] w (VPost (norV (l.map (labP nm vl))) (norE (l.map (labP nm vl))) w) := by
  unfold lokB at ho
  rw [Bool.and_eq_true, decide_eq_true_eq] at ho
  obtain ⟨ho, hv⟩ := ho
  have hv2 : vl.size ≤ maxLen := by unfold maxLen; omega
  obtain ⟨W1, hW1, g1, hb1⟩ := fresh w #[.string nm] 9
  obtain ⟨W2, hW2, g2, hb2⟩ := fresh W1 #[.string vl] 9
  have hsz : W1.heap.size = w.heap.size + 1 := by rw [← hW1]; simp
  have c1 := g2.cell (hb1 0 _ rfl)
  have c2 := hb2 0 _ rfl
  rw [hsz] at c2
  have hmf : ∀ (fn : Fn) (first cap : Array Value) (w : World), (Instr.makeFunc fn first cap).run Tryd.prog w = .ok (.func fn first cap) w := fun _ _ _ _ => rfl
  have eg : ∀ args w, (callFunc 53 args).run Tryd.prog w = .ok (.enter 53 args) w := enters_of Tryd.func53 (by kernel_rfl) rfl
  have CN := Lib.hid (name_any nm W2 h1)
  rw [ho] at CN
  have CE := Lib.hid (each_any 53 #[.pointer (some ⟨w.heap.size, 0, none⟩), .pointer (some ⟨w.heap.size + 1, 0, none⟩)] (labP nm vl) A l c W2 ((h.gr g1).gr g2) hs (lbl_any nm vl W2 _ _ c1 c2 h1 hv2) (hs.map fun p hp => (hs.2 p hp).with_ h1 hv2) ((ht.gv g1).gv g2) eg)
  obtain ⟨L, hL⟩ : ∃ L, l.map (labP nm vl) = L := ⟨_, rfl⟩
  rw [hL] at CE ⊢
  have HW1 := Lib.hid hW1; have HW2 := Lib.hid hW2; have G2 := Lib.hid (g1.trans g2)
  clear hL h hs ht ho hW1 g1 hb1 hW2 g2 hb2 hsz h1 hv2
  go_enter Tryd.func19, Tryd.ntmps19
  go_upto_region 1 with fail
  rw [HW1.out, HW2.out]
  go_wp2_with fail
  refine CN.out.mono ?_
  rintro e w' ⟨rfl, rfl⟩
  go_wp2_with fail
  refine CE.out.mono ?_
  rintro e w4 ⟨A4, c4, rfl, hp4, h1, h2, g4⟩
  have HP4 := Lib.hid hp4
  clear hp4
  go_wp2
  go_ret2
  exact ⟨A4, c4, rfl, HP4.out, h1, h2, G2.out.trans g4⟩
theorem label_no (nm vl : ByteArray) (A : Option Addr) (n c : Nat) (w : World) (h1 : nm.size ≤ maxLen) (ho : lokB nm vl = false) (hvl : vl.size ≤ maxLen) :
    Calls Tryd.prog 19 #[.slice A n c, .string nm, .string vl] w (VPost [] 1 w) := by
  obtain ⟨W1, hW1, g1, hb1⟩ := fresh w #[.string nm] 9
  obtain ⟨W2, hW2, g2, hb2⟩ := fresh W1 #[.string vl] 9
  have hsz : W1.heap.size = w.heap.size + 1 := by rw [← hW1]; simp
  have c1 := g2.cell (hb1 0 _ rfl)
  have c2 := hb2 0 _ rfl
  rw [hsz] at c2
  have CN := Lib.hid (name_any nm W2 h1)
  have HW1 := Lib.hid hW1; have HW2 := Lib.hid hW2; have G2 := Lib.hid (g1.trans g2)
  unfold maxLen at hvl
  clear hW1 g1 hb1 hW2 g2 hb2 hsz h1
  cases hn : nameB nm
  · rw [hn] at CN
    clear hn ho
    go_enter Tryd.func19, Tryd.ntmps19
    go_upto_region 1 with fail
    rw [HW1.out, HW2.out]
    go_wp2_with fail
    refine CN.out.mono ?_
    rintro e w' ⟨rfl, rfl⟩
    go_wp2
    go_ret2
    exact ⟨none, 0, rfl, PtsAt.nil _ _, by simp, by unfold maxLen; omega, G2.out⟩
  · have hv : 256 < vl.size := by simpa [lokB, hn] using ho
    rw [hn] at CN
    clear hn ho
    go_enter Tryd.func19, Tryd.ntmps19
    go_upto_region 1 with fail
    rw [HW1.out, HW2.out]
    go_wp2_with fail
    refine CN.out.mono ?_
    rintro e w' ⟨rfl, rfl⟩
    go_wp2
    go_ret2
    exact ⟨none, 0, rfl, PtsAt.nil _ _, by simp, by unfold maxLen; omega, G2.out⟩
end Go.Proofs.YtoooaipbkkiefaaDoor.Pt
/- where, Scaled, the program's. -/
namespace Go.Proofs.YtoooaipbkkiefaaDoor.Pt
open Go.RowKit Go.Sort
set_option maxRecDepth 100000
set_option maxHeartbeats 4000000
attribute [local irreducible] wpQuiet

/-- a test of values, as a closure -/
def TstC (W0 : World) (G : FuncId) (cb : Array Value) (f : Nat → Bool) : Prop := ∀ (W : World) (x : Nat), Gr W0 W → Calls Tryd.prog G (#[.float .f64 x] ++ cb) W fun e w' => e = .returned (.bool (f x)) ∧ Gr W w'
def whP (f : Nat → Bool) (l : List Pt) : List Pt := l.filter fun p => f p.2
theorem whP_take {f : Nat → Bool} {l : List Pt} {k : Nat} (h : k < l.length) : whP f (l.take (k + 1)) = whP f (l.take k) ++ if f (l[k]).2 then [l[k]] else [] := by
  unfold whP
  rw [List.take_succ_eq_append_getElem h, List.filter_append]
  congr 1
  simp [List.filter_cons]
theorem whP_len (f : Nat → Bool) (l : List Pt) : (whP f l).length ≤ l.length := List.length_filter_le _ _
theorem where_any (G : FuncId) (cb : Array Value) (f : Nat → Bool) (A : Option Addr) (l : List Pt) (c : Nat) (w : World) (h : PtsAt w A l) (hs : SmP l) (hv : TstC w G cb f)
    (eg : ∀ args w, (callFunc G args).run Tryd.prog w = .ok (.enter G args) w) :
    Calls Tryd.prog 44 #[.slice A l.length c, .func (.func G) #[] cb] w (LPost (whP f l) w) := by
  have HL := Lib.hid h; have HS := Lib.hid hs; have HV := Lib.hid hv
  have hlen : l.length ≤ 1000 := hs.1
  clear h hs hv
  go_enter Tryd.func44, Tryd.ntmps44
  go_wp2
  go_loopw [5, 10] (fun v i wr => ∃ (k : Nat) (cs : List Pc), k ≤ l.length ∧ i = .int .i64 k ∧ Hid (PSt w wr v cs (whP f (l.take k)))) (fun _ i _ => l.length - (intOf i).toNat)
  case atStart => exact ⟨0, [], Nat.zero_le _, rfl, Lib.hid (PSt.none_ (Gr.refl _))⟩
  case round =>
    obtain ⟨k, cs, hk, rfl, HG⟩ := hrel
    by_cases hlt : k < l.length
    · have hg := HG.out.g
      obtain ⟨b, o, s1, n1, rfl, c1, c2, la1, hbl⟩ := (HL.out.gr hg).cell hlt
      have m1 := HS.out.at_ hlt
      have HTK := Lib.hid (whP_take (f := f) hlt)
      obtain ⟨x, hx⟩ : ∃ x, l[k] = x := ⟨_, rfl⟩
      rw [hx] at c1 c2 la1 m1 HTK
      obtain ⟨x1, x2⟩ := x
      simp only at c1 c2 la1 m1 HTK
      have m2 : x1.length ≤ 1000 := m1.1
      obtain ⟨W2, hW2, g2, hb2⟩ := fresh wr #[.slice s1 x1.length n1, .float .f64 x2] 42
      have d1 := hb2 0 _ rfl
      have d2 := hb2 1 _ rfl
      have HW2 := Lib.hid hW2
      have CT := Lib.hid (HV.out W2 x2 (hg.trans g2))
      have CL := Lib.hid (fun W (g : Gr W2 W) => cloneF_any s1 x1 n1 W ((la1.gr g2).gr g) (by omega))
      have HGA := Lib.hid (hg.trans g2)
      have HG2 := Lib.hid (HG.out.gr g2)
      have hcs : cs.length ≤ 1000 := by have h1 := HG.out.rds.len; have h2 := whP_len f (l.take k); have h3 : (l.take k).length ≤ l.length := List.length_take_le' ..; omega
      obtain ⟨P, hP⟩ : ∃ P, wr.heap.size = P := ⟨_, rfl⟩
      simp only [hP] at d1 d2
      have HP := Lib.hid hP
      have HNE : Hid (some P ≠ u5.ownBlock) := Lib.hid (fun e => by have := (HG.out.row.lt e.symm).2; omega)
      clear hx la1 m1 hW2 hb2 HG hg hP
      obtain ⟨v, hv⟩ : ∃ v, f x2 = v := ⟨_, rfl⟩
      rw [hv] at CT HTK
      clear hv
      cases v
      · have HN : Hid (whP f (l.take (k + 1)) = whP f (l.take k)) := Lib.hid (by rw [HTK.out]; simp)
        go_upto_region 5 with fail
        rw [HW2.out, HP.out]
        go_wp2_with fail
        refine CT.out.mono ?_
        rintro e w3 ⟨rfl, g3⟩
        have HG3 := Lib.hid (HG2.out.gr g3)
        go_wp2
        go_roundw
        case rel => exact ⟨k + 1, cs, by omega, by go_num, Lib.hid (by rw [HN.out]; exact HG3.out)⟩
        case measure => simp [intOf]; omega
      · have HN : Hid (whP f (l.take (k + 1)) = whP f (l.take k) ++ [(x1, x2)]) := Lib.hid (by rw [HTK.out]; simp)
        go_upto_region 5 with fail
        rw [HW2.out, HP.out]
        go_wp2_with fail
        refine CT.out.mono ?_
        rintro e w3 ⟨rfl, g3⟩
        have e1 := g3.cell d1
        have e2 := g3.cell d2
        have CL3 := Lib.hid (fun W (g : Gr w3 W) => CL.out W (g3.trans g))
        have HG3 := Lib.hid (HG2.out.gr g3)
        clear d1 d2 CT g2
        go_wp2_with fail
        go_region_held3 (fun w' => w'.cell? ⟨P, 0, none⟩ = some (.slice s1 x1.length n1) ∧ w'.cell? ⟨P, 1, none⟩ = some (.float .f64 x2))
          (first | exact ksl | exact ks7 | exact ⟨e1, e2⟩ | go_keep)
          (first
            | (go_simp
               go_at_call 28
               refine (CL3.out _ (Gr.refl _).drew).mono ?_
               rintro e w4 ⟨A1, c1', rfl, hl4, g4, hf4⟩
               have gl5 : Gr w3 w4 := (Gr.refl _).drew.trans g4
               have ksl : w4.cell? ⟨P, 0, none⟩ = some (.slice s1 x1.length n1) ∧ w4.cell? ⟨P, 1, none⟩ = some (.float .f64 x2) := ⟨gl5.cell e1, gl5.cell e2⟩)
            | (refine step_app2 rfl (.tmp 18) (.tmp 25) (by rfl) (by rfl) (by rfl) (by rfl) (run_appV1 (B := w.heap.size) (l := cs) ((⟨A1, x1.length, c1'⟩, x2) : Pc) ?_ ?_ ?_ ?_ ?_) ?_
               · exact (HG3.out.gr (gl5.alloc _ _)).row
               · show _ = some (Value.slice A1 x1.length c1')
                 go_simp
               · show _ = some (Value.float .f64 x2)
                 go_simp
               · omega
               · exact (HG3.out.gr (gl5.alloc _ _)).g.size
               rintro v7 w7 ⟨ho7, hg7, hv7⟩
               have ks7 : w7.cell? ⟨P, 0, none⟩ = some (.slice s1 x1.length n1) ∧ w7.cell? ⟨P, 1, none⟩ = some (.float .f64 x2) := ⟨hg7.cell (((Gr.refl _).alloc _ _).cell ksl.1) HNE.out, hg7.cell (((Gr.refl _).alloc _ _).cell ksl.2) HNE.out⟩))
        all_goals
          have HN7 : Hid (PSt w w7 v7 (cs ++ [((⟨A1, x1.length, c1'⟩, x2) : Pc)]) (whP f (l.take (k + 1)))) := Lib.hid (by
            rw [HN.out]
            refine (HG3.out.gr (gl5.alloc _ _)).app (r := [(x1, x2)]) (Rds.one ⟨rfl, rfl, hl4.gr ((Gr.refl _).alloc _ _)⟩) (fun j c' p hc hp h0 b hb e => ?_) ho7 hg7 hv7
            match j, hc, hp with
            | 0, hc, hp =>
              obtain rfl : _ = c' := by simpa using hc
              obtain rfl : _ = p := by simpa using hp
              have h1 := hf4 h0 b hb
              have h2 := (HG3.out.row.lt e).2
              have h3 : w3.drew.heap.size = w3.heap.size := rfl
              omega)
          clear ho7 hg7 hv7 ks7 ksl hf4 hl4 g4 gl5
          go_wp2_with fail
          go_roundw
          case rel => exact ⟨k + 1, _, by omega, by go_num, HN7⟩
          case measure => simp [intOf]; omega
    · obtain rfl : k = l.length := by omega
      have hp := HG.out
      rw [List.take_length] at hp
      obtain ⟨A', c', rfl, hpt, h1, h2, -⟩ := hp.at_
      have HG1 := Lib.hid hp.g; have HPT := Lib.hid hpt; have H1 := Lib.hid h1; have H2 := Lib.hid h2
      clear hp hpt HG h1 h2
      go_wp2
      go_ret
      exact ⟨A', c', rfl, HPT.out, H1.out, H2.out, HG1.out⟩

/-! ### Scaled -/
def sdA (left : Bool) (x y : Nat) : Nat := if left then x else y
def sdB (left : Bool) (x y : Nat) : Nat := if left then y else x
theorem sides_any (left : Bool) (x y : Nat) (lb xb : Nat) (W : World) (hl : W.cell? ⟨lb, 0, none⟩ = some (.bool left)) (hx : W.cell? ⟨xb, 0, none⟩ = some (.float .f64 x)) :
    Calls Tryd.prog 43 #[.float .f64 y, .pointer (some ⟨lb, 0, none⟩), .pointer (some ⟨xb, 0, none⟩)] W fun e w' => e = .returned (.tuple #[.float .f64 (sdA left x y), .float .f64 (sdB left x y)]) ∧ ∃ n, w' = W.drewN n := by
  have hq : ∃ n, W = W.drewN n := ⟨0, rfl⟩
  cases left
  · go_enter Tryd.func43, Tryd.ntmps43
    go_wp2_with fail
    go_quiet (fail)
    go_wp2
    go_ret2
    exact ⟨rfl, _, rfl⟩
  · go_enter Tryd.func43, Tryd.ntmps43
    go_wp2
    go_ret2
    exact ⟨rfl, hq⟩
/-- what Scaled's closures read -/
structure ScM (W : World) (op : Int) (x : Nat) (left : Bool) (ob xb lb sb : Nat) : Prop where
  o : W.cell? ⟨ob, 0, none⟩ = some (.int .i64 op)
  x : W.cell? ⟨xb, 0, none⟩ = some (.float .f64 x)
  l : W.cell? ⟨lb, 0, none⟩ = some (.bool left)
  s : W.cell? ⟨sb, 0, none⟩ = some (.func (.func 43) #[] #[.pointer (some ⟨lb, 0, none⟩), .pointer (some ⟨xb, 0, none⟩)])
theorem ScM.gr {W W' : World} {op : Int} {x : Nat} {left : Bool} {ob xb lb sb : Nat} (h : ScM W op x left ob xb lb sb) (g : Gr W W') : ScM W' op x left ob xb lb sb := ⟨g.cell h.o, g.cell h.x, g.cell h.l, g.cell h.s⟩
theorem sc2_any (op : Int) (x : Nat) (left : Bool) (ob xb lb sb : Nat) (W0 : World) (h : ScM W0 op x left ob xb lb sb) :
    TstC W0 45 #[.pointer (some ⟨sb, 0, none⟩), .pointer (some ⟨ob, 0, none⟩)] (fun y => Fv.holdsB op (sdA left x y) (sdB left x y)) := by
  intro W y hg
  have hm := h.gr hg
  have c1 := hm.s
  have c2 := hm.o
  have CS := Lib.hid (sides_any left x y lb xb W hm.l hm.x)
  obtain ⟨a, ha⟩ : ∃ a, sdA left x y = a := ⟨_, rfl⟩
  obtain ⟨b, hb⟩ : ∃ b, sdB left x y = b := ⟨_, rfl⟩
  simp only [ha, hb]
  rw [ha, hb] at CS
  have eg : ∀ args w, (callFunc 43 args).run Tryd.prog w = .ok (.enter 43 args) w := enters_of Tryd.func43 (by kernel_rfl) rfl
  clear h hm hg ha hb
  go_enter Tryd.func45, Tryd.ntmps45
  go_wp2_with fail
  refine CS.out.mono ?_
  rintro e w' ⟨rfl, n, rfl⟩
  go_wp2_with fail
  refine (Fv.holds_any op a b _).mono ?_
  rintro e w' ⟨rfl, rfl⟩
  go_wp2
  go_ret
  exact ⟨rfl, (Gr.refl _).drewN _⟩
theorem sc3_any (op : Int) (x : Nat) (left : Bool) (ob xb lb sb : Nat) (W0 : World) (h : ScM W0 op x left ob xb lb sb) (ht : Fv.Tab W0) :
    ValC W0 47 #[.pointer (some ⟨sb, 0, none⟩), .pointer (some ⟨ob, 0, none⟩)] (fun y => Fv.opV op (sdA left x y) (sdB left x y)) := by
  intro W y hg
  have hm := h.gr hg
  have c1 := hm.s
  have c2 := hm.o
  have CS := Lib.hid (sides_any left x y lb xb W hm.l hm.x)
  obtain ⟨a, ha⟩ : ∃ a, sdA left x y = a := ⟨_, rfl⟩
  obtain ⟨b, hb⟩ : ∃ b, sdB left x y = b := ⟨_, rfl⟩
  simp only [ha, hb]
  rw [ha, hb] at CS
  have CO := Lib.hid (fun n => Fv.op_any op a b (W.drewN n) ((ht.gv hg).drewN n))
  obtain ⟨z, hz⟩ : ∃ z, Fv.opV op a b = z := ⟨_, rfl⟩
  obtain ⟨k, hk⟩ : ∃ k, Fv.opOk op = k := ⟨_, rfl⟩
  rw [hz, hk] at CO
  rw [hz]
  have eg : ∀ args w, (callFunc 43 args).run Tryd.prog w = .ok (.enter 43 args) w := enters_of Tryd.func43 (by kernel_rfl) rfl
  clear h hm hg ha hb ht hz hk
  go_enter Tryd.func47, Tryd.ntmps47
  go_wp2_with fail
  refine CS.out.mono ?_
  rintro e w' ⟨rfl, n, rfl⟩
  go_wp2_with fail
  refine (CO.out n).mono ?_
  rintro e w' ⟨rfl, m, rfl⟩
  go_wp2
  go_ret
  exact ⟨rfl, (Gr.refl _).drewN _⟩
/-- is an operator one that chooses? -/
def filB (op : Int) (flag : Bool) : Bool := decide (5 ≤ op) && decide (op ≤ 10) && !flag
theorem scaled_fil (op : Int) (x : Nat) (left : Bool) (A : Option Addr) (l : List Pt) (c : Nat) (w : World) (h : PtsAt w A l) (hs : SmP l) (ho : 5 ≤ op ∧ op ≤ 10) :
    Calls Tryd.prog 17 #[.slice A l.length c, .int .i64 op, .float .f64 x, .bool left, .bool false] w (VPost (whP (fun y => Fv.holdsB op (sdA left x y) (sdB left x y)) l) 0 w) := by
  obtain ⟨h1, h2⟩ := ho
  have h3 : 1 ≤ op := by omega
  obtain ⟨W1, hW1, g1, hb1⟩ := fresh w #[.int .i64 op] 3
  obtain ⟨W2, hW2, g2, hb2⟩ := fresh W1 #[.float .f64 x] 32
  obtain ⟨W3, hW3, g3, hb3⟩ := fresh W2 #[.bool left] 4
  obtain ⟨W4, hW4, g4, hb4⟩ := fresh W3 #[.func (.func 43) #[] #[.pointer (some ⟨w.heap.size + 1 + 1, 0, none⟩), .pointer (some ⟨w.heap.size + 1, 0, none⟩)]] 63
  have z1 : W1.heap.size = w.heap.size + 1 := by rw [← hW1]; simp
  have z2 : W2.heap.size = w.heap.size + 1 + 1 := by rw [← hW2]; simp [z1]
  have c1 := g3.cell (g2.cell (hb1 0 _ rfl))
  have c2 := g3.cell (hb2 0 _ rfl)
  have c3 := hb3 0 _ rfl
  have c4 := hb4 0 _ rfl
  rw [z1] at c2
  rw [z2] at c3
  have hsc : ScM W4 op x left w.heap.size (w.heap.size + 1) (w.heap.size + 1 + 1) W3.heap.size := ⟨g4.cell c1, g4.cell c2, g4.cell c3, c4⟩
  have d1 := hsc.o
  have hmf : ∀ (fn : Fn) (first cap : Array Value) (w : World), (Instr.makeFunc fn first cap).run Tryd.prog w = .ok (.func fn first cap) w := fun _ _ _ _ => rfl
  have G3 := Lib.hid ((g1.trans g2).trans g3)
  have G4 := Lib.hid (((g1.trans g2).trans g3).trans g4)
  have HW1 := Lib.hid hW1; have HW2 := Lib.hid hW2; have HW3 := Lib.hid hW3; have HW4 := Lib.hid hW4
  have eg : ∀ args w, (callFunc 45 args).run Tryd.prog w = .ok (.enter 45 args) w := enters_of Tryd.func45 (by kernel_rfl) rfl
  have CW := Lib.hid (where_any 45 _ _ A l c W4 (h.gr G4.out) hs (sc2_any op x left _ _ _ _ W4 hsc) eg)
  obtain ⟨L, hL⟩ : ∃ L, whP (fun y => Fv.holdsB op (sdA left x y) (sdB left x y)) l = L := ⟨_, rfl⟩
  rw [hL] at CW ⊢
  clear hL h hs hW1 g1 hb1 hW2 g2 hb2 hW3 g3 hb3 hW4 g4 hb4 z1 z2 hsc c4
  go_enter Tryd.func17, Tryd.ntmps17
  go_upto_region 1 with fail
  rw [HW1.out, HW2.out, HW3.out]
  go_upto_region 4 with fail
  rw [HW4.out]
  clear c1
  go_wp2_with fail
  refine CW.out.mono ?_
  rintro e w4 ⟨A4, c4, rfl, hp4, h1, h2, g4⟩
  have HP4 := Lib.hid hp4
  clear hp4
  go_wp2
  go_ret2
  exact ⟨A4, c4, rfl, HP4.out, h1, h2, G4.out.trans g4⟩
theorem scaled_opt (op : Int) (x : Nat) (left : Bool) (A : Option Addr) (l : List Pt) (c : Nat) (w : World) (h : PtsAt w A l) (hs : SmP l) (ht : Fv.Tab w) (ho : 1 ≤ op ∧ op ≤ 10) :
    Calls Tryd.prog 17 #[.slice A l.length c, .int .i64 op, .float .f64 x, .bool left, .bool true] w (VPost (norV (l.map (nmP fun y => Fv.opV op (sdA left x y) (sdB left x y)))) (norE (l.map (nmP fun y => Fv.opV op (sdA left x y) (sdB left x y)))) w) := by
  obtain ⟨h1, h2⟩ := ho
  obtain ⟨W1, hW1, g1, hb1⟩ := fresh w #[.int .i64 op] 3
  obtain ⟨W2, hW2, g2, hb2⟩ := fresh W1 #[.float .f64 x] 32
  obtain ⟨W3, hW3, g3, hb3⟩ := fresh W2 #[.bool left] 4
  obtain ⟨W4, hW4, g4, hb4⟩ := fresh W3 #[.func (.func 43) #[] #[.pointer (some ⟨w.heap.size + 1 + 1, 0, none⟩), .pointer (some ⟨w.heap.size + 1, 0, none⟩)]] 63
  have z1 : W1.heap.size = w.heap.size + 1 := by rw [← hW1]; simp
  have z2 : W2.heap.size = w.heap.size + 1 + 1 := by rw [← hW2]; simp [z1]
  have c1 := g3.cell (g2.cell (hb1 0 _ rfl))
  have c2 := g3.cell (hb2 0 _ rfl)
  have c3 := hb3 0 _ rfl
  have c4 := hb4 0 _ rfl
  rw [z1] at c2
  rw [z2] at c3
  have hsc : ScM W4 op x left w.heap.size (w.heap.size + 1) (w.heap.size + 1 + 1) W3.heap.size := ⟨g4.cell c1, g4.cell c2, g4.cell c3, c4⟩
  have d1 := hsc.o
  have hmf : ∀ (fn : Fn) (first cap : Array Value) (w : World), (Instr.makeFunc fn first cap).run Tryd.prog w = .ok (.func fn first cap) w := fun _ _ _ _ => rfl
  have G3 := Lib.hid ((g1.trans g2).trans g3)
  have G4 := Lib.hid (((g1.trans g2).trans g3).trans g4)
  have HW1 := Lib.hid hW1; have HW2 := Lib.hid hW2; have HW3 := Lib.hid hW3; have HW4 := Lib.hid hW4
  have eg : ∀ args w, (callFunc 47 args).run Tryd.prog w = .ok (.enter 47 args) w := enters_of Tryd.func47 (by kernel_rfl) rfl
  have CW := Lib.hid (nameless_any 47 _ _ A l c W4 (h.gr G4.out) hs (sc3_any op x left _ _ _ _ W4 hsc (ht.gv G4.out)) (ht.gv G4.out) eg)
  obtain ⟨L, hL⟩ : ∃ L, l.map (nmP fun y => Fv.opV op (sdA left x y) (sdB left x y)) = L := ⟨_, rfl⟩
  rw [hL] at CW ⊢
  clear hL h hs ht hW1 g1 hb1 hW2 g2 hb2 hW3 g3 hb3 hW4 g4 hb4 z1 z2 hsc c4
  rcases (by omega : op < 5 ∨ 5 ≤ op) with h5 | h5
  all_goals
    go_enter Tryd.func17, Tryd.ntmps17
    go_upto_region 1 with fail
    rw [HW1.out, HW2.out, HW3.out]
    go_upto_region 4 with fail
    rw [HW4.out]
    clear c1
    go_wp2_with fail
    refine CW.out.mono ?_
    rintro e w4 ⟨A4, c4, rfl, hp4, h1, h2, g4⟩
    have HP4 := Lib.hid hp4
    clear hp4
    go_wp2
    go_ret2
    exact ⟨A4, c4, rfl, HP4.out, h1, h2, G4.out.trans g4⟩
theorem scaled_opf (op : Int) (x : Nat) (left : Bool) (A : Option Addr) (l : List Pt) (c : Nat) (w : World) (h : PtsAt w A l) (hs : SmP l) (ht : Fv.Tab w) (ho : 1 ≤ op ∧ op ≤ 4) :
    Calls Tryd.prog 17 #[.slice A l.length c, .int .i64 op, .float .f64 x, .bool left, .bool false] w (VPost (norV (l.map (nmP fun y => Fv.opV op (sdA left x y) (sdB left x y)))) (norE (l.map (nmP fun y => Fv.opV op (sdA left x y) (sdB left x y)))) w) := by
  obtain ⟨h1, h2⟩ := ho
  have h3 : op ≤ 10 := by omega
  have h5 : op < 5 := by omega
  obtain ⟨W1, hW1, g1, hb1⟩ := fresh w #[.int .i64 op] 3
  obtain ⟨W2, hW2, g2, hb2⟩ := fresh W1 #[.float .f64 x] 32
  obtain ⟨W3, hW3, g3, hb3⟩ := fresh W2 #[.bool left] 4
  obtain ⟨W4, hW4, g4, hb4⟩ := fresh W3 #[.func (.func 43) #[] #[.pointer (some ⟨w.heap.size + 1 + 1, 0, none⟩), .pointer (some ⟨w.heap.size + 1, 0, none⟩)]] 63
  have z1 : W1.heap.size = w.heap.size + 1 := by rw [← hW1]; simp
  have z2 : W2.heap.size = w.heap.size + 1 + 1 := by rw [← hW2]; simp [z1]
  have c1 := g3.cell (g2.cell (hb1 0 _ rfl))
  have c2 := g3.cell (hb2 0 _ rfl)
  have c3 := hb3 0 _ rfl
  have c4 := hb4 0 _ rfl
  rw [z1] at c2
  rw [z2] at c3
  have hsc : ScM W4 op x left w.heap.size (w.heap.size + 1) (w.heap.size + 1 + 1) W3.heap.size := ⟨g4.cell c1, g4.cell c2, g4.cell c3, c4⟩
  have d1 := hsc.o
  have hmf : ∀ (fn : Fn) (first cap : Array Value) (w : World), (Instr.makeFunc fn first cap).run Tryd.prog w = .ok (.func fn first cap) w := fun _ _ _ _ => rfl
  have G3 := Lib.hid ((g1.trans g2).trans g3)
  have G4 := Lib.hid (((g1.trans g2).trans g3).trans g4)
  have HW1 := Lib.hid hW1; have HW2 := Lib.hid hW2; have HW3 := Lib.hid hW3; have HW4 := Lib.hid hW4
  have eg : ∀ args w, (callFunc 47 args).run Tryd.prog w = .ok (.enter 47 args) w := enters_of Tryd.func47 (by kernel_rfl) rfl
  have CW := Lib.hid (nameless_any 47 _ _ A l c W4 (h.gr G4.out) hs (sc3_any op x left _ _ _ _ W4 hsc (ht.gv G4.out)) (ht.gv G4.out) eg)
  obtain ⟨L, hL⟩ : ∃ L, l.map (nmP fun y => Fv.opV op (sdA left x y) (sdB left x y)) = L := ⟨_, rfl⟩
  rw [hL] at CW ⊢
  clear hL h hs ht hW1 g1 hb1 hW2 g2 hb2 hW3 g3 hb3 hW4 g4 hb4 z1 z2 hsc c4
  go_enter Tryd.func17, Tryd.ntmps17
  go_upto_region 1 with fail
  rw [HW1.out, HW2.out, HW3.out]
  go_upto_region 4 with fail
  rw [HW4.out]
  clear c1
  go_wp2_with fail
  refine CW.out.mono ?_
  rintro e w4 ⟨A4, c4, rfl, hp4, h1, h2, g4⟩
  have HP4 := Lib.hid hp4
  clear hp4
  go_wp2
  go_ret2
  exact ⟨A4, c4, rfl, HP4.out, h1, h2, G4.out.trans g4⟩
theorem scaled_no (op : Int) (x : Nat) (left flag : Bool) (A : Option Addr) (n c : Nat) (w : World) (ho : op < 1 ∨ 10 < op) :
    Calls Tryd.prog 17 #[.slice A n c, .int .i64 op, .float .f64 x, .bool left, .bool flag] w (VPost [] 1 w) := by
  obtain ⟨W1, hW1, g1, hb1⟩ := fresh w #[.int .i64 op] 3
  obtain ⟨W2, hW2, g2, hb2⟩ := fresh W1 #[.float .f64 x] 32
  obtain ⟨W3, hW3, g3, hb3⟩ := fresh W2 #[.bool left] 4
  obtain ⟨W4, hW4, g4, hb4⟩ := fresh W3 #[.func (.func 43) #[] #[.pointer (some ⟨w.heap.size + 1 + 1, 0, none⟩), .pointer (some ⟨w.heap.size + 1, 0, none⟩)]] 63
  have z1 : W1.heap.size = w.heap.size + 1 := by rw [← hW1]; simp
  have z2 : W2.heap.size = w.heap.size + 1 + 1 := by rw [← hW2]; simp [z1]
  have c1 := g3.cell (g2.cell (hb1 0 _ rfl))
  have c2 := g3.cell (hb2 0 _ rfl)
  have c3 := hb3 0 _ rfl
  have c4 := hb4 0 _ rfl
  rw [z1] at c2
  rw [z2] at c3
  have hsc : ScM W4 op x left w.heap.size (w.heap.size + 1) (w.heap.size + 1 + 1) W3.heap.size := ⟨g4.cell c1, g4.cell c2, g4.cell c3, c4⟩
  have d1 := hsc.o
  have hmf : ∀ (fn : Fn) (first cap : Array Value) (w : World), (Instr.makeFunc fn first cap).run Tryd.prog w = .ok (.func fn first cap) w := fun _ _ _ _ => rfl
  have G3 := Lib.hid ((g1.trans g2).trans g3)
  have G4 := Lib.hid (((g1.trans g2).trans g3).trans g4)
  have HW1 := Lib.hid hW1; have HW2 := Lib.hid hW2; have HW3 := Lib.hid hW3; have HW4 := Lib.hid hW4
  clear hW1 g1 hb1 hW2 g2 hb2 hW3 g3 hb3 hW4 g4 hb4 z1 z2 hsc c4 d1
  rcases ho with ho | ho
  · go_enter Tryd.func17, Tryd.ntmps17
    go_upto_region 1 with fail
    rw [HW1.out, HW2.out, HW3.out]
    go_wp2
    go_ret2
    exact ⟨none, 0, rfl, PtsAt.nil _ _, by simp, by unfold maxLen; omega, G3.out⟩
  · have h2 : 1 ≤ op := by omega
    go_enter Tryd.func17, Tryd.ntmps17
    go_upto_region 1 with fail
    rw [HW1.out, HW2.out, HW3.out]
    go_wp2
    go_ret2
    exact ⟨none, 0, rfl, PtsAt.nil _ _, by simp, by unfold maxLen; omega, G3.out⟩
/-- Scaled's points, its error -/
def scF (op : Int) (left : Bool) (x : Nat) (p : Pt) : Pt := nmP (fun y => Fv.opV op (sdA left x y) (sdB left x y)) p
def scW (op : Int) (left : Bool) (x : Nat) (l : List Pt) : List Pt := whP (fun y => Fv.holdsB op (sdA left x y) (sdB left x y)) l
def scV (op : Int) (x : Nat) (left flag : Bool) (l : List Pt) : List Pt := if op < 1 ∨ 10 < op then [] else if filB op flag then scW op left x l else norV (l.map (scF op left x))
def scE (op : Int) (x : Nat) (left flag : Bool) (l : List Pt) : Int := if op < 1 ∨ 10 < op then 1 else if filB op flag then 0 else norE (l.map (scF op left x))
theorem scaled_any (op : Int) (x : Nat) (left flag : Bool) (A : Option Addr) (l : List Pt) (c : Nat) (w : World) (h : PtsAt w A l) (hs : SmP l) (ht : Fv.Tab w) :
    Calls Tryd.prog 17 #[.slice A l.length c, .int .i64 op, .float .f64 x, .bool left, .bool flag] w (VPost (scV op x left flag l) (scE op x left flag l) w) := by
  unfold scV scE
  by_cases ho : op < 1 ∨ 10 < op
  · rw [if_pos ho, if_pos ho]
    exact scaled_no op x left flag A _ c w ho
  rw [if_neg ho, if_neg ho]
  cases hf : filB op flag
  · rw [if_neg (by simp), if_neg (by simp)]
    cases flag
    · have h4 : 1 ≤ op ∧ op ≤ 4 := by
        simp only [filB, Bool.not_false, Bool.and_true, Bool.and_eq_false_iff, decide_eq_false_iff_not] at hf
        omega
      exact scaled_opf op x left A l c w h hs ht h4
    · exact scaled_opt op x left A l c w h hs ht (by omega)
  · rw [if_pos rfl, if_pos rfl]
    simp only [filB, Bool.and_eq_true, decide_eq_true_eq, Bool.not_eq_true'] at hf
    obtain ⟨⟨h1, h2⟩, rfl⟩ := hf
    exact scaled_fil op x left A l c w h hs ⟨h1, h2⟩
end Go.Proofs.YtoooaipbkkiefaaDoor.Pt
