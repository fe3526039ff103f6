/- chosen, the program's: the library's stable sort. -/
import Derived.Test.YtllhkegefinlbaaGreatDoorGOut
import Derived.Test.YtllhkegefinlbaaGreatDoorGStable
import Derived.Test.YtllhkegefinlbaaGreatDoorPNorm
import Derived.Test.YtllhkegefinlbaaGreatDoorGGat
namespace Go.Proofs.YtllhkegefinlbaaGreatDoor.Pt
open Go.RowKit Go.Sort
set_option maxRecDepth 100000
set_option maxHeartbeats 4000000
attribute [local irreducible] wpQuiet

/-- the laws on stores lack functions -/
@[go_sem] theorem run_store_func (P : Program) (w : World) (a : Addr) (m : Mode) (f : Fn) (x y : Array Value) : (store a (.func f x y) m).run P w = stored P w a (.func f x y) m := run_store P w a _ m rfl
theorem cmpC_any (tp : Bool) (ca : Nat) (x y : Gs.Po tp) (W : World) (hc : W.cell? ⟨ca, 0, none⟩ = some (.func (.func (ordF tp)) #[] #[])) (ht : Fv.Tab W) :
    Calls Tryz.prog 47 #[.agg #[.slice x.sa x.sn x.sc, .float .f64 x.fb], .agg #[.slice y.sa y.sn y.sc, .float .f64 y.fb], .pointer (some ⟨ca, 0, none⟩)] W fun e w' => e = .returned (.int .i64 (cmpI x.k y.k)) ∧ Gn W w' := by
  have eg : ∀ args w, (callFunc (ordF tp) args).run Tryz.prog w = .ok (.enter (ordF tp) args) w := by
    cases tp
    · exact enters_of Tryz.func77 (by kernel_rfl) rfl
    · exact enters_of Tryz.func75 (by kernel_rfl) rfl
  have CA := Lib.hid (fun W' (t : Fv.Tab W') => ord_any tp x.fb y.fb W' x.lt y.lt t)
  have CB := Lib.hid (fun W' (t : Fv.Tab W') => ord_any tp y.fb x.fb W' y.lt x.lt t)
  have HK : Hid (cmpI x.k y.k = if decide (Gs.ordK tp x.fb < Gs.ordK tp y.fb) then -1 else if decide (Gs.ordK tp y.fb < Gs.ordK tp x.fb) then 1 else 0) := Lib.hid (by
    unfold cmpI Gs.Po.k
    by_cases h1 : Gs.ordK tp x.fb < Gs.ordK tp y.fb
    · simp [h1]
    · by_cases h2 : Gs.ordK tp y.fb < Gs.ordK tp x.fb
      · simp [h1, h2]
      · simp [h1, h2])
  obtain ⟨xa, hxa⟩ : ∃ v, x.sa = v := ⟨_, rfl⟩
  obtain ⟨xn, hxn⟩ : ∃ v, x.sn = v := ⟨_, rfl⟩
  obtain ⟨xc, hxc⟩ : ∃ v, x.sc = v := ⟨_, rfl⟩
  obtain ⟨xb, hxb⟩ : ∃ v, x.fb = v := ⟨_, rfl⟩
  obtain ⟨ya, hya⟩ : ∃ v, y.sa = v := ⟨_, rfl⟩
  obtain ⟨yn, hyn⟩ : ∃ v, y.sn = v := ⟨_, rfl⟩
  obtain ⟨yc, hyc⟩ : ∃ v, y.sc = v := ⟨_, rfl⟩
  obtain ⟨yb, hyb⟩ : ∃ v, y.fb = v := ⟨_, rfl⟩
  obtain ⟨K, hKe⟩ : ∃ v, cmpI x.k y.k = v := ⟨_, rfl⟩
  rw [hxb, hyb] at CA CB HK
  rw [hKe] at HK
  rw [hxa, hxn, hxc, hxb, hya, hyn, hyc, hyb, hKe]
  obtain ⟨p, hp⟩ : ∃ p, decide (Gs.ordK tp xb < Gs.ordK tp yb) = p := ⟨_, rfl⟩
  obtain ⟨q, hq⟩ : ∃ p, decide (Gs.ordK tp yb < Gs.ordK tp xb) = p := ⟨_, rfl⟩
  rw [hp] at CA HK
  rw [hq] at CB HK
  obtain ⟨F, hF⟩ : ∃ F, ordF tp = F := ⟨_, rfl⟩
  rw [hF] at CA CB hc eg
  clear hxa hxn hxc hxb hya hyn hyc hyb hKe hp hq hF x y
  obtain ⟨W1, hW1, g1, hb1⟩ := fresh W #[.slice xa xn xc, .float .f64 xb] 45
  obtain ⟨W2, hW2, g2, hb2⟩ := fresh W1 #[.slice ya yn yc, .float .f64 yb] 45
  have z1 : W1.heap.size = W.heap.size + 1 := by rw [← hW1]; simp
  have hn2 : Gn W W2 := by rw [← hW2, ← hW1]; exact ((Gn.refl _).alloc _).alloc _
  have a1 := g2.cell (hb1 1 _ rfl)
  have b1 := hb2 1 _ rfl
  rw [z1] at b1
  have c1 := (g1.trans g2).cell hc
  have HT := Lib.hid ((ht.gv g1).gv g2)
  have HW1 := Lib.hid hW1; have HW2 := Lib.hid hW2; have HN := Lib.hid hn2
  clear hW1 g1 hb1 hW2 g2 hb2 z1 hc ht hn2
  obtain ⟨N, hN⟩ : ∃ N, W.heap.size = N := ⟨_, rfl⟩
  rw [hN] at a1 b1
  have HNN := Lib.hid hN
  clear hN
  have HGN : Hid (∀ n, Gn W (W2.drewN n)) := Lib.hid (fun n => HN.out.trans ⟨n, #[], by rw [grow_empty]⟩)
  cases p
  · cases q
    all_goals
      go_enter Tryz.func47, Tryz.ntmps47
      go_upto_region 1 with fail
      rw [HW1.out, HW2.out, HNN.out]
      go_wp2_with fail
      refine (CA.out _ HT.out).mono ?_
      rintro e w3 ⟨rfl, n3, rfl⟩
      go_wp2_with fail
      refine (CB.out _ (HT.out.drewN _)).mono ?_
      rintro e w4 ⟨rfl, n4, rfl⟩
      go_wp2
      go_ret
      exact ⟨by rw [HK.out]; rfl, HGN.out _⟩
  · go_enter Tryz.func47, Tryz.ntmps47
    go_upto_region 1 with fail
    rw [HW1.out, HW2.out, HNN.out]
    go_wp2_with fail
    refine (CA.out _ HT.out).mono ?_
    rintro e w3 ⟨rfl, n3, rfl⟩
    go_wp2
    go_ret
    exact ⟨by rw [HK.out]; rfl, HGN.out _⟩
/-- cells and points side by side, the values' bits within bounds -/
structure Zp (w : World) where
  c : Pc
  p : Pt
  lt : c.2 < 2 ^ 64
  rd : Rd w c p
theorem zipped {w : World} {ds : List Pc} {ps : List Pt} (h : Rds w ds ps) (hb : ∀ p ∈ ps, p.2 < 2 ^ 64) : ∃ Z : List (Zp w), Z.map Zp.c = ds ∧ Z.map Zp.p = ps := by
  induction ds generalizing ps with
  | nil =>
    have := h.len
    cases ps with
    | nil => exact ⟨[], rfl, rfl⟩
    | cons p r => simp at this
  | cons c cs ih =>
    have hl := h.len
    cases ps with
    | nil => simp at hl
    | cons p r =>
      have h0 := h.rd 0 c p rfl rfl
      obtain ⟨Z, e1, e2⟩ := ih (ps := r) ⟨by simpa using hl, fun k c' p' hc hp => h.rd (k + 1) c' p' (by simpa using hc) (by simpa using hp)⟩ (fun q hq => hb q (by simp [hq]))
      have hlt : c.2 < 2 ^ 64 := by rw [h0.1]; exact hb p (by simp)
      exact ⟨⟨c, p, hlt, h0⟩ :: Z, by rw [List.map_cons, e1], by rw [List.map_cons, e2]⟩
theorem zip_rds {w : World} (Z : List (Zp w)) : Rds w (Z.map Zp.c) (Z.map Zp.p) := by
  refine ⟨by simp, fun k c p hc hp => ?_⟩
  rw [List.getElem?_map] at hc hp
  cases e : Z[k]? with
  | none => rw [e] at hc; cases hc
  | some z =>
    rw [e] at hc hp
    obtain rfl : z.c = c := by simpa using hc
    obtain rfl : z.p = p := by simpa using hp
    exact z.rd
def Zp.po {w : World} (tp : Bool) (z : Zp w) : Gs.Po tp := ⟨z.c, z.lt⟩
/-- sorted cells are those of the sorted points -/
theorem zip_sorted {w : World} {ds : List Pc} {ps : List Pt} (tp : Bool) (h : Rds w ds ps) (hb : ∀ p ∈ ps, p.2 < 2 ^ 64) : ∃ L : List (Gs.Po tp), L.map Gs.Po.pc = ds ∧ Rds w ((srtK Gs.Po.k L).map Gs.Po.pc) (srtK (kP tp) ps) := by
  obtain ⟨Z, e1, e2⟩ := zipped h hb
  have hk : (fun z : Zp w => Gs.Po.k (z.po tp)) = fun z => kP tp z.p := by
    funext z
    show Gs.ordK tp z.c.2 = Gs.ordK tp z.p.2
    rw [z.rd.1]
  refine ⟨Z.map (Zp.po tp), by rw [List.map_map, ← e1]; rfl, ?_⟩
  have h1 := srtK_map Gs.Po.k (Zp.po tp) Z
  have h2 := srtK_map (kP tp) Zp.p Z
  rw [e2] at h2
  rw [← h1, ← h2, hk, List.map_map]
  exact zip_rds _
/-- the group's row, as the sort has it -/
theorem OwnT.rowP {W : World} {B b c n : Nat} {tp : Bool} {L : List (Gs.Po tp)} (h : OwnT W B (.slice (some ⟨b, 0, none⟩) n c) (L.map Gs.Po.pc)) : Gs.RowP W b 0 L := by
  have hn : n = (L.map Gs.Po.pc).length := by
    rcases h.2 with ⟨e, -⟩ | ⟨g, cap, cur, e, -⟩
    · cases e
    · injection e
  subst hn
  have hw : W.ownsRow B 45 2 (.slice (some ⟨b, 0, none⟩) (L.map Gs.Po.pc).length c) (L.map Gs.Po.pc).length ((L.map Gs.Po.pc).flatMap encT) := h
  intro i x hx
  have hi := (List.getElem?_eq_some_iff.1 hx).1
  have hx2 : (L.map Gs.Po.pc)[i]? = some x.pc := by rw [List.getElem?_map, hx]; rfl
  obtain ⟨f1, f2⟩ := flat2_get encT (fun _ => rfl) _ i _ hx2
  have c1 := hw.cellAt (i * 2) (by simp; omega)
  have c2 := hw.cellAt (i * 2 + 1) (by simp; omega)
  rw [f1] at c1
  rw [f2] at c2
  rw [Nat.zero_add]
  exact ⟨⟨c1, hw.frozenAt _⟩, c2, hw.frozenAt _⟩
theorem rowP_at {W : World} {b : Nat} {tp : Bool} {L : List (Gs.Po tp)} (h : Gs.RowP W b 0 L) : At2 encT W (some ⟨b, 0, none⟩) (L.map Gs.Po.pc) := fun h0 => ⟨b, 0, rfl, fun i x hx u v hu => by
  rw [List.getElem?_map] at hx
  cases e : L[i]? with
  | none => rw [e] at hx; cases hx
  | some y =>
    rw [e] at hx
    obtain rfl : y.pc = x := by simpa using hx
    obtain ⟨⟨c1, -⟩, c2, -⟩ := h i y e
    simp only [encT] at hu
    injection hu with e1 e2
    injection e2 with e2
    subst e1; subst e2
    exact ⟨c1, c2⟩⟩
theorem Tab.only {w W : World} {b : Nat} (h : Fv.Tab w) (g : w.grownBy W (some b)) (hb : b ≠ 1) : Fv.Tab W := ⟨g.cell h.c0 (by simpa using fun e => hb e.symm), g.cell h.c1 (by simpa using fun e => hb e.symm), g.cell h.c2 (by simpa using fun e => hb e.symm), g.cell h.c3 (by simpa using fun e => hb e.symm)⟩
/-- what chosen hands back: the first of the row, which stands in order now -/
def ChsPost (w0 : World) (b c : Nat) (op : Int) (k : Nat) (ps : List Pt) (w : World) (e : Ending) (w' : World) : Prop :=
  e = .returned (.slice (some ⟨b, 0, none⟩) (chsP op k ps).length c) ∧ w.grownBy w' (some b) ∧ ∃ ds, At2 encT w' (some ⟨b, 0, none⟩) ds ∧ Rds w0 ds (chsP op k ps)
theorem chosen_any (LA : Option Addr) (ln lc : Nat) (b c B : Nat) (op : Int) (k : Nat) (ds : List Pc) (ps : List Pt) (w0 w : World) (h : OwnT w B (.slice (some ⟨b, 0, none⟩) ps.length c) ds) (hr : Rds w0 ds ps) (hb : ∀ p ∈ ps, p.2 < 2 ^ 64) (h0 : 0 < ps.length) (hl : ps.length ≤ 1000) (hc : ps.length ≤ c) (ht : Fv.Tab w) :
    Calls Tryz.prog 19 #[.agg #[.slice LA ln lc, .slice (some ⟨b, 0, none⟩) ps.length c], .int .i64 op, .float .f64 k] w (ChsPost w0 b c op k ps w) := by
  obtain ⟨tp, htp⟩ : ∃ t, (op == 6) = t := ⟨_, rfl⟩
  obtain ⟨L, hL, hsr⟩ := zip_sorted tp hr hb
  have hrow : Gs.RowP w b 0 L := OwnT.rowP (n := ps.length) (c := c) (B := B) (by rw [hL]; exact h)
  have hLl : L.length = ps.length := by rw [← hr.len, ← hL]; simp
  have hbne : b ≠ 1 := fun e => by
    subst e
    have h1 := (hrow 0 _ (List.getElem?_eq_getElem (by omega : 0 < L.length))).1.1
    have h2 := ht.c0
    rw [show (0 : Nat) + 0 * 2 = 0 from rfl] at h1
    rw [h1] at h2; cases h2
  have hbw : b < w.heap.size := hrow.lt (by omega)
  obtain ⟨n, hn⟩ : ∃ n, ps.length = n := ⟨_, rfl⟩
  obtain ⟨W1, hW1, g1, hb1⟩ := fresh w #[.slice LA ln lc, .slice (some ⟨b, 0, none⟩) n c] 52
  have z1 : W1.heap.size = w.heap.size + 1 := by rw [← hW1]; simp
  obtain ⟨W2, hW2, g2, hb2⟩ := fresh W1 #[.func (.func (ordF tp)) #[] #[]] 62
  have x1 := g2.cell (hb1 1 _ rfl)
  have x2 := hb2 0 _ rfl
  rw [z1] at x2
  have CO := Lib.hid (fun W => order_any op W)
  rw [htp] at CO
  have hC : Gs.Cmps tp (w.heap.size + 1) W2 b := fun W g x y => cmpC_any tp _ x y W (g.cell x2 (by simp; omega)) (Tab.only ((ht.gv g1).gv g2) g hbne)
  have CS := Lib.hid (Gs.sortStable_any b 0 c n L W2 ((hrow.gr g1).gr g2) (by omega) (by omega) (by omega) hC)
  have HL := Lib.hid hLl
  have HG2 := Lib.hid (g1.trans g2); have HW1 := Lib.hid hW1; have HW2 := Lib.hid hW2
  have HSR := Lib.hid hsr
  have HX1 : Hid (W2.cell? ⟨w.heap.size, 1, none⟩ = some (.slice (some ⟨b, 0, none⟩) n c)) := Lib.hid x1
  have HZ := Lib.hid z1
  have HB := Lib.hid hbw
  have HCH : Hid (chsP op k ps = (srtK (kP tp) ps).take (cutN k n)) := Lib.hid (by unfold chsP; rw [htp, hn])
  have CM := Lib.hid (fun W => atMost_any k n W (by omega))
  have hcn := cutN_le k n
  have HCL : Hid ((chsP op k ps).length = cutN k n) := Lib.hid (by rw [HCH.out, List.length_take, srtK_len, hn]; omega)
  rw [hn] at h0 hl hc ⊢
  clear htp hC hrow hLl hsr hr h hL hb ht g1 g2 hb1 hb2 hW1 hW2 x1 z1 hbw hn hbne x2
  go_enter Tryz.func19, Tryz.ntmps19
  go_wp2_with fail
  rw [HW1.out]
  refine (CO.out _).mono ?_
  rintro e w' ⟨rfl, rfl⟩
  go_upto_region 2 with fail
  rw [HW2.out, HZ.out]
  have x1 := HX1.out
  go_wp2_with fail
  refine CS.out.mono ?_
  rintro e w3 ⟨rfl, r, hA, hE, hR⟩
  have hr := srt_unique hA hE
  have HR := Lib.hid hR
  have x3 : w3.cell? ⟨w.heap.size, 1, none⟩ = some (.slice (some ⟨b, 0, none⟩) n c) := hR.g.cell x1 (by have := HB.out; simp; omega)
  have HFIN : Hid (ChsPost w0 b c op k ps w (.returned (.slice (some ⟨b, 0, none⟩) (cutN k n) c)) w3) := Lib.hid (by
    refine ⟨by rw [HCL.out], ?_, (r.map Gs.Po.pc).take (cutN k n), (rowP_at hR.r).take _, ?_⟩
    · have g := HG2.out.gb
      exact ⟨hR.g.os.trans g.os, hR.g.tape.trans g.tape, hR.g.output.trans g.output, Nat.le_trans g.size hR.g.size, fun i hi hne => (hR.g.block i (Nat.lt_of_lt_of_le hi g.size) hne).trans (g.block i hi (by simp))⟩
    · rw [HCH.out, hr]
      exact HSR.out.take _)
  clear hA hE hR hr x1
  obtain ⟨m, hm⟩ : ∃ m, cutN k n = m := ⟨_, rfl⟩
  rw [hm] at HFIN hcn CM
  clear hm
  have hmc : m ≤ c := by omega
  have HFD : Hid (∀ q, ChsPost w0 b c op k ps w (.returned (.slice (some ⟨b, 0, none⟩) m c)) (w3.drewN q)) := Lib.hid (fun q => by
    obtain ⟨h1, h2, ds, h3, h4⟩ := HFIN.out
    exact ⟨h1, ⟨h2.os, h2.tape, h2.output, h2.size, h2.block⟩, ds, h3.gr ((Gr.refl _).drewN q), h4⟩)
  go_wp2_with fail
  go_quiet (exact quiet_left (CM.out _))
  go_wp2
  go_ret
  exact HFD.out _
end Go.Proofs.YtllhkegefinlbaaGreatDoor.Pt
