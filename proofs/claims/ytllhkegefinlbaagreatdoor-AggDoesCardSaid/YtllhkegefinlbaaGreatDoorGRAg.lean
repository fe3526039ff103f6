/- Agg, the reference's. -/
import Derived.Test.YtllhkegefinlbaaGreatDoorGSwap
import Derived.Test.YtllhkegefinlbaaGreatDoorGAgg
import Derived.Test.YtllhkegefinlbaaGreatDoorRefGroup
import Derived.Deep.RegionHeld3
namespace Go.Proofs.YtllhkegefinlbaaGreatDoor.Pt
open Go.RowKit Go.Sort
set_option maxRecDepth 100000
set_option maxHeartbeats 8000000
attribute [local irreducible] wpQuiet

theorem doneTo_at {f : Pt → List Lb} {l : List Pt} {i j : Nat} (hj : j < l.length) : (doneTo f l i j)[j]? = some (memB (keysP f (l.take i)) (f l[j])) := by
  unfold doneTo
  have l1 := doneL_len f l (i + 1)
  rw [List.getElem?_append_right (by rw [List.length_take]; omega), List.length_take, List.getElem?_drop, ← doneL_at (i := i) hj]
  congr 1
  omega
theorem doneTo_no {f : Pt → List Lb} {l : List Pt} {i j : Nat} (hi : i < l.length) (hj : j < l.length) (g : memB (keysP f (l.take i)) (f l[i]) = false) (h : f l[j] ≠ f l[i]) : doneTo f l i (j + 1) = doneTo f l i j := by
  rw [doneTo_s hj, (done_out hi g).2.1 l[j], decide_eq_false h, Bool.or_false]
  apply List.ext_getElem?
  intro m
  rw [List.getElem?_set, doneTo_len f l i (by omega)]
  by_cases e : j = m
  · subst e
    rw [if_pos rfl, if_pos hj, doneTo_at hj]
  · rw [if_neg e]
theorem doneTo_yes {f : Pt → List Lb} {l : List Pt} {i j : Nat} (hi : i < l.length) (hj : j < l.length) (g : memB (keysP f (l.take i)) (f l[i]) = false) (h : f l[j] = f l[i]) : doneTo f l i (j + 1) = (doneTo f l i j).set j true := by
  rw [doneTo_s hj, (done_out hi g).2.1 l[j], decide_eq_true h, Bool.or_true]
theorem mem_self {f : Pt → List Lb} {l : List Pt} {i : Nat} (hi : i < l.length) : memG f (f l[i]) l ≠ [] := fun e => by
  have : l[i] ∈ memG f (f l[i]) l := List.mem_filter.2 ⟨List.getElem_mem hi, decide_eq_true rfl⟩
  rw [e] at this; simp at this
theorem keys_pre (f : Pt → List Lb) (l : List Pt) (m : Nat) : ∃ t, keysP f l = keysP f (l.take m) ++ t := by
  have key : ∀ (r ks : List (List Lb)), ∃ t, r.foldl keyStep ks = ks ++ t := by
    intro r
    induction r with
    | nil => exact fun ks => ⟨[], by simp⟩
    | cons a r ih =>
      intro ks
      rw [List.foldl_cons]
      obtain ⟨t, ht⟩ := ih (keyStep ks a)
      unfold keyStep at ht ⊢
      split at ht
      · rename_i h
        rw [if_pos h]
        exact ⟨t, ht⟩
      · rename_i h
        rw [if_neg h]
        exact ⟨a :: t, by rw [ht]; simp⟩
  obtain ⟨t, ht⟩ := key ((l.drop m).map f) (keysP f (l.take m))
  refine ⟨t, ?_⟩
  rw [← ht]
  unfold keysP
  rw [← List.foldl_append, ← List.map_append, List.take_append_drop]
theorem glab_lt {W : World} {A : Option Addr} {l : List Lb} {n c b : Nat} (h : LabsAt W A l) (h0 : 0 < l.length) (hb : (Value.slice A n c).ownBlock = some b) : b < W.heap.size := by
  obtain ⟨b', o, rfl, hc⟩ := h h0
  have e : some b' = some b := hb
  injection e with e
  subst e
  exact World.block_lt_of_cell? W _ (hc 0 _ (List.getElem?_eq_getElem h0)).1
theorem ragg_main (op how : Int) (k : Nat) (A N : Option Addr) (l : List Pt) (c d : Nat) (ns : List ByteArray) (w : World) (h : PtsAt w A l) (hs : SmP l) (hN : StrsAt w N ns) (hl : ns.length ≤ d) (hd : d ≤ maxLen) (hz : ∀ s ∈ ns, s.size ≤ maxLen) (hns : ns.length ≤ 1000)
    (hA : isA op = true) (hC : chkG how ns = true) (hb : ∀ p ∈ l, p.2 < 2 ^ 64) :
    Calls Tryz.prog 8 #[.int .i64 op, .agg #[.int .i64 how, .slice N ns.length d], .float .f64 k, .slice A l.length c] w (VPost (norV (aggP op (grpF how ns) k l)) (norE (aggP op (grpF how ns) k l)) w) := by
  have hlen : l.length ≤ 1000 := hs.1
  obtain ⟨n, hn⟩ : ∃ n, l.length = n := ⟨_, rfl⟩
  obtain ⟨nn, hnn⟩ : ∃ nn, ns.length = nn := ⟨_, rfl⟩
  have HNL := Lib.hid hn; have HNN := Lib.hid hnn
  have hmk := run_make_row' (P := Tryz.prog) 57 4 (.bool false) 1 Tryz.underlying57 info_bool rfl .i64 .i64 n (by omega) (by omega)
  obtain ⟨W1, hW1, g1, hb1⟩ := fresh w #[.int .i64 how, .slice N nn d] 24
  have a0 := hb1 0 (.int .i64 how) rfl
  have a1 := hb1 1 (.slice N nn d) rfl
  have CC := rcheck_any N ns d how W1 (hN.gr g1) hl hd hz
  rw [hC, show ckV true = 0 from rfl, hnn] at CC
  have CC := Lib.hid CC
  have CT := Lib.hid (fun W => rtakes_any op W)
  have HL := Lib.hid (h.gr g1); have HS := Lib.hid hs; have HNS := Lib.hid (hN.gr g1); have HBD := Lib.hid hb
  have HSM := Lib.hid (agg_sm hs op how ns k)
  have HNS1 := Lib.hid hns
  obtain ⟨o1, o2⟩ : 1 ≤ op ∧ op ≤ 8 := by unfold isA at hA; simpa using hA
  have HOP := Lib.hid hA
  have o3 : ¬ op < 1 := by omega
  have o4 : ¬ 8 < op := by omega
  have HW1 := Lib.hid hW1; have HG1 := Lib.hid g1
  obtain ⟨P, hP⟩ : ∃ P, w.heap.size = P := ⟨_, rfl⟩
  rw [hP] at a0 a1
  have HP := Lib.hid hP
  obtain ⟨f, hf⟩ : ∃ f, grpF how ns = f := ⟨_, rfl⟩
  rw [hf] at HSM ⊢
  have HF := Lib.hid hf
  rw [hn, hnn]
  rw [hn] at hlen
  clear h hs hN hl hd hz hns hA hC hb hW1 g1 hb1 hP hf hn hnn o1 o2
  go_enter Tryz.func8, Tryz.ntmps8
  go_upto_region 1 with fail
  rw [HW1.out, HP.out]
  go_wp2_with fail
  refine CC.out.mono ?_
  rintro e w2 ⟨rfl, g2⟩
  have G2 := Lib.hid g2
  have HM := Lib.hid (own1_made (enc := encB) (T := 4) (B := W1.heap.size) w2 false n g2.size (by unfold maxLen; omega))
  obtain ⟨W0, hW0, g0, -⟩ := fresh w2 (madeCells #[encB false] n) 4
  rw [hW0] at HM
  have HW0 := Lib.hid hW0
  obtain ⟨D, hD⟩ : ∃ D, w2.heap.size = D := ⟨_, rfl⟩
  rw [hD] at HM
  have HD := Lib.hid hD
  have H0 : Hid (RAg W1 W0 D (doneL f l 0) (.slice none 0 0) [] []) := Lib.hid ⟨PSt.none_ (g2.trans g0), by
    rw [doneL_len, doneL_0, HNL.out]
    exact HM.out, fun k c q hc => by simp at hc⟩
  clear g2 g0 hW0 hD CC HM
  go_wp2
  rw [show w2.alloc (.cells (madeCells #[.bool false] n) 4) = W0 from HW0.out, HD.out]
  clear hmk
  go_loopw [10, 12] (fun v i wr => ∃ (m : Nat) (cs : List Pc) (l' : List Pt), m ≤ n ∧ i = .int .i64 m ∧ Hid (RAg W1 wr D (doneL f l m) v cs l') ∧ Hid (EqC l' (outTo op f k l m))) (fun _ i _ => n - (intOf i).toNat)
  case atStart => exact ⟨0, [], [], Nat.zero_le _, rfl, H0, Lib.hid (EqC.refl _)⟩
  case round =>
    clear H0
    obtain ⟨m, cs, l', hm, rfl, HG, HE⟩ := hrel
    by_cases hlt : m < n
    · have hml : m < l.length := by rw [HNL.out]; exact hlt
      have hg := HG.out.p.g
      have HGG := Lib.hid hg
      obtain ⟨x, hx⟩ : ∃ x, f l[m] = x := ⟨_, rfl⟩
      obtain ⟨t, ht⟩ : ∃ t, memB (keysP f (l.take m)) x = t := ⟨_, rfl⟩
      have cD : wr.cell? ⟨D, m, none⟩ = some (.bool t) := by
        have hb : m < (doneL f l m).length := by rw [doneL_len]; exact hml
        have h1 := (Own1.cellAt HG.out.d rfl hb).1
        have h2 := List.getElem?_eq_getElem hb
        rw [doneL_at hml, hx, ht] at h2
        rw [h1, ← Option.some.inj h2]; rfl
      have n1 : (m : Int) < (n : Int) := by omega
      have n2 : (0 : Int) ≤ (m : Int) := by omega
      cases t
      · have HMN : Hid (memB (keysP f (l.take m)) (f l[m]) = false) := Lib.hid (by rw [hx]; exact ht)
        have HXM := Lib.hid hx
        have HML := Lib.hid hml
        have HMG0 : Hid (memG f x (l.take m) = []) := Lib.hid (by have := (done_out hml HMN.out).2.2; rwa [hx] at this)
        obtain ⟨b, o, s1, m1, hA, c1, -, la1, hbl⟩ := HL.out.cell hml
        have hsl := HS.out.at_ hml
        obtain ⟨y, hy⟩ : ∃ y, l[m]'hml = y := ⟨_, rfl⟩
        rw [hy] at c1 la1 hsl hx
        have hxy : groupL y.1 how ns = x := by rw [← hx, ← HF.out]; rfl
        have hxl : x.length ≤ 1000 := by rw [← hxy]; exact (hsl.group how ns).1
        have CG := fun W' (g : Gr wr W') => rGroupF_any s1 N y.1 ns m1 d how W' (la1.gr (hg.trans g)) (HNS.out.gr (hg.trans g)) (by have := hsl.1; omega) (by have := HNS1.out; omega)
        obtain ⟨xn, hxn⟩ : ∃ xn, x.length = xn := ⟨_, rfl⟩
        obtain ⟨yn, hyn⟩ : ∃ yn, y.1.length = yn := ⟨_, rfl⟩
        rw [hxy, HNN.out, hyn] at CG
        unfold NewPost at CG
        simp only [hxn] at CG
        rw [hyn] at c1
        have CG := Lib.hid CG
        have HXN := Lib.hid hxn
        have q1 := hg.cell c1
        have a0' := hg.cell a0; have a1' := hg.cell a1
        have f3 : o + m * 2 = m * 2 + o := Nat.add_comm _ _
        clear hx ht la1 hsl hy hxy hxn hyn f3 c1
        subst hA
        go_upto_region 9 with fail
        go_region_held3 (fun w' => w'.cell? ⟨b, o + m * 2, none⟩ = some (.slice s1 yn m1) ∧ w'.cell? ⟨P, 0, none⟩ = some (.int .i64 how) ∧ w'.cell? ⟨P, 1, none⟩ = some (.slice N nn d))
          (first | exact ks4 | exact ⟨q1, a0', a1'⟩ | go_keep)
          (first
            | (go_simp
               go_at_call 22
               refine (CG.out _ ?_).mono ?_
               · repeat (first | exact Gr.refl _ | refine Gr.drew ?_ | refine Gr.alloc ?_ _ _)
               rintro e w4 ⟨KA, kc, rfl, hkl, g4, hkf⟩
               have gl4 : Gr wr w4 := Gr.trans (by repeat (first | exact Gr.refl _ | refine Gr.drew ?_ | refine Gr.alloc ?_ _ _)) g4
               have hkf2 : ∀ b, (Value.slice KA xn kc).ownBlock = some b → wr.heap.size ≤ b := fun b hb => by
                 have h := hkf b hb
                 refine Nat.le_trans (Gr.size ?_) h
                 repeat (first | exact Gr.refl _ | refine Gr.drew ?_ | refine Gr.alloc ?_ _ _)
               have ks4 : w4.cell? ⟨b, o + m * 2, none⟩ = some (.slice s1 yn m1) ∧ w4.cell? ⟨P, 0, none⟩ = some (.int .i64 how) ∧ w4.cell? ⟨P, 1, none⟩ = some (.slice N nn d) := ⟨gl4.cell q1, gl4.cell a0', gl4.cell a1'⟩))
        have HI0 : Hid (RIn W1 w4 w4.heap.size D (doneL f l m) u10 cs l' (.slice none 0 0) [] [] (.slice none 0 0) [] ⟨KA, xn, kc⟩ x) := Lib.hid (RIn.start (HG.out.gr gl4) ⟨HXN.out.symm, hkl⟩ (fun h0 b hb => by
          have h1 := glab_lt hkl h0 (n := xn) (c := kc) hb
          have h2 := hkf2 b hb
          have h3 := HG.out.hD.2
          exact ⟨h1, by omega, fun e => by have := (HG.out.p.row.lt e).2; omega⟩))
        obtain ⟨B, hB⟩ : ∃ B, w4.heap.size = B := ⟨_, rfl⟩
        rw [hB] at HI0
        clear ks4 hkl g4 hkf hkf2 CG a0' a1' q1 hB HG gl4
        have HI1 : Hid (RIn W1 w4 B D (doneTo f l m m) u10 cs l' (.slice none 0 0) [] (memG f x (l.take m)) (.slice none 0 0) ((memG f x (l.take m)).map (·.2)) ⟨KA, xn, kc⟩ x) := Lib.hid (by
          rw [HMG0.out, doneTo_0 (Nat.le_of_lt HML.out)]
          exact HI0.out)
        clear HI0
        go_wp2_with fail
        go_loopw [14, 15, 16] (fun vi vv j wi => ∃ (q : Nat) (ci : List Pc), m ≤ q ∧ q ≤ n ∧ j = .int .i64 q ∧ Hid (RIn W1 wi B D (doneTo f l m q) u10 cs l' vi ci (memG f x (l.take q)) vv ((memG f x (l.take q)).map (·.2)) ⟨KA, xn, kc⟩ x)) (fun _ _ j _ => n - (intOf j).toNat)
        case atStart => exact ⟨m, [], Nat.le_refl _, by omega, rfl, HI1⟩
        case round =>
          clear HI1
          obtain ⟨q, ci, hmq, hqn, rfl, HI⟩ := hrel
          by_cases hql : q < n
          · have hq3 : q < l.length := by rw [HNL.out]; exact hql
            have gi := HI.out.a.p.g
            obtain ⟨b2, o2, s2, m2, hA2, p1, p2, la2, hb2⟩ := HL.out.cell hq3
            obtain ⟨rfl, rfl⟩ : b = b2 ∧ o = o2 := by injection hA2 with e; injection e with e1 e2; exact ⟨e1, e2⟩
            have hsq := HS.out.at_ hq3
            have HTK := memG_take_s (f := f) (x := x) hq3
            have HDN : f l[q] ≠ x → doneTo f l m (q + 1) = doneTo f l m q := fun e => doneTo_no HML.out hq3 HMN.out (by rw [HXM.out]; exact e)
            have HDY : f l[q] = x → doneTo f l m (q + 1) = (doneTo f l m q).set q true := fun e => doneTo_yes HML.out hq3 HMN.out (by rw [HXM.out]; exact e)
            have HDL : (doneTo f l m q).length = n := by rw [doneTo_len f l m (by omega)]; exact HNL.out
            have hmq3 : (memG f x (l.take q)).length ≤ 1000 := by
              refine Nat.le_trans (memG_len _ _ _) ?_
              rw [List.length_take]; omega
            obtain ⟨z, hz⟩ : ∃ z, f (l[q]'hq3) = z := ⟨_, rfl⟩
            rw [hz] at HTK HDN HDY
            obtain ⟨y2, hy2⟩ : ∃ y, l[q]'hq3 = y := ⟨_, rfl⟩
            rw [hy2] at p1 p2 la2 hsq HTK hz
            have hzy : groupL y2.1 how ns = z := by rw [← hz, ← HF.out]; rfl
            have hzl : z.length ≤ 1000 := by rw [← hzy]; exact (hsq.group how ns).1
            have CG := fun W' (g : Gr wr W') => rGroup_any s2 N y2.1 ns m2 d how W' (la2.gr (gi.trans g)) (HNS.out.gr (gi.trans g)) (by have := hsq.1; omega) (by have := HNS1.out; omega)
            have CS := fun W' (g : Gr wr W') LA lc (hl : LabsAt W' LA z) => same_any LA KA z x lc kc W' hl ((HI.out.key.gr g).2) (by omega) (by omega)
            rw [hzy] at CG
            obtain ⟨y2l, y2v⟩ := y2
            obtain ⟨y2n, hy2n⟩ : ∃ yn, y2l.length = yn := ⟨_, rfl⟩
            obtain ⟨zn, hzn⟩ : ∃ zn, z.length = zn := ⟨_, rfl⟩
            simp only [hy2n] at p1 p2 CG
            rw [HNN.out] at CG
            unfold ListPost at CG
            simp only [hzn] at CG
            simp only [hzn, HXN.out] at CS
            have CG := Lib.hid CG; have CS := Lib.hid CS
            have HTK := Lib.hid HTK; have HDN := Lib.hid HDN; have HDY := Lib.hid HDY; have HDL := Lib.hid HDL
            have HRD : Hid (Rd W1 ((⟨s2, y2n, m2⟩, y2v) : Pc) (y2l, y2v)) := Lib.hid ⟨rfl, hy2n.symm, la2⟩
            have r1 := gi.cell p1
            have a0' := gi.cell a0; have a1' := gi.cell a1
            have P1 := Lib.hid p1; have P2 := Lib.hid p2
            have HB2 := Lib.hid hb2
            have f1 : (q : Int) < (n : Int) := by omega
            have f2 : (0 : Int) ≤ (q : Int) := by omega
            obtain ⟨zb, hzb⟩ : ∃ zb, decide (z = x) = zb := ⟨_, rfl⟩
            have HZB := Lib.hid hzb
            have CS := CS.out
            rw [hzb] at CS
            have CS := Lib.hid CS
            clear hA2 hsq hz hy2 hzy hzl hy2n hzn hzb gi p1 p2 la2 hb2 hq3
            cases zb
            · have HN1 : Hid (doneTo f l m (q + 1) = doneTo f l m q) := Lib.hid (HDN.out (of_decide_eq_false HZB.out))
              have HN2 : Hid (memG f x (l.take (q + 1)) = memG f x (l.take q)) := Lib.hid (by rw [HTK.out, if_neg (of_decide_eq_false HZB.out)])
              go_upto_region 15 with fail
              go_region_held3 (fun w' => w'.cell? ⟨b, o + q * 2, none⟩ = some (.slice s2 y2n m2) ∧ w'.cell? ⟨P, 0, none⟩ = some (.int .i64 how) ∧ w'.cell? ⟨P, 1, none⟩ = some (.slice N nn d))
                (first | exact ks12 | exact ks11 | exact ⟨r1, a0', a1'⟩ | go_keep)
                (first
                  | (go_simp
                     go_at_call 22
                     refine (CG.out _ ?_).mono ?_
                     · repeat (first | exact Gr.refl _ | refine Gr.drew ?_ | refine Gr.alloc ?_ _ _)
                     rintro e w11 ⟨LA, lc, rfl, hl11, g11⟩
                     have gl11 : Gr wr w11 := Gr.trans (by repeat (first | exact Gr.refl _ | refine Gr.drew ?_ | refine Gr.alloc ?_ _ _)) g11
                     have ks11 : w11.cell? ⟨b, o + q * 2, none⟩ = some (.slice s2 y2n m2) ∧ w11.cell? ⟨P, 0, none⟩ = some (.int .i64 how) ∧ w11.cell? ⟨P, 1, none⟩ = some (.slice N nn d) := ⟨gl11.cell r1, gl11.cell a0', gl11.cell a1'⟩)
                  | (go_simp
                     go_at_call 23
                     refine (CS.out _ gl11 _ _ hl11).mono ?_
                     rintro e w12 ⟨rfl, g12⟩
                     have gl12 : Gr wr w12 := gl11.trans g12
                     have ks12 : w12.cell? ⟨b, o + q * 2, none⟩ = some (.slice s2 y2n m2) ∧ w12.cell? ⟨P, 0, none⟩ = some (.int .i64 how) ∧ w12.cell? ⟨P, 1, none⟩ = some (.slice N nn d) := ⟨gl12.cell r1, gl12.cell a0', gl12.cell a1'⟩))
              have HI2 := Lib.hid (HI.out.gr gl12)
              clear ks12 ks11 gl12 gl11 g12 g11 hl11
              go_wp2
              go_roundw
              case rel => exact ⟨q + 1, ci, by omega, by omega, by go_num, Lib.hid (by rw [HN1.out, HN2.out]; exact HI2.out)⟩
              case measure => simp [intOf]; omega
            · have HN1 : Hid (doneTo f l m (q + 1) = (doneTo f l m q).set q true) := Lib.hid (HDY.out (of_decide_eq_true HZB.out))
              have HN2 : Hid (memG f x (l.take (q + 1)) = memG f x (l.take q) ++ [(y2l, y2v)]) := Lib.hid (by rw [HTK.out, if_pos (of_decide_eq_true HZB.out)])
              go_upto_region 15 with fail
              go_region_held3 (fun w' => w'.cell? ⟨b, o + q * 2, none⟩ = some (.slice s2 y2n m2) ∧ w'.cell? ⟨P, 0, none⟩ = some (.int .i64 how) ∧ w'.cell? ⟨P, 1, none⟩ = some (.slice N nn d))
                (first | exact ks12 | exact ks11 | exact ⟨r1, a0', a1'⟩ | go_keep)
                (first
                  | (go_simp
                     go_at_call 22
                     refine (CG.out _ ?_).mono ?_
                     · repeat (first | exact Gr.refl _ | refine Gr.drew ?_ | refine Gr.alloc ?_ _ _)
                     rintro e w11 ⟨LA, lc, rfl, hl11, g11⟩
                     have gl11 : Gr wr w11 := Gr.trans (by repeat (first | exact Gr.refl _ | refine Gr.drew ?_ | refine Gr.alloc ?_ _ _)) g11
                     have ks11 : w11.cell? ⟨b, o + q * 2, none⟩ = some (.slice s2 y2n m2) ∧ w11.cell? ⟨P, 0, none⟩ = some (.int .i64 how) ∧ w11.cell? ⟨P, 1, none⟩ = some (.slice N nn d) := ⟨gl11.cell r1, gl11.cell a0', gl11.cell a1'⟩)
                  | (go_simp
                     go_at_call 23
                     refine (CS.out _ gl11 _ _ hl11).mono ?_
                     rintro e w12 ⟨rfl, g12⟩
                     have gl12 : Gr wr w12 := gl11.trans g12
                     have ks12 : w12.cell? ⟨b, o + q * 2, none⟩ = some (.slice s2 y2n m2) ∧ w12.cell? ⟨P, 0, none⟩ = some (.int .i64 how) ∧ w12.cell? ⟨P, 1, none⟩ = some (.slice N nn d) := ⟨gl12.cell r1, gl12.cell a0', gl12.cell a1'⟩))
              have HI2 := Lib.hid (HI.out.gr gl12)
              clear ks12 ks11 gl12 gl11 g12 g11 hl11 r1 a0' a1' CG CS HI
              have hmk2 := HI2.out.mark (j := q) (by rw [HDL.out]; exact hql) true
              obtain ⟨u, hu⟩ : ∃ u, (doneTo f l m q)[q]'(by rw [HDL.out]; exact hql) = u := ⟨_, rfl⟩
              rw [hu] at hmk2
              obtain ⟨k1, k2, k3⟩ := hmk2
              have HI3 := Lib.hid k3
              obtain ⟨wm, hwm⟩ : ∃ wm, w12.setCell ⟨D, q, none⟩ (.bool true) = wm := ⟨_, rfl⟩
              rw [hwm] at HI3
              have HWM := Lib.hid hwm
              clear k3 hwm hu
              go_upto_region 17 with fail
              rw [HWM.out]
              clear k1 k2
              have gm := HI3.out.a.p.g
              have r1 := gm.cell P1.out; have r2 := gm.cell P2.out
              obtain ⟨w5, hw5, g5, hb5⟩ := fresh wm #[.slice s2 y2n m2, .float .f64 y2v] 45
              have hcl : ci.length ≤ 1000 := by rw [HI3.out.rds.len]; exact hmq3
              have HA5 := run_appR1 (B := B) (l := ci) ((⟨s2, y2n, m2⟩, y2v) : Pc) (HI3.out.gr g5).row (hb5 0 _ rfl) (hb5 1 _ rfl) (by omega) (HI3.out.gr g5).hB
              rw [← hw5] at HA5
              have HA5 := Lib.hid HA5
              have HW5 := Lib.hid hw5
              have HI5 := Lib.hid (HI3.out.gr g5)
              clear hb5 hw5 g5 gm
              go_wp2_with (first
                | (at_builtin
                   refine wpList_app2 rfl (.tmp 67) (.tmp 72) (by rfl) (by rfl) (by rfl) (by rfl) HA5.out ?_
                   rintro v7 w7 ⟨ho7, hg7, hv7⟩
                   rw [HW5.out] at hg7
                   have HI7 := Lib.hid (HI5.out.appI HRD.out ho7 hg7)
                   clear ho7 hg7 hv7 r1 r2 HA5
                   have r2 : w7.cell? ⟨b, o + q * 2 + 1, none⟩ = some (.float .f64 y2v) := HI7.out.a.p.g.cell P2.out
                   have HI8 := Lib.hid (HI7.out.gr ((Gr.refl w7).alloc #[encF y2v] 25))
                   have HA8 := Lib.hid (run_appF (B := B) (l := (memG f x (l.take q)).map (·.2)) (m := [y2v]) (c := 1) HI8.out.vals (at1_one w7 y2v 25) (by rw [List.length_map]; simp; omega) HI8.out.hB))
                | (at_builtin
                   refine wpList_app2 rfl (.tmp 74) (.tmp 80) (by rfl) (by rfl) (by rfl) (by rfl) HA8.out ?_
                   rintro v9 w9 ⟨ho9, hg9, hv9⟩))
              have HI9 := Lib.hid (HI8.out.appV ho9 hg9)
              clear ho9 hg9 hv9 r2 HA8
              go_roundw
              case rel => exact ⟨q + 1, _, by omega, by omega, by go_num, Lib.hid (by
                rw [HN1.out, HN2.out, List.map_append]
                exact HI9.out)⟩
              case measure => simp [intOf]; omega
          · have hqe : q = n := by omega
            have HR : Hid (RIn W1 wr B D (doneL f l (m + 1)) u10 cs l' u14 ci (memG f x l) u15 ((memG f x l).map (·.2)) ⟨KA, xn, kc⟩ x) := Lib.hid (by
              have h := HI.out
              have e1 : doneTo f l m n = doneL f l (m + 1) := by rw [← HNL.out]; exact doneTo_end f l m
              rw [hqe, e1, List.take_of_length_le (Nat.le_of_eq HNL.out)] at h
              exact h)
            have f1 : ¬ (q : Int) < (n : Int) := by omega
            have HOUT : Hid (outTo op f k l (m + 1) = outTo op f k l m ++ outG op k (x, memG f x l)) := Lib.hid (by rw [outTo_out HML.out HMN.out, HXM.out])
            have HNE : Hid (memG f x l ≠ []) := Lib.hid (by rw [← HXM.out]; exact mem_self HML.out)
            have HBM : Hid (∀ p ∈ memG f x l, p.2 < 2 ^ 64) := Lib.hid (fun p hp => HBD.out p (List.mem_filter.1 hp).1)
            have hm1 : (memG f x l).length ≤ 1000 := by
              have := memG_len f x l
              rw [HNL.out] at this; omega
            have hlo : cs.length ≤ 1000 := by
              rw [HR.out.a.p.rds.len, HE.out.len]
              have h1 := HSM.out.1
              have h2 : outTo op f k l m ++ outG op k (x, memG f x l) = outTo op f k l (m + 1) := HOUT.out.symm
              have h3 : (outTo op f k l m).length ≤ (aggP op f k l).length := by
                unfold outTo aggP grpsP
                have hk : ∃ t, keysP f l = keysP f (l.take m) ++ t := keys_pre f l m
                obtain ⟨t, ht⟩ := hk
                rw [ht, List.map_append, List.flatMap_append, List.length_append]
                omega
              omega
            obtain ⟨G, hG⟩ : ∃ G, memG f x l = G := ⟨_, rfl⟩
            rw [hG] at HR HOUT HNE HBM hm1
            clear HI hqe hG
            cases hts : tksB op
            · have HOG : Hid (outG op k (x, G) = [(x, oneV op (G.map (·.2)))]) := Lib.hid (by unfold outG; rw [hts]; rfl)
              have hop : op = 1 ∨ op = 2 ∨ op = 3 ∨ op = 4 ∨ op = 5 ∨ op = 8 := by
                have h6 : op ≠ 6 := fun e => by rw [e] at hts; exact absurd hts (by decide)
                have h7 : op ≠ 7 := fun e => by rw [e] at hts; exact absurd hts (by decide)
                omega
              have CT1 := CT.out wr
              rw [hts] at CT1
              have CT1 := Lib.hid CT1
              obtain ⟨A5, c5, hv5, hat5, -, -, -, -⟩ := HR.out.vals.form
              obtain ⟨y0, r, hyr⟩ : ∃ y0 r, G.map (·.2) = y0 :: r := by
                cases e : G.map (·.2) with
                | nil => exact absurd (List.map_eq_nil_iff.1 e) HNE.out
                | cons a b => exact ⟨a, b, rfl⟩
              have hrl : r.length + 1 = G.length := by have := congrArg List.length hyr; rw [List.length_map, List.length_cons] at this; omega
              rw [hyr] at hv5 hat5 HOG
              rw [show (y0 :: r).length = r.length + 1 from rfl] at hv5
              have CO := Lib.hid (fun W (g : Gr wr W) => rone_any op A5 c5 y0 r W (hat5.gr g) (by omega) hop)
              have HOP2 := Lib.hid hop
              subst hv5
              obtain ⟨rn, hrn⟩ : ∃ rn, r.length + 1 = rn := ⟨_, rfl⟩
              rw [hrn] at CO ⊢
              clear hts hop hat5 hyr hrl hrn
              go_wp2_with fail
              refine CT1.out.mono ?_
              rintro e w' ⟨rfl, rfl⟩
              go_wp2_with fail
              refine (CO.out _ (Gr.refl _)).mono ?_
              rintro e w6 ⟨bq, rfl, hcan, g6⟩
              obtain ⟨w7, hw7, g7, hb7⟩ := fresh w6 #[.slice KA xn kc, .float .f64 bq] 45
              have HR7 := Lib.hid (HR.out.gr (g6.trans g7))
              have HA7 := run_appR1 (B := W1.heap.size) (l := cs) ((⟨KA, xn, kc⟩, bq) : Pc) HR7.out.a.p.row (hb7 0 _ rfl) (hb7 1 _ rfl) (by omega) HR7.out.a.p.g.size
              rw [← hw7] at HA7
              have HW7 := Lib.hid hw7; have HA7 := Lib.hid HA7; have HCAN := Lib.hid hcan
              clear hb7 hw7 g7 g6 hcan CO CT1
              go_wp2_with (first
                | (at_builtin
                   refine wpList_app2 rfl (.tmp 90) (.tmp 96) (by rfl) (by rfl) (by rfl) (by rfl) HA7.out ?_
                   rintro v9 w9 ⟨ho9, hg9, hv9⟩
                   rw [HW7.out] at hg9 hv9
                   have HN : Hid (RAg W1 w9 D (doneL f l (m + 1)) v9 (cs ++ [((⟨KA, xn, kc⟩, bq) : Pc)]) (l' ++ [(x, bq)])) := Lib.hid (HR7.out.a.app (r := [(x, bq)]) (Rds.one ⟨rfl, HR7.out.key⟩) (fun j c' p hc hp h0 b' hb' => by
                     match j, hc, hp with
                     | 0, hc, hp =>
                       obtain rfl : _ = c' := by simpa using hc
                       obtain rfl : _ = p := by simpa using hp
                       have := HR7.out.koff h0 b' hb'
                       exact ⟨this.2.2, this.2.1⟩) ho9 hg9 hv9)
                   clear ho9 hg9 hv9))
              have HE2 : Hid (EqC (l' ++ [(x, bq)]) (outTo op f k l (m + 1))) := Lib.hid (by
                rw [HOUT.out, HOG.out]
                refine HE.out.app ?_
                unfold EqC canP
                simp only [List.map_cons, List.map_nil, HCAN.out])
              go_roundw
              case rel => exact ⟨m + 1, _, _, by omega, by go_num, HN, HE2⟩
              case measure => simp [intOf]; omega
            · have HOG : Hid (outG op k (x, G) = chsP op k G) := Lib.hid (by unfold outG; rw [hts]; rfl)
              have CT1 := CT.out wr
              rw [hts] at CT1
              have CT1 := Lib.hid CT1
              obtain ⟨A5, c5, hv5, hat5, -, -, -⟩ := HR.out.row.form (fun _ => rfl)
              rw [HR.out.rds.len] at hv5
              have CO := rchosenG_any op k A5 G ci c5 W1 wr HR.out.a.p.g hat5 HR.out.rds hm1 HBM.out
              have hcl : (chsP op k G).length ≤ 1000 := by
                unfold chsP
                rw [List.length_take, srtK_len]; omega
              obtain ⟨gn, hgn⟩ : ∃ gn, G.length = gn := ⟨_, rfl⟩
              rw [hgn] at hv5 CO
              have CO := Lib.hid CO
              subst hv5
              clear hts hat5 hgn
              go_wp2_with fail
              refine CT1.out.mono ?_
              rintro e w' ⟨rfl, rfl⟩
              go_wp2_with fail
              refine CO.out.mono ?_
              rintro e w6 ⟨A6, c6, ds, rfl, hat6, hr6, -, -, g6⟩
              have HR6 := Lib.hid (HR.out.gr g6)
              have HA6 := run_appR (B := W1.heap.size) (l := cs) (m := ds) (c := c6) HR6.out.a.p.row hat6 (by have := hr6.len; omega) HR6.out.a.p.g.size
              rw [hr6.len] at HA6
              have HA6 := Lib.hid HA6; have HRD6 := Lib.hid hr6
              clear hat6 hr6 g6 CO CT1
              go_wp2_with (first
                | (at_builtin
                   refine wpList_app2 rfl (.tmp 84) (.tmp 88) (by rfl) (by rfl) (by rfl) (by rfl) HA6.out ?_
                   rintro v9 w9 ⟨ho9, hg9, hv9⟩
                   have HN : Hid (RAg W1 w9 D (doneL f l (m + 1)) v9 (cs ++ ds) (l' ++ chsP op k G)) := Lib.hid (HR6.out.a.app (HRD6.out.gr HR6.out.a.p.g) (fun j c' p hc hp h0 b' hb' => by
                     have h1 := (HRD6.out.rd j c' p hc hp).2.lt h0 hb'
                     have h2 := HR6.out.a.hD.1
                     exact ⟨fun e => by have := (HR6.out.a.p.row.lt e).1; omega, by omega⟩) ho9 hg9 hv9)
                   clear ho9 hg9 hv9))
              have HE2 : Hid (EqC (l' ++ chsP op k G) (outTo op f k l (m + 1))) := Lib.hid (by
                rw [HOUT.out, HOG.out]
                exact HE.out.app (EqC.refl _))
              go_roundw
              case rel => exact ⟨m + 1, _, _, by omega, by go_num, HN, HE2⟩
              case measure => simp [intOf]; omega
      · have HN1 : Hid (doneL f l (m + 1) = doneL f l m) := Lib.hid (done_in hml (by rw [hx]; exact ht)).2
        have HN2 : Hid (outTo op f k l (m + 1) = outTo op f k l m) := Lib.hid (outTo_in hml (by rw [hx]; exact ht))
        clear hx ht hg
        go_wp2
        go_roundw
        case rel => exact ⟨m + 1, cs, l', by omega, by go_num, Lib.hid (by rw [HN1.out]; exact HG.out), Lib.hid (by rw [HN2.out]; exact HE.out)⟩
        case measure => simp [intOf]; omega
    · obtain rfl : m = n := by omega
      have hp := HG.out.p
      have he := HE.out
      have hee : outTo op f k l m = aggP op f k l := by rw [← HNL.out]; exact outTo_end op f k l
      rw [hee] at he
      obtain ⟨A', c', rfl, hpt, -, -, -⟩ := hp.at_
      have hnc := nor_can he
      have CN := Lib.hid (rnormal_any A' l' c' wr hpt (he.sm HSM.out))
      rw [hnc.1, hnc.2] at CN
      have HGF := Lib.hid (HG1.out.trans hp.g)
      clear hp he hee hpt hnc HG HE
      go_wp2_with fail
      refine CN.out.mono ?_
      rintro e w4 ⟨A4, c4, rfl, hp4, h1, h2, g4⟩
      have HP4 := Lib.hid hp4
      clear hp4
      go_wp2
      go_ret2
      exact ⟨A4, c4, rfl, HP4.out, h1, h2, HGF.out.trans g4⟩
theorem ragg_any (op how : Int) (k : Nat) (A N : Option Addr) (l : List Pt) (c d : Nat) (ns : List ByteArray) (w : World) (h : PtsAt w A l) (hs : SmP l) (hN : StrsAt w N ns) (hl : ns.length ≤ d) (hd : d ≤ maxLen) (hz : ∀ s ∈ ns, s.size ≤ maxLen) (hns : ns.length ≤ 1000) (hb : ∀ p ∈ l, p.2 < 2 ^ 64) :
    Calls Tryz.prog 8 #[.int .i64 op, .agg #[.int .i64 how, .slice N ns.length d], .float .f64 k, .slice A l.length c] w (VPost (agV op how ns k l) (agE op how ns k l) w) := by
  unfold agV agE
  cases hA : isA op
  · have o1 : op < 1 ∨ 8 < op := by unfold isA at hA; simp at hA; omega
    obtain ⟨W1, hW1, g1, -⟩ := fresh w #[.int .i64 how, .slice N ns.length d] 24
    have HW1 := Lib.hid hW1; have HG1 := Lib.hid g1
    have HE : Hid (∀ (W : World), Gr w W → VPost [] 1 w (.returned (.tuple #[.slice none 0 0, .int .i64 1])) W) := Lib.hid (fun W g => ⟨none, 0, rfl, PtsAt.nil _ _, Nat.le_refl _, by unfold maxLen; omega, g⟩)
    rw [Bool.false_and, if_neg (by decide), if_neg (by decide)]
    clear h hs hN hl hd hz hns hb hA hW1 g1
    by_cases o2 : op < 1
    · clear o1
      go_enter Tryz.func8, Tryz.ntmps8
      go_upto_region 1 with fail
      rw [HW1.out]
      go_wp2
      go_ret2
      exact HE.out _ HG1.out
    · have o3 : 8 < op := by omega
      clear o1
      go_enter Tryz.func8, Tryz.ntmps8
      go_upto_region 1 with fail
      rw [HW1.out]
      go_wp2
      go_ret2
      exact HE.out _ HG1.out
  · cases hC : chkG how ns
    · obtain ⟨o1, o2⟩ : 1 ≤ op ∧ op ≤ 8 := by unfold isA at hA; simpa using hA
      have o3 : ¬ op < 1 := by omega
      have o4 : ¬ 8 < op := by omega
      obtain ⟨W1, hW1, g1, hb1⟩ := fresh w #[.int .i64 how, .slice N ns.length d] 24
      have a0 := hb1 0 (.int .i64 how) rfl
      have a1 := hb1 1 (.slice N ns.length d) rfl
      have CC := rcheck_any N ns d how W1 (hN.gr g1) hl hd hz
      rw [hC, show ckV false = 1 from rfl] at CC
      have CC := Lib.hid CC
      have HW1 := Lib.hid hW1; have HG1 := Lib.hid g1
      have HE : Hid (∀ (W : World), Gr w W → VPost [] 1 w (.returned (.tuple #[.slice none 0 0, .int .i64 1])) W) := Lib.hid (fun W g => ⟨none, 0, rfl, PtsAt.nil _ _, Nat.le_refl _, by unfold maxLen; omega, g⟩)
      rw [Bool.and_false, if_neg (by decide), if_neg (by decide)]
      obtain ⟨P, hP⟩ : ∃ P, w.heap.size = P := ⟨_, rfl⟩
      rw [hP] at a0 a1
      have HP := Lib.hid hP
      clear h hs hN hl hd hz hns hb hA hC hW1 g1 hb1 hP o1 o2
      go_enter Tryz.func8, Tryz.ntmps8
      go_upto_region 1 with fail
      rw [HW1.out, HP.out]
      go_wp2_with fail
      refine CC.out.mono ?_
      rintro e w2 ⟨rfl, g2⟩
      have G2 := Lib.hid (HG1.out.trans g2)
      clear g2 CC
      go_wp2
      go_ret2
      exact HE.out _ G2.out
    · rw [Bool.true_and, if_pos rfl, if_pos rfl]
      exact ragg_main op how k A N l c d ns w h hs hN hl hd hz hns hA hC hb
end Go.Proofs.YtllhkegefinlbaaGreatDoor.Pt
