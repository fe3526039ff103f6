/- indexOf: its walk. -/
import Derived.Test.YtoooaipbkkiefaaGreatDoorIdx
import Derived.Deep.CutRange
namespace Go.Proofs.YtoooaipbkkiefaaGreatDoor
open Go.RowKit Go.Maps Go.WideMaps
set_option maxRecDepth 100000
set_option maxHeartbeats 4000000

theorem run_eqlIn_map_nil (w : World) (n : Nat) (t k e : TypeId) (p : Option Nat) (h : Tryz.prog.underlying t = some (.map k e)) : (Op.equalIn (n + 1) t (.map p) (.map none)).run Tryz.prog w = .ok p.isNone w := by
  cases p <;> simp [Op.equalIn, run_underlying h]
theorem run_eql_map (w : World) (t k e : TypeId) (p : Option Nat) (h : Tryz.prog.underlying t = some (.map k e)) : (binOp .eql t (.map p) (.map none)).run Tryz.prog w = .ok (.bool p.isNone) w := by
  simp only [binOp]
  simp [Op.equal, Op.maxDepth, run_eqlIn_map_nil w 9999 t k e p h]
theorem int_info : (Tryz.prog.info? 3).map (fun i => (i.zero, i.size, i.bytes)) = some (some (.int .i64 0), 1, 8) := by kernel_rfl
theorem run_appI {W : World} {B : Nat} {v : Value} {l : List Nat} {g : Nat} {i : Nat} (h : OwnI W B v l) (hc : W.cell? ⟨g, 0, none⟩ = some (.int .i64 i)) (hn : l.length + 1 ≤ 1099511627776) (hB : B ≤ W.heap.size) :
    ∃ v' W', (Builtin.append_ #[35, 35] 35 #[v, .slice (some ⟨g, 0, none⟩) 1 1]).run Tryz.prog W = .ok v' W' ∧ OwnI W' B v' (l ++ [i]) ∧ W.grownBy W' v.ownBlock ∧ (v'.ownBlock = v.ownBlock ∨ v'.ownBlock = some W.heap.size) := by
  obtain ⟨i0, hi, hz0, hz1, hz2⟩ := info_parts int_info
  obtain ⟨v', w', hr, h2, h3, _, h5⟩ := run_append_own_at (P := Tryz.prog) W B 35 35 3 i0 (.int .i64 0) 1 8 Tryz.underlying35 hi hz0 hz1 hz2 rfl (by omega) v l.length _ h ⟨g, 0, none⟩ 1 1 [.int .i64 i] rfl (fun j u hu => by
    cases j with
    | zero =>
      simp at hu; subst hu
      have : (⟨g, 0, none⟩ : Addr).add 0 = ⟨g, 0, none⟩ := by unfold Addr.add; split <;> simp_all
      rw [this]; exact hc
    | succ j => simp at hu) (fun u hu => by simp at hu; subst hu; rfl) (by unfold maxLen; omega) (by omega) hB
  refine ⟨v', w', hr, ?_, h3, h5⟩
  unfold OwnI intsV
  rw [List.map_append, List.length_append]
  exact h2
theorem OwnI.mono_gr {W W' : World} {B : Nat} {v : Value} {l : List Nat} (h : OwnI W B v l) (g : Gr W W') : OwnI W' B v l := World.ownsRow.kept h g.gb (by cases v.ownBlock <;> simp)
/-- what the index holds of a row of pairs -/
def ixOf (ps : List (Nat × Lb)) (n v : ByteArray) : List Nat := (ps.filter fun p => decide (p.2.1 = n ∧ p.2.2 = v)).map (·.1)
theorem ixOf_snoc (ps : List (Nat × Lb)) (i : Nat) (x : Lb) : ixOf (ps ++ [(i, x)]) = fun m u => if m = x.1 ∧ u = x.2 then ixOf ps x.1 x.2 ++ [i] else ixOf ps m u := by
  funext m u
  unfold ixOf
  rw [List.filter_append, List.map_append]
  by_cases e : m = x.1 ∧ u = x.2
  · rw [if_pos e, e.1, e.2]; simp
  · rw [if_neg e]
    have : ¬ (x.1 = m ∧ x.2 = u) := fun h => e ⟨h.1.symm, h.2.symm⟩
    simp [this]
/-- the pairs of the first k series -/
def prs (gs : List Se) (k : Nat) : List (Nat × Lb) := (List.range k).flatMap fun i => match gs[i]? with
  | some s => s.1.map fun x => (i, x)
  | none => []
theorem prs_s {gs : List Se} {k : Nat} {s : Se} (h : gs[k]? = some s) : prs gs (k + 1) = prs gs k ++ s.1.map fun x => (k, x) := by
  unfold prs
  rw [List.range_succ, List.flatMap_append]
  simp [h]
/-- a store's index -/
def IdxOf (W : World) (M : Nat) (gs : List Se) : Prop := ∃ B K mb sv, Idx W B M K mb sv (ixOf (prs gs gs.length))
/-- on the way -/
def IHd (w W : World) (M K : Nat) (ps : List (Nat × Lb)) : Prop := Gr w W ∧ ∃ mb sv, Idx W w.heap.size M K mb sv (ixOf ps)
theorem IHd.mono_gr {w W W' : World} {M K : Nat} {ps : List (Nat × Lb)} (h : IHd w W M K ps) (g : Gr W W') : IHd w W' M K ps := by
  obtain ⟨g0, mb, sv, hi⟩ := h
  exact ⟨g0.trans g, mb, sv, hi.gr g⟩
theorem idx_0 (w : World) : IHd w (w.alloc (.map #[] 0)) w.heap.size 0 [] := by
  refine ⟨own_of_none (World.grownBy_alloc w _ none), fun _ => none, fun _ _ => .nil, ⟨⟨_, World.ownsMap_made _ _ _ _, fun n => rfl⟩, fun n b hb => ?_, fun n _ v => ⟨rfl, rfl⟩, fun n v => ⟨World.ownsRow_nil _ _ _ _, Nat.le_refl _⟩, fun n n' b hb => ?_, fun n v n' v' b hb => ?_, ⟨Nat.le_refl _, fun n b hb => ?_⟩⟩⟩
  · cases hb
  · cases hb
  · simp [Nr.v, Value.ownBlock] at hb
  · cases hb
theorem Idx.mono {W : World} {B M K K' : Nat} {mb : ByteArray → Option Nat} {sv : ByteArray → ByteArray → Nr} {ix : ByteArray → ByteArray → List Nat} (h : Idx W B M K mb sv ix) (hK : K ≤ K') : Idx W B M K' mb sv ix := by
  refine ⟨?_, fun n b hb => ?_, h.none_, fun n v => ⟨(h.rows n v).1, Nat.le_trans (h.rows n v).2 hK⟩, h.injM, h.injR, h.hM⟩
  · obtain ⟨D, h1, h2⟩ := h.outer; exact ⟨D, h1.mono hK, h2⟩
  · obtain ⟨D, h1, h2⟩ := h.inner n b hb; exact ⟨D, h1.mono hK, h2⟩
/-- what such a store leaves -/
def AddR (w W' : World) (M K bx b : Nat) (n v : ByteArray) (s' : Value) (ps : List (Nat × Lb)) (k : Nat) : Prop :=
    ∃ W2, (Instr.mapUpdate 104 (.map (some b)) (.string v) s').run Tryz.prog W' = .ok () W2 ∧
      (W'.cell? ⟨bx, 0, none⟩ = some (.string n) ∧ W'.cell? ⟨bx, 1, none⟩ = some (.string v) ∧ (Instr.lookup 89 (.map (some M)) (.string n) false).run Tryz.prog W' = .ok (.map (some b)) W') ∧
      (W2.cell? ⟨bx, 0, none⟩ = some (.string n) ∧ W2.cell? ⟨bx, 1, none⟩ = some (.string v) ∧ (Instr.lookup 89 (.map (some M)) (.string n) false).run Tryz.prog W2 = .ok (.map (some b)) W2) ∧
      IHd w W2 M (K + 1) (ps ++ [(k, (n, v))])
/-- behind an append onto a row and the store of it: the other things that are read on the way -/
theorem Idx.add3 {w W W' Wy : World} {M K bx : Nat} {mb : ByteArray → Option Nat} {sv : ByteArray → ByteArray → Nr} {ps : List (Nat × Lb)} (h : Idx W w.heap.size M K mb sv (ixOf ps)) (hg0 : Gr w W) {n v : ByteArray} {b k : Nat} (hb : mb n = some b) (hnl : n.size ≤ maxLen) (hv : v.size ≤ maxLen) (hK : K < 1099511627776)
    (hbx : W.heap[bx]? = some (.cells #[.string n, .string v] 53 (0, 0))) (gy : Gr W Wy) {s' : Value} (ho : OwnI W' w.heap.size s' (ixOf ps n v ++ [k])) (hg : Wy.grownBy W' (sv n v).v.ownBlock) (hs : s'.ownBlock = (sv n v).v.ownBlock ∨ s'.ownBlock = some Wy.heap.size) :
    AddR w W' M K bx b n v s' ps k := by
  have hy := h.gr gy
  obtain ⟨W2, nr, e, hr, hg2, hi2⟩ := hy.add hb hv hK ho hg hs
  have hbxy : Wy.heap[bx]? = some (.cells #[.string n, .string v] 53 (0, 0)) := (gy.b.block bx (Array.getElem?_eq_some_iff.1 hbx).1).trans hbx
  have hbx7 : W'.heap[bx]? = some (.cells #[.string n, .string v] 53 (0, 0)) := (hg.block bx (Array.getElem?_eq_some_iff.1 hbxy).1 (fun e => by
    obtain ⟨cur, hc⟩ := (hy.rows n v).1.obj e.symm
    rw [hbxy] at hc
    injection hc with hc
    injection hc with _ h2 _
    exact absurd h2 (by decide))).trans hbxy
  obtain ⟨Db, hob, -⟩ := hy.inner n b hb
  obtain ⟨es, ck, hobj⟩ := map_obj hob
  have hneb : bx ≠ b := by
    rintro rfl
    rw [hbxy] at hobj; cases hobj
  have hbx8 : W2.heap[bx]? = some (.cells #[.string n, .string v] 53 (0, 0)) := (hg2.block bx (Array.getElem?_eq_some_iff.1 hbx7).1 (by simpa using hneb)).trans hbx7
  have hrowB : ∀ c, (sv n v).v.ownBlock = some c → w.heap.size ≤ c := fun c hc => (World.ownsRow.lt (hy.rows n v).1 c hc).1
  have hG7 : Gr w W' := ⟨(hg0.trans gy).b.grown hg (hg0.trans gy).size (fun c hc => hrowB c hc)⟩
  have hG8 : Gr w W2 := hG7.only hg2 (hy.hM.2 n b hb).1
  have hlook7 : (Instr.lookup 89 (.map (some M)) (.string n) false).run Tryz.prog W' = .ok (.map (some b)) W' := by
    obtain ⟨D, ho, hD⟩ := hy.outer
    have ho' : W'.ownsMap Tryz.prog 9 mapElem M K D := ho.kept hg (fun e => by
      obtain ⟨es, ck, h1⟩ := map_obj ho
      obtain ⟨cur, h2⟩ := (hy.rows n v).1.obj e.symm
      rw [h1] at h2; cases h2)
    obtain ⟨u, ps, hr, hu⟩ := ho'.lookup strKey Tryz.underlying89 (zeroMap W') (zd := mapD none) (zp := []) rfl (kS_key n hnl)
    rw [hD, hb] at hu
    rw [hr, mapElem_inv hu]
  have hlook8 := hi2.look n hnl
  rw [hb] at hlook8
  refine ⟨W2, hr, ⟨cell_of_row W' bx 0 _ _ _ hbx7, cell_of_row W' bx 1 _ _ _ hbx7, hlook7⟩, ⟨cell_of_row W2 bx 0 _ _ _ hbx8, cell_of_row W2 bx 1 _ _ _ hbx8, hlook8⟩, hG8, mb, (fun m u => if m = n ∧ u = v then nr else sv m u), ?_⟩
  rw [ixOf_snoc]
  exact hi2
/-- rows of series that are read -/
structure SerAt (W : World) (b : Nat) (cs : List Sc) (gs : List Se) : Prop where
  row : RowC W b cs
  len : cs.length = gs.length
  lab : ∀ (k : Nat) (c : Sc) (s : Se), cs[k]? = some c → gs[k]? = some s → LabV W c.1 s.1
theorem SerAt.gr {W W' : World} {b : Nat} {cs : List Sc} {gs : List Se} (h : SerAt W b cs gs) (g : Gr W W') : SerAt W' b cs gs :=
  ⟨fun i x hx => by
    obtain ⟨⟨c1, f1⟩, c2, f2⟩ := h.row i x hx
    have hb := g.b.block b (World.block_lt_of_cell? W _ c1)
    exact ⟨⟨g.cell c1, (World.frozen?_of_block (a := ⟨b, _, none⟩) hb).trans f1⟩, g.cell c2, (World.frozen?_of_block (a := ⟨b, _, none⟩) hb).trans f2⟩, h.len, fun k c s hc hs => (h.lab k c s hc hs).gr g⟩
theorem indexOf_any (A : Option Addr) (b c : Nat) (cs : List Sc) (gs : List Se) (w : World) (hA : 0 < cs.length → A = some ⟨b, 0, none⟩) (h : SerAt w b cs gs) (hn : cs.length ≤ 1000) (hl : ∀ s ∈ gs, s.1.length ≤ 32 ∧ ∀ x ∈ s.1, x.1.size ≤ 1000 ∧ x.2.size ≤ 1000) :
    Calls Tryz.prog 52 #[.slice A cs.length c] w fun e w' => ∃ M, e = .returned (.map (some M)) ∧ Gr w w' ∧ IdxOf w' M gs := by
  have HS := Lib.hid h
  have HLen := Lib.hid h.len
  have HB := Lib.hid hl
  have hmm := @run_makeMap Tryz.prog
  have hq := fun (w : World) (p : Option Nat) => run_eql_map w 104 _ _ p Tryz.underlying104
  have HA := Lib.hid hA
  clear h hl hA
  go_enter Tryz.func52, Tryz.ntmps52
  go_wp2
  have H0 : Hid (IHd w (w.alloc (.map #[] 0)) w.heap.size 0 []) := Lib.hid (idx_0 w)
  obtain ⟨M, hM⟩ : ∃ M, w.heap.size = M := ⟨_, rfl⟩
  rw [hM] at H0 ⊢
  obtain ⟨W0, hW0⟩ : ∃ W0, w.alloc (.map #[] 0) = W0 := ⟨_, rfl⟩
  rw [hW0] at H0 ⊢
  clear hW0
  go_loopw [11] (fun i wr => ∃ k : Nat, k ≤ cs.length ∧ i = .int .i64 k ∧ Hid (IHd w wr M (100 * k) (prs gs k))) (fun i _ => cs.length - (intOf i).toNat)
  case atStart => exact ⟨0, Nat.zero_le _, rfl, H0⟩
  case round =>
    clear H0
    obtain ⟨k, hk, rfl, HG⟩ := hrel
    by_cases hlt : k < cs.length
    · have n1 : (k : Int) < (cs.length : Int) := by omega
      obtain rfl := HA.out (by omega)
      obtain ⟨⟨lv, sv⟩, hc⟩ : ∃ x, cs[k]? = some x := ⟨_, List.getElem?_eq_getElem hlt⟩
      obtain ⟨s, hs⟩ : ∃ s, gs[k]? = some s := ⟨_, List.getElem?_eq_getElem (by have := HLen.out; omega)⟩
      obtain ⟨⟨c1, -⟩, c2, -⟩ := (HS.out.gr HG.out.1).row k _ hc
      have hlab := HS.out.lab k _ s hc hs
      have hbd := HB.out s (List.mem_of_getElem? hs)
      have HPS : Hid (prs gs (k + 1) = prs gs k ++ s.1.map fun x => (k, x)) := Lib.hid (prs_s hs)
      obtain ⟨x, sx⟩ := s
      simp only [Sl.v] at c1 c2 hlab hbd HPS
      obtain ⟨la, ln, lc⟩ := lv
      obtain ⟨sa, sn, sc⟩ := sv
      obtain ⟨rfl, hla⟩ := hlab
      simp only at c1 c2 hla
      have HLA := Lib.hid hla
      have HBD := Lib.hid hbd
      have h32 := hbd.1
      have ww : wr.heap.size = wr.heap.size := rfl
      clear hla hbd hc hs ww
      have HG1 : Hid (IHd w (wr.alloc (.cells #[.slice la x.length lc, .slice sa sn sc] 87)) M (100 * k) (prs gs k)) := Lib.hid (HG.out.mono_gr ((Gr.refl wr).alloc _ _))
      clear HG
      go_wp2
      obtain ⟨W1, hW1⟩ : ∃ W1, wr.alloc (.cells #[.slice la x.length lc, .slice sa sn sc] 87) = W1 := ⟨_, rfl⟩
      rw [hW1] at HG1 ⊢
      clear hW1 c1 c2
      go_loopw [19] (fun i wr => ∃ j : Nat, j ≤ x.length ∧ i = .int .i64 j ∧ Hid (IHd w wr M (100 * k + 2 * j) (prs gs k ++ (x.take j).map fun y => (k, y)))) (fun i _ => x.length - (intOf i).toNat)
      case atStart => exact ⟨0, Nat.zero_le _, rfl, by simpa using HG1⟩
      case round =>
        clear HG1
        obtain ⟨j, hj, rfl, HG⟩ := hrel
        by_cases hjl : j < x.length
        · have m1 : (j : Int) < (x.length : Int) := by omega
          obtain ⟨lb, lo, rfl, c1, c2, -⟩ := (HLA.out.gr HG.out.1).at_ hjl
          have hyb := HBD.out.2 x[j] (List.getElem_mem hjl)
          obtain ⟨y, hy⟩ : ∃ y, x[j] = y := ⟨_, rfl⟩
          have HTj : Hid ((prs gs k ++ (x.take (j + 1)).map (fun y => (k, y))) = (prs gs k ++ (x.take j).map fun y => (k, y)) ++ [(k, y)]) := Lib.hid (by rw [List.take_succ_eq_append_getElem hjl, hy]; simp)
          rw [hy] at c1 c2 hyb
          obtain ⟨nm, vl⟩ := y
          simp only at c1 c2 hyb
          obtain ⟨Y, hY, gY, hbc⟩ := fresh wr #[.string nm, .string vl] 53
          have b0 := hbc 0 (.string nm) rfl
          have b1 := hbc 1 (.string vl) rfl
          have hob : Y.heap[wr.heap.size]? = some (.cells #[.string nm, .string vl] 53 (0, 0)) := by rw [← hY]; exact heap_alloc_new _ _
          have HY := Lib.hid hY; have HOB := Lib.hid hob
          obtain ⟨g, mb, sv, hi⟩ := HG.out
          have hK : k ≤ 1000 := by omega
          have hs1 : nm.size ≤ maxLen := by unfold maxLen; omega
          have hs2 : vl.size ≤ maxLen := by unfold maxLen; omega
          have hi1 := hi.gr gY
          have HGY := Lib.hid (g.trans gY)
          have hlk := hi1.look nm hs1
          clear hbc hY hob hy hyb hi g HG
          go_upto_region 8 with fail
          rw [HY.out]
          clear c1 c2
          cases hmb : mb nm
          · rw [hmb] at hlk
            have hMY : M < Y.heap.size := by
              obtain ⟨D, ho, -⟩ := hi1.outer
              exact ho.lt
            have hbM : wr.heap.size ≠ M := by
              rintro e
              obtain ⟨D, ho, -⟩ := hi1.outer
              obtain ⟨es, ck, h1⟩ := map_obj ho
              have := HOB.out
              rw [e, h1] at this
              cases this
            obtain ⟨Z, hrz, hiz, hgz⟩ := hi1.put hs1 hmb (by omega) hMY HGY.out.size
            have g0 : Gr Y (Y.alloc (.map #[] 0)) := own_of_none (World.grownBy_alloc Y _ none)
            have HOZ : Hid (Z.heap[wr.heap.size]? = some (.cells #[.string nm, .string vl] 53 (0, 0))) := Lib.hid (by
              have h1 := (g0.b.block _ (Array.getElem?_eq_some_iff.1 HOB.out).1).trans HOB.out
              exact (hgz.block _ (Array.getElem?_eq_some_iff.1 h1).1 (by simpa using hbM)).trans h1)
            have HGZ : Hid (Gr w Z) := Lib.hid ((HGY.out.trans g0).only hgz hiz.hM.1)
            obtain ⟨mb2, hmb2⟩ : ∃ f, (fun m => if m = nm then some Y.heap.size else mb m) = f := ⟨_, rfl⟩
            have hmbn : mb2 nm = some Y.heap.size := by rw [← hmb2]; simp
            rw [hmb2] at hiz
            obtain ⟨N, hN⟩ : ∃ N, Y.heap.size = N := ⟨_, rfl⟩
            rw [hN] at hrz hmbn
            have HMB := Lib.hid hmbn
            have HIZ := Lib.hid hiz
            clear hmbn hmb2
            clear hi1 hiz hgz g0 hMY hbM hmb
            go_wp2
            clear hN
            have HADD : Hid (∀ Wy W7 s', Gr Z Wy → OwnI W7 w.heap.size s' (ixOf (prs gs k ++ (x.take j).map fun y => (k, y)) nm vl ++ [k]) → Wy.grownBy W7 (sv nm vl).v.ownBlock → (s'.ownBlock = (sv nm vl).v.ownBlock ∨ s'.ownBlock = some Wy.heap.size) → AddR w W7 M (100 * k + 2 * j + 1) wr.heap.size N nm vl s' (prs gs k ++ (x.take j).map fun y => (k, y)) k) := Lib.hid (fun Wy W7 s' gy ho hgr hs => HIZ.out.add3 HGZ.out HMB.out hs1 hs2 (by omega) HOZ.out gy ho hgr hs)
            have HRW : Hid (OwnI Z w.heap.size (sv nm vl).v (ixOf (prs gs k ++ (x.take j).map fun y => (k, y)) nm vl) ∧ (ixOf (prs gs k ++ (x.take j).map fun y => (k, y)) nm vl).length ≤ 1000000) := Lib.hid ⟨(HIZ.out.rows nm vl).1, by have := (HIZ.out.rows nm vl).2; omega⟩
            have hl2 := HIZ.out.look2 HMB.out vl hs2
            have hl2a : (Instr.lookup 104 (.map (some N)) (.string vl) false).run Tryz.prog Z.drew = .ok (sv nm vl).v Z.drew := (HIZ.out.gr (Gr.refl _).drew).look2 HMB.out vl hs2
            have hl2b : (Instr.lookup 104 (.map (some N)) (.string vl) false).run Tryz.prog (Z.drew.alloc (.cells #[.int .i64 k] 3)) = .ok (sv nm vl).v (Z.drew.alloc (.cells #[.int .i64 k] 3)) := (HIZ.out.gr ((Gr.refl _).drew.alloc _ _)).look2 HMB.out vl hs2
            have hl2c : (Instr.lookup 104 (.map (some N)) (.string vl) false).run Tryz.prog (Z.alloc (.cells #[.int .i64 k] 3)).drew = .ok (sv nm vl).v (Z.alloc (.cells #[.int .i64 k] 3)).drew := (HIZ.out.gr ((Gr.refl _).alloc _ _).drew).look2 HMB.out vl hs2
            have HKP : Hid (∀ W', Gr Z W' → W'.cell? ⟨wr.heap.size, 0, none⟩ = some (.string nm) ∧ W'.cell? ⟨wr.heap.size, 1, none⟩ = some (.string vl) ∧ (Instr.lookup 89 (.map (some M)) (.string nm) false).run Tryz.prog W' = .ok (.map (some N)) W') := Lib.hid (fun W' g => by
              have h1 := (g.b.block _ (Array.getElem?_eq_some_iff.1 HOZ.out).1).trans HOZ.out
              have h2 := (HIZ.out.gr g).look nm hs1
              rw [HMB.out] at h2
              exact ⟨cell_of_row W' wr.heap.size 0 _ _ _ h1, cell_of_row W' wr.heap.size 1 _ _ _ h1, h2⟩)
            have HSZ : Hid (∀ W', Gr Z W' → w.heap.size ≤ W'.heap.size) := Lib.hid (fun W' g => (HGZ.out.trans g).size)
            have HKN : Hid (100 * k + 2 * j + 1 + 1 = 100 * k + 2 * (j + 1)) := Lib.hid (by omega)
            clear HIZ HGZ HMB HOZ hlk
            obtain ⟨rv, hrv⟩ : ∃ rv, (sv nm vl).v = rv := ⟨_, rfl⟩
            rw [hrv] at HADD HRW hl2 hl2a hl2b hl2c
            clear hrv
            go_region_held3 (fun w' => w'.cell? ⟨wr.heap.size, 0, none⟩ = some (.string nm) ∧ w'.cell? ⟨wr.heap.size, 1, none⟩ = some (.string vl) ∧ (Instr.lookup 89 (.map (some M)) (.string nm) false).run Tryz.prog w' = .ok (.map (some N)) w')
              (first
                | exact HKP.out _ (Gr.refl _).drew
                | exact HKP.out _ ((Gr.refl _).drew.alloc _ _)
                | exact HKP.out _ ((Gr.refl _).alloc _ _).drew
                | exact ks8
                | exact ks7)
              (first
                | (refine step_app2 rfl (.tmp 44) (.tmp 46) (by rfl) (by rfl) (by rfl) (by rfl) (run_appI (B := w.heap.size) (i := k) (l := ixOf (prs gs k ++ (x.take j).map fun y => (k, y)) nm vl) ?_ ?_ ?_ ?_) ?_
                   · first | exact HRW.out.1.mono_gr ((Gr.refl _).drew.alloc _ _) | exact HRW.out.1.mono_gr ((Gr.refl _).alloc _ _).drew
                   · go_simp
                   · have := HRW.out.2; omega
                   · first | exact HSZ.out _ ((Gr.refl _).drew.alloc _ _) | exact HSZ.out _ ((Gr.refl _).alloc _ _).drew
                   rintro v7 w7 ⟨ho7, hg7, hv7⟩
                   obtain ⟨W8, hr8, ks7, ks8, hh8⟩ := HADD.out _ _ _ (by first | exact ((Gr.refl _).drew.alloc _ _) | exact ((Gr.refl _).alloc _ _).drew) ho7 hg7 hv7
                   have HH8 := Lib.hid hh8
                   clear ho7 hg7 hv7 hh8))
            all_goals
              have HN8 : Hid (IHd w W8 M (100 * k + 2 * (j + 1)) (prs gs k ++ (x.take (j + 1)).map fun y => (k, y))) := Lib.hid (by rw [HTj.out, ← HKN.out]; exact HH8.out)
              go_wp2
              go_roundw
              case rel => exact ⟨j + 1, by omega, by go_num, HN8⟩
              case measure => simp [intOf]; omega
          · rename_i bq
            rw [hmb] at hlk
            have HOZ : Hid (Y.heap[wr.heap.size]? = some (.cells #[.string nm, .string vl] 53 (0, 0))) := HOB
            have HGZ := HGY
            have HMB := Lib.hid hmb
            have HIZ : Hid (Idx Y w.heap.size M (100 * k + 2 * j + 1) mb sv (ixOf (prs gs k ++ (x.take j).map fun y => (k, y)))) := Lib.hid (hi1.mono (by omega))
            clear hi1 hmb
            go_wp2
            have HADD : Hid (∀ Wy W7 s', Gr Y Wy → OwnI W7 w.heap.size s' (ixOf (prs gs k ++ (x.take j).map fun y => (k, y)) nm vl ++ [k]) → Wy.grownBy W7 (sv nm vl).v.ownBlock → (s'.ownBlock = (sv nm vl).v.ownBlock ∨ s'.ownBlock = some Wy.heap.size) → AddR w W7 M (100 * k + 2 * j + 1) wr.heap.size bq nm vl s' (prs gs k ++ (x.take j).map fun y => (k, y)) k) := Lib.hid (fun Wy W7 s' gy ho hgr hs => HIZ.out.add3 HGZ.out HMB.out hs1 hs2 (by omega) HOZ.out gy ho hgr hs)
            have HRW : Hid (OwnI Y w.heap.size (sv nm vl).v (ixOf (prs gs k ++ (x.take j).map fun y => (k, y)) nm vl) ∧ (ixOf (prs gs k ++ (x.take j).map fun y => (k, y)) nm vl).length ≤ 1000000) := Lib.hid ⟨(HIZ.out.rows nm vl).1, by have := (HIZ.out.rows nm vl).2; omega⟩
            have hl2 := HIZ.out.look2 HMB.out vl hs2
            have hl2a : (Instr.lookup 104 (.map (some bq)) (.string vl) false).run Tryz.prog Y.drew = .ok (sv nm vl).v Y.drew := (HIZ.out.gr (Gr.refl _).drew).look2 HMB.out vl hs2
            have hl2b : (Instr.lookup 104 (.map (some bq)) (.string vl) false).run Tryz.prog (Y.drew.alloc (.cells #[.int .i64 k] 3)) = .ok (sv nm vl).v (Y.drew.alloc (.cells #[.int .i64 k] 3)) := (HIZ.out.gr ((Gr.refl _).drew.alloc _ _)).look2 HMB.out vl hs2
            have hl2c : (Instr.lookup 104 (.map (some bq)) (.string vl) false).run Tryz.prog (Y.alloc (.cells #[.int .i64 k] 3)).drew = .ok (sv nm vl).v (Y.alloc (.cells #[.int .i64 k] 3)).drew := (HIZ.out.gr ((Gr.refl _).alloc _ _).drew).look2 HMB.out vl hs2
            have HKP : Hid (∀ W', Gr Y W' → W'.cell? ⟨wr.heap.size, 0, none⟩ = some (.string nm) ∧ W'.cell? ⟨wr.heap.size, 1, none⟩ = some (.string vl) ∧ (Instr.lookup 89 (.map (some M)) (.string nm) false).run Tryz.prog W' = .ok (.map (some bq)) W') := Lib.hid (fun W' g => by
              have h1 := (g.b.block _ (Array.getElem?_eq_some_iff.1 HOZ.out).1).trans HOZ.out
              have h2 := (HIZ.out.gr g).look nm hs1
              rw [HMB.out] at h2
              exact ⟨cell_of_row W' wr.heap.size 0 _ _ _ h1, cell_of_row W' wr.heap.size 1 _ _ _ h1, h2⟩)
            have HSZ : Hid (∀ W', Gr Y W' → w.heap.size ≤ W'.heap.size) := Lib.hid (fun W' g => (HGZ.out.trans g).size)
            have HKN : Hid (100 * k + 2 * j + 1 + 1 = 100 * k + 2 * (j + 1)) := Lib.hid (by omega)
            clear HIZ HGZ HMB HOZ hlk
            obtain ⟨rv, hrv⟩ : ∃ rv, (sv nm vl).v = rv := ⟨_, rfl⟩
            rw [hrv] at HADD HRW hl2 hl2a hl2b hl2c
            clear hrv
            go_region_held3 (fun w' => w'.cell? ⟨wr.heap.size, 0, none⟩ = some (.string nm) ∧ w'.cell? ⟨wr.heap.size, 1, none⟩ = some (.string vl) ∧ (Instr.lookup 89 (.map (some M)) (.string nm) false).run Tryz.prog w' = .ok (.map (some bq)) w')
              (first
                | exact HKP.out _ (Gr.refl _).drew
                | exact HKP.out _ ((Gr.refl _).drew.alloc _ _)
                | exact HKP.out _ ((Gr.refl _).alloc _ _).drew
                | exact ks8
                | exact ks7)
              (first
                | (refine step_app2 rfl (.tmp 44) (.tmp 46) (by rfl) (by rfl) (by rfl) (by rfl) (run_appI (B := w.heap.size) (i := k) (l := ixOf (prs gs k ++ (x.take j).map fun y => (k, y)) nm vl) ?_ ?_ ?_ ?_) ?_
                   · first | exact HRW.out.1.mono_gr ((Gr.refl _).drew.alloc _ _) | exact HRW.out.1.mono_gr ((Gr.refl _).alloc _ _).drew
                   · go_simp
                   · have := HRW.out.2; omega
                   · first | exact HSZ.out _ ((Gr.refl _).drew.alloc _ _) | exact HSZ.out _ ((Gr.refl _).alloc _ _).drew
                   rintro v7 w7 ⟨ho7, hg7, hv7⟩
                   obtain ⟨W8, hr8, ks7, ks8, hh8⟩ := HADD.out _ _ _ (by first | exact ((Gr.refl _).drew.alloc _ _) | exact ((Gr.refl _).alloc _ _).drew) ho7 hg7 hv7
                   have HH8 := Lib.hid hh8
                   clear ho7 hg7 hv7 hh8))
            all_goals
              have HN8 : Hid (IHd w W8 M (100 * k + 2 * (j + 1)) (prs gs k ++ (x.take (j + 1)).map fun y => (k, y))) := Lib.hid (by rw [HTj.out, ← HKN.out]; exact HH8.out)
              go_wp2
              go_roundw
              case rel => exact ⟨j + 1, by omega, by go_num, HN8⟩
              case measure => simp [intOf]; omega
        · obtain rfl : j = x.length := by omega
          have HN : Hid (IHd w wr M (100 * (k + 1)) (prs gs (k + 1))) := Lib.hid (by
            have := HG.out
            rw [List.take_length] at this
            rw [HPS.out]
            obtain ⟨g, mb, sv, hi⟩ := this
            exact ⟨g, mb, sv, hi.mono (by omega)⟩)
          clear HG
          have n2 : ¬ (x.length : Int) < (x.length : Int) := by omega
          go_wp2
          go_roundw
          case rel => exact ⟨k + 1, by omega, by go_num, HN⟩
          case measure => simp [intOf]; omega
    · obtain rfl : k = cs.length := by omega
      have HE : Hid (Gr w wr ∧ IdxOf wr M gs) := Lib.hid (by
        obtain ⟨g, mb, sv, hi⟩ := HG.out
        exact ⟨g, _, _, mb, sv, by rw [← HLen.out]; exact hi⟩)
      clear HG
      go_wp2
      go_ret
      exact ⟨M, rfl, HE.out⟩
end Go.Proofs.YtoooaipbkkiefaaGreatDoor
