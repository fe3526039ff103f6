/- Size, Depth of a plan. -/
import Derived.Test.YtikaamonmaohjaaGreatDoorLParts
import Derived.Deep.Cut
import Derived.Deep.CutRange
import Derived.Deep.CutBlock
import Derived.Deep.MidRow
import Derived.Deep.WholeRow
namespace Go.Proofs.YtikaamonmaohjaaGreatDoor.Ir
open Go.RowKit
set_option maxRecDepth 100000
set_option maxHeartbeats 1000000

/-- a node's own fields -/
structure Nf where
  k : Int
  num : Nat
  fn : Int
  m : List Mt
  rg : Int
  st : Int
  of : Int
  gh : Int
  gn : List ByteArray
  xh : Int
  xn : List ByteArray
  card : Int
  inc : List ByteArray
  flag : Bool
  name : ByteArray
  value : ByteArray
/-- where its lists lie -/
structure Np where
  mA : Option Addr
  mC : Nat
  gA : Option Addr
  gC : Nat
  xA : Option Addr
  xC : Nat
  iA : Option Addr
  iC : Nat
  kA : Option Addr
  kC : Nat
/-- a plan -/
inductive Tr where
  | mk (d : Nf) (ks : List Tr)
def Tr.d : Tr → Nf | .mk d _ => d
def Tr.ks : Tr → List Tr | .mk _ ks => ks
/-- a node's cells -/
def nV (d : Nf) (p : Np) (nk : Nat) : List Value :=
  [.int .i64 d.k, .float .f64 d.num, .int .i64 d.fn, .slice p.mA d.m.length p.mC, .int .i64 d.rg, .int .i64 d.st, .int .i64 d.of, .int .i64 d.gh, .slice p.gA d.gn.length p.gC, .int .i64 d.xh, .slice p.xA d.xn.length p.xC, .int .i64 d.card, .slice p.iA d.inc.length p.iC, .bool d.flag, .string d.name, .string d.value, .slice p.kA nk p.kC]
def I64 (n : Int) : Prop := -9223372036854775808 ≤ n ∧ n ≤ 9223372036854775807
/-- bounds that any value has -/
structure Nb (d : Nf) (p : Np) (nk : Nat) : Prop where
  m1 : d.m.length ≤ p.mC
  m2 : p.mC ≤ 9223372036854775807
  g1 : d.gn.length ≤ p.gC
  g2 : p.gC ≤ 9223372036854775807
  x1 : d.xn.length ≤ p.xC
  x2 : p.xC ≤ 9223372036854775807
  i1 : d.inc.length ≤ p.iC
  i2 : p.iC ≤ 9223372036854775807
  k1 : nk ≤ p.kC
  k2 : p.kC ≤ 9223372036854775807
  wm : Wm d.m
  wg : ∀ s ∈ d.gn, s.size ≤ maxLen
  wx : ∀ s ∈ d.xn, s.size ≤ maxLen
  wi : ∀ s ∈ d.inc, s.size ≤ maxLen
  nm : d.name.size ≤ maxLen
  vl : d.value.size ≤ maxLen
  ik : I64 d.k
  ifn : I64 d.fn
  irg : I64 d.rg
  ist : I64 d.st
  iof : I64 d.of
  igh : I64 d.gh
  ixh : I64 d.xh
  icd : I64 d.card
/-- a node's lists read so -/
structure Nw (W : World) (d : Nf) (p : Np) (nk : Nat) : Prop where
  b : Nb d p nk
  m : MatsAt W p.mA d.m
  g : StrsAt W p.gA d.gn
  x : StrsAt W p.xA d.xn
  i : StrsAt W p.iA d.inc
theorem Nw.gr {W W' : World} {d : Nf} {p : Np} {nk : Nat} (h : Nw W d p nk) (g : Gr W W') : Nw W' d p nk := ⟨h.b, h.m.gr g, h.g.gr g, h.x.gr g, h.i.gr g⟩
def CellsAt (W : World) (b o : Nat) (vs : List Value) : Prop := W.rangeAt b o vs
theorem CellsAt.gr {W W' : World} {b o : Nat} {vs : List Value} (h : CellsAt W b o vs) (g : Gr W W') : CellsAt W' b o vs := fun i v e => g.cell (h i v e)
mutual
/-- these parts read as a plan -/
def TrP (W : World) : Tr → Np → Prop
  | .mk d ks, p => Nw W d p ks.length ∧ (0 < ks.length → ∃ b o, p.kA = some ⟨b, o, none⟩ ∧ KidsAt W b o ks)
def KidsAt (W : World) (b o : Nat) : List Tr → Prop
  | [] => True
  | t :: r => (∃ p, CellsAt W b o (nV t.d p t.ks.length) ∧ TrP W t p) ∧ KidsAt W b (o + 17) r
end
mutual
theorem TrP.gr {W W' : World} (g : Gr W W') : ∀ (t : Tr) (p : Np), TrP W t p → TrP W' t p
  | .mk d ks, p, h => by
    unfold TrP at h ⊢
    exact ⟨h.1.gr g, fun h0 => by
      obtain ⟨b, o, e, hk⟩ := h.2 h0
      exact ⟨b, o, e, KidsAt.gr g b o ks hk⟩⟩
theorem KidsAt.gr {W W' : World} (g : Gr W W') (b o : Nat) : ∀ (l : List Tr), KidsAt W b o l → KidsAt W' b o l
  | [], h => by unfold KidsAt; trivial
  | t :: r, h => by
    unfold KidsAt at h ⊢
    obtain ⟨⟨p, h1, h2⟩, h3⟩ := h
    exact ⟨⟨p, h1.gr g, TrP.gr g t p h2⟩, KidsAt.gr g b (o + 17) r h3⟩
end
theorem KidsAt.get {W : World} {b : Nat} : ∀ {l : List Tr} {o k : Nat} (h : KidsAt W b o l) (hk : k < l.length), ∃ p, CellsAt W b (o + k * 17) (nV (l[k]).d p (l[k]).ks.length) ∧ TrP W l[k] p
  | t :: r, o, 0, h, hk => by
    unfold KidsAt at h
    simpa using h.1
  | t :: r, o, k + 1, h, hk => by
    unfold KidsAt at h
    have := KidsAt.get (k := k) h.2 (by simpa using hk)
    rw [show o + 17 + k * 17 = o + (k + 1) * 17 by omega] at this
    simpa using this
theorem KidsAt.of {W : World} {b : Nat} : ∀ {l : List Tr} {o : Nat}, (∀ k (hk : k < l.length), ∃ p, CellsAt W b (o + k * 17) (nV (l[k]).d p (l[k]).ks.length) ∧ TrP W l[k] p) → KidsAt W b o l
  | [], o, h => by unfold KidsAt; trivial
  | t :: r, o, h => by
    unfold KidsAt
    refine ⟨by have := h 0 (by simp); rw [Nat.zero_mul, Nat.add_zero] at this; exact this, KidsAt.of fun k hk => ?_⟩
    have := h (k + 1) (by simpa using hk)
    rw [show o + (k + 1) * 17 = o + 17 + k * 17 by omega] at this
    simpa using this
theorem TrP.w {W : World} {t : Tr} {p : Np} (h : TrP W t p) : Nw W t.d p t.ks.length := by
  cases t with
  | mk d ks => unfold TrP at h; exact h.1
theorem TrP.kids {W : World} {d : Nf} {ks : List Tr} {p : Np} (h : TrP W (.mk d ks) p) {k : Nat} (hk : k < ks.length) :
    ∃ b o q, p.kA = some ⟨b, o, none⟩ ∧ CellsAt W b (o + k * 17) (nV (ks[k]).d q (ks[k]).ks.length) ∧ TrP W ks[k] q ∧ b < W.heap.size := by
  unfold TrP at h
  obtain ⟨b, o, e, hh⟩ := h.2 (by omega)
  obtain ⟨q, h1, h2⟩ := hh.get hk
  exact ⟨b, o, q, e, h1, h2, World.block_lt_of_cell? W _ (h1 0 _ rfl)⟩
/-- by its kids -/
theorem Tr.ind {P : Tr → Prop} (h : ∀ d ks, (∀ t ∈ ks, P t) → P (.mk d ks)) : ∀ t, P t
  | .mk d ks => h d ks fun t _ => Tr.ind h t
/-- a box of a node -/
theorem nbox (w : World) (vs : List Value) (t : TypeId) : ∃ W, w.alloc (.cells vs.toArray t) = W ∧ Gr w W ∧ CellsAt W w.heap.size 0 vs ∧ (∀ i v, vs[i]? = some v → W.frozen? ⟨w.heap.size, i, none⟩ = false) ∧ W.heap.size = w.heap.size + 1 := by
  refine ⟨_, rfl, (Gr.refl w).alloc _ _, fun i v h => ?_, fun i v h => ?_, by simp⟩
  · rw [World.cell?_alloc_at _ _ _ _ (by simp), Nat.zero_add]
    simpa using h
  · exact frozen_of_row _ _ _ _ _ (World.alloc_heap_new w _)
theorem one_node (d : Nf) (p : Np) (nk : Nat) : (nV d p nk).toArray.all (·.oneCell') = true := by simp [nV, Value.oneCell']
theorem info_node : (Tryz.prog.info? 31).map (·.size) = some 17 := by kernel_rfl
section
variable {ops : Array Oper} {rest : List Oper} {o : Oper} {a : Act} {w : World} {Q : Exit → Act → World → Prop} {d : Nf} {p : Np} {nk : Nat}
/-- a node is loaded -/
theorem load_node (hgd : o.guard = none) (x : Operand) (ho : o.op = .load 31 x) (b of : Nat) (hx : a.eval x = .pointer (some ⟨b, of, none⟩)) (hc : CellsAt w b of (nV d p nk))
    (h : wpList Tryz.prog ops Q rest (a.put o.dst (.agg (nV d p nk).toArray)) w) : wpList Tryz.prog ops Q (o :: rest) a w :=
  wpList_load_mid hgd 31 x ho b of hx (nV d p nk) _ hc Tryz.underlying31 rfl info_node h
/-- a node goes into a new box -/
theorem store_node (hgd : o.guard = none) (x y : Operand) (ho : o.op = .store 31 x y) {c : Array Value} (hx : a.eval x = .pointer (some ⟨w.heap.size, 0, none⟩)) (hy : a.eval y = .agg (nV d p nk).toArray) (hs : c.size = 17)
    (h : wpList Tryz.prog ops Q rest (a.put o.dst undef) (w.alloc (.cells (nV d p nk).toArray 31))) : wpList Tryz.prog ops Q (o :: rest) a (w.alloc (.cells c 31)) := by
  refine wpList_store_row hgd 31 x y ho w.heap.size (nV d p nk).toArray hx hy 31 c (World.alloc_heap_new w _) info_node hs (one_node d p nk) ?_
  rw [World.setRow_alloc_new]
  exact h
end
/-- a node's cells, one by one -/
theorem CellsAt.all {W : World} {b o : Nat} {d : Nf} {p : Np} {nk : Nat} (h : CellsAt W b o (nV d p nk)) :
    W.cell? ⟨b, o, none⟩ = some (.int .i64 d.k) ∧ W.cell? ⟨b, o + 1, none⟩ = some (.float .f64 d.num) ∧ W.cell? ⟨b, o + 2, none⟩ = some (.int .i64 d.fn) ∧ W.cell? ⟨b, o + 3, none⟩ = some (.slice p.mA d.m.length p.mC) ∧ W.cell? ⟨b, o + 4, none⟩ = some (.int .i64 d.rg) ∧ W.cell? ⟨b, o + 5, none⟩ = some (.int .i64 d.st) ∧ W.cell? ⟨b, o + 6, none⟩ = some (.int .i64 d.of) ∧ W.cell? ⟨b, o + 7, none⟩ = some (.int .i64 d.gh) ∧ W.cell? ⟨b, o + 8, none⟩ = some (.slice p.gA d.gn.length p.gC) ∧ W.cell? ⟨b, o + 9, none⟩ = some (.int .i64 d.xh) ∧ W.cell? ⟨b, o + 10, none⟩ = some (.slice p.xA d.xn.length p.xC) ∧ W.cell? ⟨b, o + 11, none⟩ = some (.int .i64 d.card) ∧ W.cell? ⟨b, o + 12, none⟩ = some (.slice p.iA d.inc.length p.iC) ∧ W.cell? ⟨b, o + 13, none⟩ = some (.bool d.flag) ∧ W.cell? ⟨b, o + 14, none⟩ = some (.string d.name) ∧ W.cell? ⟨b, o + 15, none⟩ = some (.string d.value) ∧ W.cell? ⟨b, o + 16, none⟩ = some (.slice p.kA nk p.kC) :=
  ⟨h 0 _ rfl, h 1 _ rfl, h 2 _ rfl, h 3 _ rfl, h 4 _ rfl, h 5 _ rfl, h 6 _ rfl, h 7 _ rfl, h 8 _ rfl, h 9 _ rfl, h 10 _ rfl, h 11 _ rfl, h 12 _ rfl, h 13 _ rfl, h 14 _ rfl, h 15 _ rfl, h 16 _ rfl⟩
end Go.Proofs.YtikaamonmaohjaaGreatDoor.Ir
namespace Go.Proofs.YtikaamonmaohjaaGreatDoor.Ir
open Go.RowKit
set_option maxRecDepth 100000
set_option maxHeartbeats 2000000

mutual
def cnt : Tr → Nat | .mk _ ks => cnts ks + 1
def cnts : List Tr → Nat | [] => 0 | t :: r => cnt t + cnts r
end
mutual
def dep : Tr → Nat | .mk _ ks => deps ks + 1
def deps : List Tr → Nat | [] => 0 | t :: r => max (dep t) (deps r)
end
theorem cnts_snoc (l : List Tr) (t : Tr) : cnts (l ++ [t]) = cnts l + cnt t := by
  induction l with
  | nil => simp [cnts]
  | cons x r ih => rw [List.cons_append, cnts, ih, cnts]; omega
theorem deps_snoc (l : List Tr) (t : Tr) : deps (l ++ [t]) = max (deps l) (dep t) := by
  induction l with
  | nil => simp [deps]
  | cons x r ih => rw [List.cons_append, deps, ih, deps]; omega
theorem cnts_take {l : List Tr} {k : Nat} (h : k < l.length) : cnts (l.take (k + 1)) = cnts (l.take k) + cnt l[k] := by
  rw [List.take_succ_eq_append_getElem h, cnts_snoc]
theorem deps_take {l : List Tr} {k : Nat} (h : k < l.length) : deps (l.take (k + 1)) = max (deps (l.take k)) (dep l[k]) := by
  rw [List.take_succ_eq_append_getElem h, deps_snoc]
theorem cnts_le (l : List Tr) (k : Nat) : cnts (l.take k) ≤ cnts l := by
  induction l generalizing k with
  | nil => simp
  | cons x r ih => cases k with
    | zero => simp [cnts]
    | succ k => rw [List.take_succ_cons, cnts, cnts]; have := ih k; omega
theorem deps_le (l : List Tr) (k : Nat) : deps (l.take k) ≤ deps l := by
  induction l generalizing k with
  | nil => simp
  | cons x r ih => cases k with
    | zero => simp [deps]
    | succ k => rw [List.take_succ_cons, deps, deps]; have := ih k; omega
theorem cnt_pos (t : Tr) : 1 ≤ cnt t := by cases t; unfold cnt; omega
theorem dep_pos (t : Tr) : 1 ≤ dep t := by cases t; unfold dep; omega

theorem size_any (t : Tr) : ∀ (p : Np) (most : Nat) (w : World), TrP w t p → 1 ≤ most → most ≤ 1000 →
    Calls Tryz.prog 22 #[.agg (nV t.d p t.ks.length).toArray, .int .i64 most] w fun e w' => e = .returned (.int .i64 (min (cnt t) most : Nat)) ∧ Gr w w' := by
  induction t using Tr.ind with
  | h d ks ih =>
  intro p most w h hm hM
  have HT := Lib.hid h
  have hk1 := h.w.b.k1
  have hk2 := h.w.b.k2
  simp only [Tr.d, Tr.ks] at hk1 hk2 ⊢
  have IH := Lib.hid ih
  clear ih h
  obtain ⟨W1, hW1, g1, hb1, -, hsz⟩ := nbox w (nV d p ks.length) 31
  have a16 := hb1 16 _ rfl
  simp only [Nat.zero_add] at a16
  obtain ⟨P, hP⟩ : ∃ P, w.heap.size = P := ⟨_, rfl⟩
  rw [hP] at a16
  have HP := Lib.hid hP; have HW1 := Lib.hid hW1; have HG1 := Lib.hid g1; have HT1 : Hid (TrP W1 (.mk d ks) p) := Lib.hid (HT.out.gr g1)
  obtain ⟨A, hAe⟩ : ∃ A, p.kA = A := ⟨_, rfl⟩
  rw [hAe] at a16
  have HAe := Lib.hid hAe
  clear hW1 g1 hb1 hsz hP hAe
  go_enter Tryz.func22, Tryz.ntmps22
  go_upto_region 1 with fail
  rw [HW1.out, HP.out]
  go_wp2
  go_loopw [5, 11] (fun s i wr => ∃ k : Nat, k ≤ ks.length ∧ i = .int .i64 k ∧ s = .int .i64 (min (cnts (ks.take k) + 1) most : Nat) ∧ Gr W1 wr) (fun _ i _ => ks.length - (intOf i).toNat)
  case atStart => exact ⟨0, Nat.zero_le _, rfl, by rw [List.take_zero, cnts]; congr 1; omega, Gr.refl _⟩
  case round =>
    obtain ⟨k, hk, rfl, rfl, hg⟩ := hrel
    by_cases hlt : k < ks.length
    · obtain ⟨b, o, q, hA, hc, ht, -⟩ := (HT1.out.gr hg).kids hlt
      obtain rfl : A = some ⟨b, o, none⟩ := HAe.out.symm.trans hA
      clear hA
      have HS := Lib.hid (cnts_take hlt)
      have IHk := Lib.hid (fun (p : Np) (most : Nat) (w : World) => IH.out ks[k] (List.getElem_mem hlt) p most w)
      have hkk2 := cnts_le ks (k + 1)
      obtain ⟨t, htt⟩ : ∃ t, ks[k] = t := ⟨_, rfl⟩
      rw [htt] at hc ht HS IHk
      clear htt
      by_cases hfull : cnts (ks.take k) + 1 < most
      · have hs1 : min (cnts (ks.take k) + 1) most = cnts (ks.take k) + 1 := by omega
        obtain ⟨s, hs⟩ : ∃ s, cnts (ks.take k) + 1 = s := ⟨_, rfl⟩
        rw [hs] at hs1 hfull ⊢
        rw [hs1]
        have hne : ((s : Int) == (most : Int)) = false := by simp; omega
        have hcast : (most : Int) - (s : Int) = ((most - s : Nat) : Int) := by omega
        have hNx : Hid (min (cnts (ks.take (k + 1)) + 1) most = s + min (cnt t) (most - s)) := Lib.hid (by rw [HS.out]; omega)
        obtain ⟨W2, hW2, g2, hb2, -, -⟩ := nbox wr (nV t.d q t.ks.length) 31
        have HW2 := Lib.hid hW2
        have CC := Lib.hid (IHk.out q (most - s) W2 (TrP.gr g2 t q ht) (by omega) (by omega))
        obtain ⟨r, hr⟩ : ∃ r, min (cnt t) (most - s) = r := ⟨_, rfl⟩
        rw [hr] at CC hNx
        have hr2 : r ≤ most := by omega
        clear hs hs1 hW2 hr hkk2
        go_wp2_with (first
          | (refine load_node rfl (.tmp 13) rfl _ _ rfl hc ?_)
          | (refine store_node rfl (.tmp 7) (.tmp 14) rfl rfl rfl rfl ?_; rw [HW2.out])
          | (refine load_node rfl (.tmp 7) rfl _ _ rfl hb2 ?_)
          | (go_at_call 22; refine CC.out.mono ?_; rintro e w3 ⟨rfl, g3⟩))
        have hg3 : Gr W1 w3 := (hg.trans g2).trans g3
        clear g3
        go_wp2
        go_roundw
        case rel => exact ⟨k + 1, by omega, by go_num, by rw [hNx.out]; congr 1, hg3⟩
        case measure => simp [intOf]; omega
      · have hs1 : min (cnts (ks.take k) + 1) most = most := by omega
        have hN : Hid (min (cnt (.mk d ks)) most = most) := Lib.hid (by unfold cnt; have := cnts_le ks k; omega)
        rw [hs1]
        obtain ⟨W2, hW2, g2, hb2, -, -⟩ := nbox wr (nV t.d q t.ks.length) 31
        have HW2 := Lib.hid hW2
        clear hs1 hW2 hkk2 hfull
        go_wp2_with (first
          | (refine load_node rfl (.tmp 13) rfl _ _ rfl hc ?_)
          | (refine store_node rfl (.tmp 7) (.tmp 14) rfl rfl rfl rfl ?_; rw [HW2.out]))
        go_ret
        exact ⟨by rw [hN.out]; rfl, HG1.out.trans (hg.trans g2)⟩
    · obtain rfl : k = ks.length := by omega
      have hN : Hid (min (cnts (ks.take ks.length) + 1) most = min (cnt (.mk d ks)) most) := Lib.hid (by rw [List.take_length]; unfold cnt; rfl)
      rw [hN.out]
      go_wp2
      go_ret
      exact ⟨rfl, HG1.out.trans hg⟩
theorem depth_any (t : Tr) : ∀ (p : Np) (most : Nat) (w : World), TrP w t p → 1 ≤ most → most ≤ 1000 →
    Calls Tryz.prog 23 #[.agg (nV t.d p t.ks.length).toArray, .int .i64 most] w fun e w' => e = .returned (.int .i64 (min (dep t) most : Nat)) ∧ Gr w w' := by
  induction t using Tr.ind with
  | h d ks ih =>
  intro p most w h hm hM
  have HT := Lib.hid h
  have hk1 := h.w.b.k1
  have hk2 := h.w.b.k2
  simp only [Tr.d, Tr.ks] at hk1 hk2 ⊢
  have IH := Lib.hid ih
  clear ih h
  obtain ⟨W1, hW1, g1, hb1, -, hsz⟩ := nbox w (nV d p ks.length) 31
  have a16 := hb1 16 _ rfl
  simp only [Nat.zero_add] at a16
  obtain ⟨P, hP⟩ : ∃ P, w.heap.size = P := ⟨_, rfl⟩
  rw [hP] at a16
  have HP := Lib.hid hP; have HW1 := Lib.hid hW1; have HG1 := Lib.hid g1; have HT1 : Hid (TrP W1 (.mk d ks) p) := Lib.hid (HT.out.gr g1)
  obtain ⟨A, hAe⟩ : ∃ A, p.kA = A := ⟨_, rfl⟩
  rw [hAe] at a16
  have HAe := Lib.hid hAe
  clear hW1 g1 hb1 hsz hP hAe
  obtain ⟨m, hme⟩ : ∃ m, most = m + 1 := ⟨most - 1, by omega⟩
  have HME := Lib.hid hme
  have hmi : (most : Int) - 1 = (m : Int) := by omega
  clear hme
  go_enter Tryz.func23, Tryz.ntmps23
  go_upto_region 1 with fail
  rw [HW1.out, HP.out]
  go_wp2
  go_loopw [5, 11] (fun s i wr => ∃ k : Nat, k ≤ ks.length ∧ i = .int .i64 k ∧ s = .int .i64 (min (deps (ks.take k)) m : Nat) ∧ Gr W1 wr) (fun _ i _ => ks.length - (intOf i).toNat)
  case atStart => exact ⟨0, Nat.zero_le _, rfl, by rw [List.take_zero, deps]; congr 1, Gr.refl _⟩
  case round =>
    obtain ⟨k, hk, rfl, rfl, hg⟩ := hrel
    by_cases hlt : k < ks.length
    · obtain ⟨b, o, q, hA, hc, ht, -⟩ := (HT1.out.gr hg).kids hlt
      obtain rfl : A = some ⟨b, o, none⟩ := HAe.out.symm.trans hA
      clear hA
      have HS := Lib.hid (deps_take hlt)
      have IHk := Lib.hid (fun (p : Np) (most : Nat) (w : World) => IH.out ks[k] (List.getElem_mem hlt) p most w)
      have hkk2 := deps_le ks (k + 1)
      obtain ⟨t, htt⟩ : ∃ t, ks[k] = t := ⟨_, rfl⟩
      rw [htt] at hc ht HS IHk
      clear htt
      by_cases hfull : deps (ks.take k) < m
      · have hs1 : min (deps (ks.take k)) m = deps (ks.take k) := by omega
        obtain ⟨s, hs⟩ : ∃ s, deps (ks.take k) = s := ⟨_, rfl⟩
        rw [hs] at hs1 hfull ⊢
        rw [hs1]
        have hne : ((s : Int) == (m : Int)) = false := by simp; omega
        obtain ⟨W2, hW2, g2, hb2, -, -⟩ := nbox wr (nV t.d q t.ks.length) 31
        have HW2 := Lib.hid hW2
        have CC := Lib.hid (IHk.out q m W2 (TrP.gr g2 t q ht) (by have := HME.out; omega) (by have := HME.out; omega))
        obtain ⟨r, hr⟩ : ∃ r, min (dep t) m = r := ⟨_, rfl⟩
        have hNx : Hid (min (deps (ks.take (k + 1))) m = max s r) := Lib.hid (by rw [HS.out]; omega)
        rw [hr] at CC
        have hr2 : r ≤ m := by omega
        clear hs hs1 hW2 hr hkk2
        go_wp2_with (first
          | (refine load_node rfl (.tmp 13) rfl _ _ rfl hc ?_)
          | (refine store_node rfl (.tmp 7) (.tmp 14) rfl rfl rfl rfl ?_; rw [HW2.out])
          | (refine load_node rfl (.tmp 7) rfl _ _ rfl hb2 ?_)
          | (go_at_call 23; refine CC.out.mono ?_; rintro e w3 ⟨rfl, g3⟩))
        have hg3 : Gr W1 w3 := (hg.trans g2).trans g3
        clear g3
        have hmx : (if (r : Int) ≤ (s : Int) then (s : Int) else (r : Int)) = ((max s r : Nat) : Int) := by split <;> omega
        go_wp2
        all_goals
          go_roundw
          case rel => exact ⟨k + 1, by omega, by go_num, by rw [hNx.out]; congr 1; omega, hg3⟩
          case measure => simp [intOf]; omega
      · have hs1 : min (deps (ks.take k)) m = m := by omega
        have hN : Hid (min (dep (.mk d ks)) most = m + 1) := Lib.hid (by have := HME.out; unfold dep; have := deps_le ks k; omega)
        rw [hs1]
        obtain ⟨W2, hW2, g2, hb2, -, -⟩ := nbox wr (nV t.d q t.ks.length) 31
        have HW2 := Lib.hid hW2
        clear hs1 hW2 hkk2 hfull
        go_wp2_with (first
          | (refine load_node rfl (.tmp 13) rfl _ _ rfl hc ?_)
          | (refine store_node rfl (.tmp 7) (.tmp 14) rfl rfl rfl rfl ?_; rw [HW2.out]))
        go_ret
        exact ⟨by rw [hN.out]; rfl, HG1.out.trans (hg.trans g2)⟩
    · obtain rfl : k = ks.length := by omega
      have hN : Hid (min (deps (ks.take ks.length)) m + 1 = min (dep (.mk d ks)) most) := Lib.hid (by have := HME.out; rw [List.take_length]; unfold dep; omega)
      obtain ⟨r, hr⟩ : ∃ r, min (deps (ks.take ks.length)) m = r := ⟨_, rfl⟩
      have hr2 : r ≤ m := by omega
      rw [hr] at hN ⊢
      clear hr
      go_wp2
      go_ret
      exact ⟨by rw [← hN.out]; simp, HG1.out.trans hg⟩
theorem isize_any (t : Tr) (p : Np) (w : World) (h : TrP w t p) :
    Calls Tryz.prog 11 #[.agg (nV t.d p t.ks.length).toArray] w fun e w' => e = .returned (.int .i64 (min (cnt t) 401 : Nat)) ∧ Gr w w' := by
  obtain ⟨W1, hW1, g1, hb1, -, hsz⟩ := nbox w (nV t.d p t.ks.length) 31
  have CC := Lib.hid (size_any t p 401 W1 (TrP.gr g1 t p h) (by omega) (by omega))
  have HW1 := Lib.hid hW1
  clear hW1 h hsz
  go_enter Tryz.func11, Tryz.ntmps11
  go_upto_region 1 with fail
  rw [HW1.out]
  go_wp2_with (first
    | (refine load_node rfl (.tmp 1) rfl _ _ rfl hb1 ?_)
    | (go_at_call 22; refine CC.out.mono ?_; rintro e w3 ⟨rfl, g3⟩))
  go_wp2
  go_ret
  exact ⟨rfl, g1.trans g3⟩
theorem idepth_any (t : Tr) (p : Np) (w : World) (h : TrP w t p) :
    Calls Tryz.prog 12 #[.agg (nV t.d p t.ks.length).toArray] w fun e w' => e = .returned (.int .i64 (min (dep t) 41 : Nat)) ∧ Gr w w' := by
  obtain ⟨W1, hW1, g1, hb1, -, hsz⟩ := nbox w (nV t.d p t.ks.length) 31
  have CC := Lib.hid (depth_any t p 41 W1 (TrP.gr g1 t p h) (by omega) (by omega))
  have HW1 := Lib.hid hW1
  clear hW1 h hsz
  go_enter Tryz.func12, Tryz.ntmps12
  go_upto_region 1 with fail
  rw [HW1.out]
  go_wp2_with (first
    | (refine load_node rfl (.tmp 1) rfl _ _ rfl hb1 ?_)
    | (go_at_call 23; refine CC.out.mono ?_; rintro e w3 ⟨rfl, g3⟩))
  go_wp2
  go_ret
  exact ⟨rfl, g1.trans g3⟩
end Go.Proofs.YtikaamonmaohjaaGreatDoor.Ir
