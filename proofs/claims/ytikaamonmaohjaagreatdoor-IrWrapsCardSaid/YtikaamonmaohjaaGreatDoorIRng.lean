/- A range over a function whose rounds know which element comes next. -/
import Derived.Test.YtikaamonmaohjaaGreatDoorISize
import Derived.RangeFuncNested
import Derived.RangeFuncBound
import Derived.RangeFuncCalls
import Derived.RangeFuncLeaves
import Derived.Shelf.Abstract
import Derived.Shelf.RegionOpen
import Derived.WalkKit
import Derived.OwnWalkIn
import Derived.TacticsInMore
import Derived.LoopNIn
import Derived.LoopIn
import Derived.RangeFuncBox
namespace Go.Proofs.YtikaamonmaohjaaGreatDoor.Ir
open Go.RowKit Go.Shelf
set_option maxRecDepth 100000
set_option maxHeartbeats 2000000
attribute [local go_sem] Oper.semAt_some

theorem room_of_none {F : Fence} (hd : F.depth = none) (k : Nat) : F.room k := fun d h => by rw [hd] at h; cases h
theorem RoundIn.anyDepth {F : Fence} (hd : F.depth = none) {m m' : Nat} {P : Program} {l : Nat} {f : FuncId} {tmps : Array Value} {assign body : Code} {w : World} {R : Ending → World → Prop}
    (h : RoundIn F m P l f tmps assign body w R) : RoundIn F m' P l f tmps assign body w R := ⟨h.1, fun c cs _ => h.2 c cs (room_of_none hd _)⟩
theorem YieldAt.anyDepth {F : Fence} (hd : F.depth = none) {m : Nat} (m' : Nat) {P : Program} {l : Nat} {args : Array Value} {W : World} {R : Ending → World → Prop} (h : YieldAt F m P l args W R) : YieldAt F m' P l args W R := by
  obtain ⟨fn, tmps, assign, body, hy, hR⟩ := h
  exact ⟨fn, tmps, assign, body, hy, RoundIn.anyDepth hd hR⟩
section
variable {F : Fence} {nF : Nat} {ops : Array Oper} {rest : List Oper} {o : Oper} {a : Act} {w : World} {Q : Exit → Act → World → Prop} {d : Nf} {p : Np} {nk : Nat}
theorem load_nodeIn (hgd : o.guard = none) (x : Operand) (ho : o.op = .load 31 x) (b of : Nat) (hx : a.eval x = .pointer (some ⟨b, of, none⟩)) (hc : CellsAt w b of (nV d p nk))
    (h : wpListIn F nF Tryz.prog ops Q rest (a.put o.dst (.agg (nV d p nk).toArray)) w) : wpListIn F nF Tryz.prog ops Q (o :: rest) a w := by
  refine wpListIn_plain hgd fun K hK => ?_
  unfold Oper.wpIn
  refine ⟨by simp [Oper.about, ho], ?_⟩
  rw [Oper.semAt_plain F _ _ (by rw [ho]; intro c hc'; cases hc')]
  have hrun := run_loadAt_mid (P := Tryz.prog) w b of 31 (nV d p nk) _ hc Tryz.underlying31 rfl info_node
  simp [execOp, ho, hx, hrun, Result.andThen]
  exact hK _ _ h
theorem store_nodeIn (hgd : o.guard = none) (x y : Operand) (ho : o.op = .store 31 x y) {c : Array Value} (hx : a.eval x = .pointer (some ⟨w.heap.size, 0, none⟩)) (hy : a.eval y = .agg (nV d p nk).toArray) (hs : c.size = 17)
    (h : wpListIn F nF Tryz.prog ops Q rest (a.put o.dst undef) (w.alloc (.cells (nV d p nk).toArray 31))) : wpListIn F nF Tryz.prog ops Q (o :: rest) a (w.alloc (.cells c 31)) := by
  refine wpListIn_plain hgd fun K hK => ?_
  unfold Oper.wpIn
  refine ⟨by simp [Oper.about, ho], ?_⟩
  rw [Oper.semAt_plain F _ _ (by rw [ho]; intro c hc'; cases hc')]
  have hrun := run_storeAt_new (P := Tryz.prog) w 31 c (nV d p nk).toArray info_node hs (one_node d p nk)
  simp [execOp, ho, hx, hy, hrun, Result.andThen]
  exact hK _ _ h
theorem box_nodeIn (hgd : o.guard = none) (x : Operand) (ho : o.op = .box 31 x) (hx : a.eval x = .agg (nV d p nk).toArray)
    (h : wpListIn F nF Tryz.prog ops Q rest (a.put o.dst (.pointer (some ⟨w.heap.size, 0, none⟩))) (w.alloc (.cells (nV d p nk).toArray 31))) : wpListIn F nF Tryz.prog ops Q (o :: rest) a w := by
  refine wpListIn_plain hgd fun K hK => ?_
  unfold Oper.wpIn
  refine ⟨by simp [Oper.about, ho], ?_⟩
  rw [Oper.semAt_plain F _ _ (by rw [ho]; intro c hc'; cases hc')]
  simp only [execOp, ho, hx]
  simp [go_sem]
  exact hK _ _ h
end
/-- what a loop's body keeps: what lay below n₀, and all boxes of nodes -/
structure Kn (n₀ : Nat) (W W' : World) : Prop where
  b : Below n₀ W W'
  k : ∀ (b : Nat) (cs : Array Value) (fr : Nat × Nat), W.heap[b]? = some (.cells cs 31 fr) → W'.heap[b]? = some (.cells cs 31 fr)
theorem Kn.refl (n₀ : Nat) (W : World) : Kn n₀ W W := ⟨Below.refl _ _, fun _ _ _ h => h⟩
theorem Kn.trans {n₀ : Nat} {A B C : World} (h : Kn n₀ A B) (g : Kn n₀ B C) : Kn n₀ A C := ⟨h.b.trans g.b, fun b cs fr e => g.k b cs fr (h.k b cs fr e)⟩
theorem Gr.kn {n₀ : Nat} {W W' : World} (g : Gr W W') (hn : n₀ ≤ W.heap.size) : Kn n₀ W W' :=
  ⟨g.b.mono hn, fun b _ _ e => (g.b.block b (Array.getElem?_eq_some_iff.1 e).1).trans e⟩
theorem box_cells {W : World} {P : Nat} {vs : List Value} {T : TypeId} (h : W.heap[P]? = some (.cells vs.toArray T (0, 0))) : CellsAt W P 0 vs := fun i v e => by
  rw [Nat.zero_add, cell_of_row W P i _ _ (0, 0) h]
  simpa using e
theorem box_frozen {W : World} {P i : Nat} {vs : List Value} {T : TypeId} (h : W.heap[P]? = some (.cells vs.toArray T (0, 0))) : W.frozen? ⟨P, i, none⟩ = false := frozen_of_row _ _ _ _ _ h

/-- what a loop over nodes is handed: the depth, the parts that read as a plan -/
structure Nx (W0 : World) where
  dp : Nat
  t : Tr
  p : Np
  h : TrP W0 t p
def Nx.vs {W0 : World} (x : Nx W0) : Array Value := #[.int .i64 x.dp, .agg (nV x.t.d x.p x.t.ks.length).toArray]
def Nx.key {W0 : World} (x : Nx W0) : Nat × Tr := (x.dp, x.t)
mutual
/-- the nodes, kids first, each with its depth -/
def nodesT : Nat → Tr → List (Nat × Tr)
  | dp, .mk d ks => nodesK (dp + 1) ks ++ [(dp, .mk d ks)]
def nodesK : Nat → List Tr → List (Nat × Tr)
  | _, [] => []
  | dp, t :: r => nodesT dp t ++ nodesK dp r
end
theorem nodesK_snoc (dp : Nat) (l : List Tr) (t : Tr) : nodesK dp (l ++ [t]) = nodesK dp l ++ nodesT dp t := by
  induction l with
  | nil => simp [nodesK]
  | cons x r ih => rw [List.cons_append, nodesK, ih, nodesK, List.append_assoc]
theorem nodesK_take {l : List Tr} {k : Nat} (h : k < l.length) (dp : Nat) : nodesK dp (l.take (k + 1)) = nodesK dp (l.take k) ++ nodesT dp l[k] := by
  rw [List.take_succ_eq_append_getElem h, nodesK_snoc]
theorem nodesK_pre (dp : Nat) (l : List Tr) (k : Nat) : nodesK dp (l.take k) <+: nodesK dp l := by
  induction l generalizing k with
  | nil => simp [nodesK]
  | cons x r ih => cases k with
    | zero => simp [nodesK]
    | succ k => rw [List.take_succ_cons, nodesK, nodesK]; exact (List.prefix_append_right_inj _).2 (ih k)

/-- visit's answer: all have come; or a part, a round having said 'no more' -/
def VPost {W0 : World} (n₀ dp : Nat) (t : Tr) (J Jx : List (Nx W0) → World → Prop) (pre : List (Nx W0)) (W : World) (e : Ending) (W' : World) : Prop :=
  (e = .returned (.bool true) ∧ ∃ ys : List (Nx W0), ys.map Nx.key = nodesT dp t ∧ J (pre ++ ys) W' ∧ Kn n₀ W W') ∨ (e = .returned (.bool false) ∧ ∃ q : List (Nx W0), q.map Nx.key <+: nodesT dp t ∧ Jx (pre ++ q) W')
theorem visit_in (F : Fence) (hd : F.depth = none) (h36 : F.fn 36) (hro : F.round = none) (l : Nat) (N : List (Nat × Tr)) (W0 : World) (J Jx : List (Nx W0) → World → Prop)
    (hJ : ∀ s W W', J s W → Gr W W' → J s W')
    (hY : ∀ m pre x W, J pre W → (pre ++ [x]).map Nx.key <+: N → YieldAt F m Tryz.prog l x.vs W fun e W' =>
      (e = .returned (.bool true) ∧ J (pre ++ [x]) W' ∧ Kn W0.heap.size W W') ∨ (e = .returned (.bool false) ∧ Jx (pre ++ [x]) W')) (t : Tr) :
    ∀ (n dp : Nat) (p : Np) (pre : List (Nx W0)) (W : World), TrP W0 t p → Gr W0 W → J pre W → dp + dep t ≤ 1000000 → pre.map Nx.key ++ nodesT dp t <+: N →
      CallsIn F n Tryz.prog 36 #[.agg (nV t.d p t.ks.length).toArray, .int .i64 dp, .func (.yield l) #[] #[]] W (VPost W0.heap.size dp t J Jx pre W) := by
  induction t using Tr.ind with
  | h d ks ih =>
  intro n dp p pre W h hg0 hJ0 hdep hN
  have hdd : ∀ k : Nat, (F.depth.isSome = true → 1 ≤ k) := fun k h => by rw [hd] at h; cases h
  have HT := Lib.hid h
  have hk1 := h.w.b.k1
  have hk2 := h.w.b.k2
  simp only [Tr.d, Tr.ks] at hk1 hk2 ⊢
  have IH := Lib.hid ih
  have HN : Hid (pre.map Nx.key ++ nodesT dp (.mk d ks) <+: N) := Lib.hid hN
  clear ih h hN
  obtain ⟨W1, hW1, g1, hb1, -, hsz⟩ := nbox W (nV d p ks.length) 31
  have a16 := hb1 16 _ rfl
  simp only [Nat.zero_add] at a16
  obtain ⟨P, hP⟩ : ∃ P, W.heap.size = P := ⟨_, rfl⟩
  have hbox : Hid (W1.heap[P]? = some (.cells (nV d p ks.length).toArray 31 (0, 0))) := Lib.hid (by rw [← hW1, ← hP]; exact World.alloc_heap_new _ _)
  rw [hP] at a16
  have HP := Lib.hid hP; have HW1 := Lib.hid hW1; have HG1 := Lib.hid g1
  have hG : Hid (Gr W0 W1) := Lib.hid (hg0.trans g1)
  have hg00 := Lib.hid hg0
  have hJ1 : Hid (J pre W1) := Lib.hid (hJ _ _ _ hJ0 g1)
  obtain ⟨A, hAe⟩ : ∃ A, p.kA = A := ⟨_, rfl⟩
  rw [hAe] at a16
  have HAe := Lib.hid hAe
  have HY := Lib.hid hY; have HJ := Lib.hid hJ
  clear hW1 g1 hb1 hsz hP hAe hY hJ hg0 hJ0
  refine callsIn_of_wp Tryz.func36 rfl h36 ?_ hro
  simp only [Tryz.ntmps36, List.size_toArray, List.length_cons, List.length_nil, Nat.reduceAdd, Nat.reduceSub, Array.replicate_succ, Array.replicate_zero, List.push_toArray, List.append_toArray, List.nil_append, List.cons_append]
  gi_wp2_with (refine box_nodeIn rfl (.tmp 0) rfl rfl ?_; rw [HW1.out, HP.out])
  gi_loopw [12] (fun i wr => ∃ (k : Nat) (ys : List (Nx W0)), k ≤ ks.length ∧ i = .int .i64 k ∧ Hid (ys.map Nx.key = nodesK (dp + 1) (ks.take k)) ∧ Hid (J (pre ++ ys) wr) ∧ Hid (Kn W0.heap.size W1 wr)) (fun i _ => ks.length - (intOf i).toNat)
  case atStart => exact ⟨0, [], Nat.zero_le _, rfl, Lib.hid rfl, Lib.hid (by rw [List.append_nil]; exact hJ1.out), Lib.hid (Kn.refl _ _)⟩
  case round =>
    obtain ⟨k, ys, hk, rfl, HY1, HJ2, HK⟩ := hrel
    have HG2 : Hid (Gr W0 wr) := Lib.hid ⟨hG.out.b.trans HK.out.b⟩
    have hboxr := HK.out.k _ _ _ hbox.out
    by_cases hlt : k < ks.length
    · obtain ⟨b, o, q, hA, hc0, ht, -⟩ := HT.out.kids hlt
      have hc := hc0.gr HG2.out
      obtain rfl : A = some ⟨b, o, none⟩ := HAe.out.symm.trans hA
      clear hA hc0
      have HS := Lib.hid (nodesK_take hlt (dp + 1))
      have HSP := Lib.hid (nodesK_pre (dp + 1) ks (k + 1))
      have IHk := Lib.hid (IH.out ks[k] (List.getElem_mem hlt))
      have hdk : dp + 1 + dep ks[k] ≤ 1000000 := by
        have := deps_le ks (k + 1)
        rw [deps_take hlt] at this
        unfold dep at hdep
        omega
      obtain ⟨t, htt⟩ : ∃ t, ks[k] = t := ⟨_, rfl⟩
      rw [htt] at hc ht HS IHk hdk
      clear htt hboxr
      obtain ⟨W2, hW2, g2, hb2, -, -⟩ := nbox wr (nV t.d q t.ks.length) 31
      have HW2 := Lib.hid hW2
      have hlen : (pre ++ ys).map Nx.key ++ nodesT (dp + 1) t <+: N := by
        have h1 := HN.out
        have h3 := HSP.out
        rw [HS.out] at h3
        rw [nodesT] at h1
        rw [List.map_append, HY1.out, List.append_assoc]
        refine List.IsPrefix.trans ?_ h1
        exact (List.prefix_append_right_inj _).2 (h3.trans (List.prefix_append _ _))
      have CC0 := (IHk.out (n - 1) (dp + 1) q (pre ++ ys) W2 ht (HG2.out.trans g2) (HJ.out _ _ _ HJ2.out g2) hdk hlen)
      have hdpb : dp ≤ 1000000 := by omega
      rw [show ((dp + 1 : Nat) : Int) = (dp : Int) + 1 from by omega] at CC0
      have CC := Lib.hid CC0
      clear CC0
      clear hW2 hlen hdk
      gi_wp2_with (first
        | (refine load_nodeIn rfl (.tmp 14) rfl _ _ rfl hc ?_)
        | (refine store_nodeIn rfl (.tmp 8) (.tmp 15) rfl rfl rfl rfl ?_; rw [HW2.out])
        | (refine load_nodeIn rfl (.tmp 8) rfl _ _ rfl hb2 ?_)
        | ((try refine ⟨hdd _, ?_⟩); gi_at_call 36; refine CC.out.mono ?_; rintro e w3 (⟨rfl, zs, hz1, hz2, hz3⟩ | ⟨rfl, zs, hz1, hz2⟩)))
      · refine ⟨⟨k + 1, ys ++ zs, by omega, by go_num, Lib.hid ?_, Lib.hid ?_, Lib.hid ?_⟩, by simp [intOf]; omega⟩
        · rw [List.map_append, HY1.out, hz1, HS.out]
        · rw [← List.append_assoc]; exact hz2
        · exact (HK.out.trans (Gr.kn g2 HG2.out.size)).trans hz3
      · go_ret
        refine .inr ⟨rfl, ys ++ zs, ?_, by rw [← List.append_assoc]; exact hz2⟩
        rw [List.map_append, HY1.out, nodesT]
        refine List.IsPrefix.trans ?_ (List.prefix_append _ _)
        refine List.IsPrefix.trans ((List.prefix_append_right_inj _).2 hz1) ?_
        rw [← HS.out]
        exact HSP.out
    · obtain rfl : k = ks.length := by omega
      have hb3 := box_cells hboxr
      have HE : Hid (nodesT dp (.mk d ks) = ys.map Nx.key ++ [(dp, .mk d ks)]) := Lib.hid (by rw [HY1.out, List.take_length, nodesT])
      have hlen : ((pre ++ ys) ++ [(⟨dp, .mk d ks, p, HT.out⟩ : Nx W0)]).map Nx.key <+: N := by
        have h1 := HN.out
        rw [HE.out, ← List.append_assoc] at h1
        rw [List.map_append, List.map_append]
        exact h1
      obtain ⟨fn, tmps, assign, body, hy, hR⟩ := HY.out (n - 1) (pre ++ ys) ⟨dp, .mk d ks, p, HT.out⟩ wr HJ2.out hlen
      dsimp only [Nx.vs, Tr.d, Tr.ks] at hy
      clear hboxr hlen
      gi_wp2_with (first
        | (refine load_nodeIn rfl (.tmp 3) rfl _ _ rfl hb3 ?_)
        | ((try refine ⟨hdd _, ?_⟩); refine hR.mono ?_; clear hR; rintro e w3 (⟨rfl, hz2, hz3⟩ | ⟨rfl, hz2⟩)))
      · go_ret
        refine .inl ⟨rfl, ys ++ [⟨dp, .mk d ks, p, HT.out⟩], ?_, by rw [← List.append_assoc]; exact hz2, ?_⟩
        · rw [List.map_append, HE.out]; rfl
        · exact ((Gr.kn HG1.out hg00.out.size).trans HK.out).trans hz3
      · go_ret
        refine .inr ⟨rfl, ys ++ [⟨dp, .mk d ks, p, HT.out⟩], ?_, by rw [← List.append_assoc]; exact hz2⟩
        rw [List.map_append, HE.out]
        exact List.prefix_refl _
/-- nodes: the function value that holds the node's box -/
theorem nodes_any (t : Tr) (p : Np) (w : World) :
    Calls Tryz.prog 19 #[.agg (nV t.d p t.ks.length).toArray] w fun e w' => e = .returned (.func (.func 35) #[] #[.pointer (some ⟨w.heap.size, 0, none⟩)]) ∧ w' = w.alloc (.cells (nV t.d p t.ks.length).toArray 31) := by
  go_enter Tryz.func19, Tryz.ntmps19
  go_wp2
  go_ret
  exact ⟨rfl, rfl⟩
/-- nodes' function: a loop over all nodes -/
theorem nodes1_in (F : Fence) (hd : F.depth = none) (n : Nat) (h35 : F.fn 35) (h36 : F.fn 36) (hro : F.round = none) (l Bt : Nat) (t : Tr) (p : Np) (W0 : World) (J Jx : List (Nx W0) → World → Prop)
    (hJ : ∀ s W W', J s W → Gr W W' → J s W')
    (hY : ∀ pre x W, J pre W → (pre ++ [x]).map Nx.key <+: nodesT 1 t → YieldAt F (n - 1) Tryz.prog l x.vs W fun e W' =>
      (e = .returned (.bool true) ∧ J (pre ++ [x]) W' ∧ Kn W0.heap.size W W') ∨ (e = .returned (.bool false) ∧ Jx (pre ++ [x]) W'))
    (W : World) (hT : TrP W0 t p) (hg : Gr W0 W) (hB : CellsAt W Bt 0 (nV t.d p t.ks.length)) (hdep : dep t ≤ 1000) (h0 : J [] W) :
    CallsIn F n Tryz.prog 35 #[.func (.yield l) #[] #[], .pointer (some ⟨Bt, 0, none⟩)] W fun e W' => (∃ v, e = .returned v) ∧
      ((∃ ys : List (Nx W0), ys.map Nx.key = nodesT 1 t ∧ J ys W') ∨ (∃ pre : List (Nx W0), pre.map Nx.key <+: nodesT 1 t ∧ Jx pre W')) := by
  have hdd : ∀ k : Nat, (F.depth.isSome = true → 1 ≤ k) := fun k h => by rw [hd] at h; cases h
  have hp := Lib.hid (visit_in F hd h36 hro l (nodesT 1 t) W0 J Jx hJ (fun m pre x W hj hl => YieldAt.anyDepth hd m (hY pre x W hj hl)) t (n - 1) 1 p [] W hT hg h0 (by omega) (by simp))
  clear hJ hY h0
  refine callsIn_of_wp Tryz.func35 rfl h35 ?_ hro
  simp only [Tryz.ntmps35, List.size_toArray, List.length_cons, List.length_nil, Nat.reduceAdd, Nat.reduceSub, Array.replicate_succ, Array.replicate_zero, List.push_toArray, List.append_toArray, List.nil_append, List.cons_append]
  gi_wp2_with (first
    | (refine load_nodeIn rfl (.tmp 1) rfl _ _ rfl hB ?_)
    | ((try refine ⟨hdd _, ?_⟩); gi_at_call 36; refine hp.out.mono ?_; rintro e w3 (⟨rfl, zs, hz1, hz2, hz3⟩ | ⟨rfl, zs, hz1, hz2⟩)))
  · go_end0
    exact ⟨⟨_, rfl⟩, .inl ⟨zs, hz1, by simpa using hz2⟩⟩
  · go_end0
    exact ⟨⟨_, rfl⟩, .inr ⟨zs, hz1, by simpa using hz2⟩⟩
end Go.Proofs.YtikaamonmaohjaaGreatDoor.Ir
namespace Go.Proofs.YtikaamonmaohjaaGreatDoor.Ir
open Go.RowKit Go.Shelf
set_option maxRecDepth 100000
set_option maxHeartbeats 1000000

/-- what an iterator owes to rounds that are told which elements may come -/
def SeqG {α : Type} (n gf : Nat) (lb : Array Value) (encs : α → Array Value) (n₀ : Nat) (S Sp : List α → Prop) (G : List α → α → Prop) (w0 : World) : Prop :=
  ∀ (l : Nat) (J Jx : List α → World → Prop) (W : World), Below w0.heap.size w0 W → (∀ s A C, J s A → Gr A C → J s C) →
    (∀ pre x A, J pre A → G pre x → YieldAt Fence.wide (n - 1) Tryz.prog l (encs x) A fun e C =>
      (e = .returned (.bool true) ∧ J (pre ++ [x]) C ∧ Kn n₀ A C) ∨ (e = .returned (.bool false) ∧ Jx (pre ++ [x]) C)) →
    J [] W → CallsIn Fence.wide n Tryz.prog gf (#[.func (.yield l) #[] #[]] ++ lb) W fun e C => (∃ v, e = .returned v) ∧ ((∃ xs, S xs ∧ J xs C) ∨ (∃ pre, Sp pre ∧ Jx pre C))
/-- a turn of an object that is no cells -/
theorem kn_turn {n₀ : Nat} {W : World} {l : Nat} {o : Obj} (o' : Obj) (hl : n₀ ≤ l) (ho : W.heap[l]? = some o) (hc : o.isCells = false) : Kn n₀ W (W.putObj l o') := by
  have hg := grownBy_putObj' W l o'
  refine ⟨(Below.refl n₀ W).grown hg ?_ (fun k e => by cases e; exact hl), fun b cs fr hb => ?_⟩
  · have := (Array.getElem?_eq_some_iff.1 ho).1
    omega
  · refine (hg.block b (Array.getElem?_eq_some_iff.1 hb).1 (fun e => ?_)).trans hb
    obtain rfl : b = l := Option.some.inj e
    rw [hb] at ho
    obtain rfl := Option.some.inj ho
    cases hc
theorem wp_range_next {α : Type} {n : Nat} {g : Operand} {ps : Array Tmp} {assign body : Code} {Q : Exit → Act → World → Prop} {a : Act} {w : World} {gf : Nat} {lb : Array Value} (hg : a.eval g = .func (.func gf) #[] lb)
    (eg : ∀ args W, (callFunc gf args).run Tryz.prog W = .ok (.enter gf args) W) {encs : α → Array Value} {n₀ : Nat} {S Sp : List α → Prop} {G : List α → α → Prop} {w0 : World} (hseq : SeqG n gf lb encs n₀ S Sp G w0)
    (hn0 : n₀ ≤ w.heap.size) (hb0 : Below w0.heap.size w0 w) (hps : ∀ x, (encs x).size = ps.size) (I : List α → World → Prop) (Ix : Code → List α → World → Prop)
    (hI : OwnFrom w.heap.size I) (hIx : ∀ c, OwnFrom w.heap.size (Ix c)) (h0 : I [] w) (Ax : α → Act → World → Prop) (hAx : ∀ x b, OwnFrom w.heap.size (fun (_ : Unit) W => Ax x b W))
    (hassign : ∀ (l : Nat) (pre : List α) (x : α) (W : World) (K : Act → World → Prop), I pre W → (∀ b C, KeepsFrom w.heap.size W C → Kn n₀ W C → I pre C → Ax x b C → K b C) →
      assign.wpIn (Fence.wide.inRound l) (n - 1) Tryz.prog (Exit.then K (fun _ _ _ => False)) { tmps := (ps.zip (encs x)).foldl (fun t (q, v) => t.setIfInBounds q v) a.tmps, defers := [] } W)
    (hbody : ∀ (l : Nat) (pre : List α) (x : α) (b : Act) (W : World), w.heap.size ≤ l → I pre W → Ax x b W → G pre x → body.wpIn (Fence.wide.inRound l) (n - 1) Tryz.prog (ownPostG w.heap.size (Kn n₀) I Ix (pre ++ [x]) W) b W)
    (hdone : ∀ (D : Nat) (xs : List α) (W : World), w.heap.size ≤ D → S xs → I xs W → W.heap[D]? = some (.deferred (some [])) → Q .normal { a with defers := { target := .collected D, args := #[] } :: a.defers } W)
    (hstop : ∀ (D : Nat) (c : Code) (pre : List α) (W : World), w.heap.size ≤ D → Sp pre → Ix c pre W → W.heap[D]? = some (.deferred (some [])) → c.wpIn Fence.wide (n + 1) Tryz.prog Q { a with defers := { target := .collected D, args := #[] } :: a.defers } W) :
    (Code.rangeFunc g ps assign body).wpIn Fence.wide (n + 1) Tryz.prog Q a w := by
  refine wpIn_rangeFunc fun fn hfn => ?_
  -- the two objects that the loop lays: the block of deferred calls, the record
  obtain ⟨rc, hrc⟩ : ∃ rc : LoopState → Option Code → Loop, rc = fun s pe => { state := s, pending := pe, fn, tmps := a.tmps, params := ps, assign, body, defers := w.heap.size } := ⟨_, rfl⟩
  obtain ⟨V, hV⟩ : ∃ V, (w.alloc (.deferred (some []))).alloc (.loop (rc .ready none)) = V := ⟨_, rfl⟩
  obtain ⟨L, hL⟩ : ∃ L, w.heap.size + 1 = L := ⟨_, rfl⟩
  have vL : V.heap[L]? = some (.loop (rc .ready none)) := by
    rw [← hV, ← hL]
    have := World.alloc_heap_new (w.alloc (.deferred (some []))) (.loop (rc .ready none))
    rwa [World.size_alloc] at this
  have vD : V.heap[w.heap.size]? = some (.deferred (some [])) := by
    rw [← hV]
    exact (Below.heap_alloc _ _ _ (by simp)).trans (World.alloc_heap_new w _)
  have vI : I [] V := by rw [← hV]; exact hI.alloc _ (hI.alloc _ h0)
  have vb : Below w0.heap.size w0 V := by
    rw [← hV]
    exact hb0.trans ((((Below.refl _ w).alloc (Nat.le_refl _) _).alloc (by simp) _).mono hb0.size)
  have hwL : w.heap.size ≤ L := by omega
  have hne : w.heap.size ≠ L := by omega
  refine ⟨L, [{ target := .collected w.heap.size, args := #[] }], V, { target := .fn (.func gf) lb, args := #[.func (.yield L) #[] #[]] }, V, gf, #[.func (.yield L) #[] #[]] ++ lb, V, ?_, ?_, fun _ _ => trivial, ?_, (fun e => by cases e), ?_⟩
  · rw [← hV, hrc, ← hL]; exact run_enterLoop_outer _ _ _ _ _
  · simp only [resolve, hg]; simp [go_sem]
  · simp [invoke, go_sem, eg]
  -- the iterator, at the loop's invariant and the two objects
  refine (hseq L (fun pre W => I pre W ∧ W.heap[L]? = some (.loop (rc .ready none)) ∧ W.heap[w.heap.size]? = some (.deferred (some [])))
    (fun pre W => ∃ c, Ix c pre W ∧ W.heap[L]? = some (.loop (rc .done (some c))) ∧ W.heap[w.heap.size]? = some (.deferred (some []))) V vb ?later ?round ⟨vI, vL, vD⟩).mono ?behind
  case later =>
    rintro s A C ⟨h1, h2, h3⟩ gr
    exact ⟨hI s A C none h1 ⟨gr.b.os, gr.b.tape, gr.b.output, gr.b.size, fun k hk _ => gr.b.block k hk⟩ (fun r e => by cases e), (gr.b.block L (Array.getElem?_eq_some_iff.1 h2).1).trans h2, (gr.b.block _ (Array.getElem?_eq_some_iff.1 h3).1).trans h3⟩
  case round =>
    rintro pre x A ⟨h1, h2, h3⟩ hG
    have hy := run_yield (P := Tryz.prog) (args := encs x) h2 (by rw [hrc]; exact hps x)
    rw [hrc] at hy
    refine ⟨fn, _, assign, body, hy, roundIn_of_wpIn trivial (hassign L pre x A _ h1 fun b C hk hkn hIC hAC => ?_)⟩
    have c2 := hk.same L _ hwL h2 rfl
    have c3 := hk.same w.heap.size _ (Nat.le_refl _) h3 rfl
    refine ⟨_, run_beginRound c2 (by rw [hrc]), ?_⟩
    obtain ⟨busy, hbusy⟩ : ∃ r : Loop, { rc .ready none with state := .busy } = r := ⟨_, rfl⟩
    rw [hbusy]
    obtain ⟨E, hE⟩ : ∃ E, C.putObj L (.loop busy) = E := ⟨_, rfl⟩
    have e2 : E.heap[L]? = some (.loop busy) := by rw [← hE]; exact World.putObj_heap_same (Array.getElem?_eq_some_iff.1 c2).1
    have e3 : E.heap[w.heap.size]? = some (.deferred (some [])) := by rw [← hE]; exact (World.putObj_heap_other hne).trans c3
    have eI : I pre E := by rw [← hE]; exact hI.putObj _ hIC hwL c2 rfl
    have eA : Ax x b E := by rw [← hE]; exact (hAx x b).putObj (s := ()) _ hAC hwL c2 rfl
    have eK : Kn n₀ A E := by rw [← hE]; exact hkn.trans (kn_turn _ (by omega) c2 rfl)
    rw [hE]
    refine wpIn_mono (hbody L pre x b E hwL eI eA hG) ?_
    have close : ∀ (jump : Option Code) (Z : World), KeepsFrom w.heap.size E Z → (Instr.endRound L jump).run Tryz.prog Z = .ok (.bool jump.isNone) (Z.putObj L (.loop (rc (if jump.isNone then .ready else .done) jump))) ∧ Z.heap[L]? = some (.loop busy) ∧
        (Z.putObj L (.loop (rc (if jump.isNone then .ready else .done) jump))).heap[L]? = some (.loop (rc (if jump.isNone then .ready else .done) jump)) ∧ (Z.putObj L (.loop (rc (if jump.isNone then .ready else .done) jump))).heap[w.heap.size]? = some (.deferred (some [])) := fun jump Z hz => by
      have z2 := hz.same L _ hwL e2 rfl
      have z3 := hz.same w.heap.size _ (Nat.le_refl _) e3 rfl
      have hr := run_endRound (P := Tryz.prog) jump z2
      rw [← hbusy, hrc] at hr
      refine ⟨by rw [hrc]; exact hr, z2, World.putObj_heap_same (Array.getElem?_eq_some_iff.1 z2).1, (World.putObj_heap_other hne).trans z3⟩
    rintro ex b' Z hp
    cases ex with
    | normal =>
      obtain ⟨k1, k2, k3⟩ := hp
      obtain ⟨r1, r2, r3, r4⟩ := close none Z k1
      exact ⟨_, _, r1, .inl ⟨rfl, ⟨hI.putObj _ k3 hwL r2 rfl, r3, r4⟩, (eK.trans k2).trans (kn_turn _ (by omega) r2 rfl)⟩⟩
    | ret =>
      obtain ⟨k1, k3⟩ := hp
      obtain ⟨r1, r2, r3, r4⟩ := close (some .ret) Z k1
      exact ⟨_, _, r1, .inr ⟨rfl, .ret, (hIx _).putObj _ k3 hwL r2 rfl, r3, r4⟩⟩
    | exit id =>
      obtain ⟨k1, k3⟩ := hp
      obtain ⟨r1, r2, r3, r4⟩ := close (some (.exit id)) Z k1
      exact ⟨_, _, r1, .inr ⟨rfl, .exit id, (hIx _).putObj _ k3 hwL r2 rfl, r3, r4⟩⟩
    | goto t =>
      obtain ⟨k1, k3⟩ := hp
      obtain ⟨r1, r2, r3, r4⟩ := close (some (.goto t)) Z k1
      exact ⟨_, _, r1, .inr ⟨rfl, .goto t, (hIx _).putObj _ k3 hwL r2 rfl, r3, r4⟩⟩
    | panic c => exact hp.elim
    | outgrown => exact hp.elim
  case behind =>
    rintro e C ⟨⟨v, rfl⟩, h⟩
    rcases h with ⟨xs, h1, h2, h3, h4⟩ | ⟨pre, h1, c, h2, h3, h4⟩
    · have hr := run_endLoop (P := Tryz.prog) h3 (by rw [hrc]; simp)
      rw [hrc] at hr
      exact ⟨none, _, hr, hdone _ xs _ (Nat.le_refl _) h1 (hI.putObj _ h2 hwL h3 rfl) ((World.putObj_heap_other hne).trans h4)⟩
    · have hr := run_endLoop (P := Tryz.prog) h3 (by rw [hrc]; simp)
      rw [hrc] at hr
      exact ⟨some c, _, hr, hstop _ c pre _ (Nat.le_refl _) h1 ((hIx c).putObj _ h2 hwL h3 rfl) ((World.putObj_heap_other hne).trans h4)⟩
end Go.Proofs.YtikaamonmaohjaaGreatDoor.Ir
