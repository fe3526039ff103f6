/- add at parts one behind the other. -/
import Derived.Test.YtnlfndhgdeapeaaMid
import Derived.Test.YtnlfndhgdeapeaaPSpec
namespace Go.Proofs.Ytnlfndhgdeapeaa
open Go.RowKit
set_option maxRecDepth 100000
set_option maxHeartbeats 4000000
attribute [local go_sem] Oper.semAt_some

/-- the states when some parts have been added -/
def turnF (l : List Nd) (b : Nat) (S : List St) (pre : List (Fin l.length)) : List St × Nat := pre.foldl (fun s i => addS l[i.val] s.2 s.1) (S, b)
theorem turnF_snoc (l : List Nd) (b : Nat) (S : List St) (pre : List (Fin l.length)) (x : Fin l.length) : turnF l b S (pre ++ [x]) = addS l[x.val] (turnF l b S pre).2 (turnF l b S pre).1 := by
  unfold turnF
  rw [List.foldl_append]
  rfl
theorem turnF_all (l : List Nd) (b : Nat) (S : List St) : turnF l b S (revs l.length) = addTurn l b S := by
  rw [addTurn_foldr]
  exact revs_fold l (fun s n => addS n s.2 s.1) (S, b)
theorem turnF_len (l : List Nd) (hw : WfL l) (b : Nat) (S : List St) : ∀ pre, (turnF l b S pre).1.length ≤ S.length + pre.length * (wts l) := by
  intro pre
  have key : ∀ (r : List (Fin l.length)), (turnF l b S r.reverse).1.length ≤ S.length + r.length * (wts l) := fun r => by
    induction r with
    | nil => simp [turnF]
    | cons x r ih =>
      rw [List.reverse_cons, turnF_snoc]
      have h1 := (addS_len l[x.val] (turnF l b S r.reverse).2 (turnF l b S r.reverse).1).2 (hw.mem _ (List.getElem_mem _))
      have h2 := wts_mem (List.getElem_mem x.isLt : l[x.val] ∈ l)
      rw [List.length_cons, Nat.succ_mul]
      omega
  have := key pre.reverse
  simpa using this
/-- a pattern's parts in memory -/
theorem NodeV.parts {W : World} {X : Nat → Prop} {k : Nat} {l : List Nd} {nv : Value} (h : NodeV W X (.op k l) nv) : ∃ (A : Option Addr) (pb c : Nat) (val : Nat → Fin 6 → Value), nv = .agg #[.int .i64 k, .int .u64 0, .int .u64 0, .int .u64 0, .int .u64 0, .slice A l.length c] ∧ l.length ≤ c ∧ c ≤ maxLen ∧ PartsAt W A pb l.length val ∧ (0 < l.length → X pb) ∧ ∀ (i : Nat) (hi : i < l.length), NodeV W X l[i] (aggOf (val i)) := by
  unfold NodeV at h
  obtain ⟨A, c, e, h1, h2, h3⟩ := h
  by_cases h0 : 0 < l.length
  · obtain ⟨pb, rfl, hX, hn⟩ := h3 h0
    have key : ∀ i : Nat, ∃ v : Fin 6 → Value, ∀ hi : i < l.length, sixAt W pb i v ∧ NodeV W X l[i] (aggOf v) := fun i => by
      by_cases hi : i < l.length
      · obtain ⟨v, a, b⟩ := NodesFrom.get l 0 i l[i] hn (List.getElem?_eq_getElem hi)
        exact ⟨v, fun _ => ⟨by rwa [Nat.zero_add] at a, b⟩⟩
      · exact ⟨fun _ => undef, fun h => absurd h hi⟩
    obtain ⟨val, hval⟩ := Classical.axiomOfChoice key
    exact ⟨_, pb, c, val, e, h1, h2, fun _ => ⟨rfl, fun j hj => (hval j hj).1⟩, fun _ => hX, fun i hi => (hval i hi).2⟩
  · exact ⟨A, 0, c, fun _ _ => undef, e, h1, h2, fun h => absurd h h0, fun h => absurd h h0, fun i hi => by omega⟩
/-- between two rounds: what the builder, the variable N hold -/
def TurnI (B g N : Nat) (w0 : World) (v : Value) (r : List St × Nat) (W : World) : Prop := ∃ v', Bld B g W r.1 v' ∧ BMid g N w0 v W v' ∧ W.heap[N]? = some (.cells #[.int .i64 r.2] 3 (0, 0))
theorem turnI_own {β : Type} (B g N : Nat) (w0 : World) (v : Value) (f : β → List St × Nat) : OwnFrom w0.heap.size (fun s W => TurnI B g N w0 v (f s) W) := fun s X Y row hs hg hr => by
  obtain ⟨v', h1, h2, h3⟩ := hs
  exact ⟨v', h1.turn hg (fun r e => (hr r e).2), h2.turn hg (fun r e => (hr r e).1), cells_turn hg (fun r e => (hr r e).2) h3⟩
end Go.Proofs.Ytnlfndhgdeapeaa
/- add at parts one behind the other: the walk. -/
namespace Go.Proofs.Ytnlfndhgdeapeaa
open Go.RowKit
set_option maxRecDepth 100000
set_option maxHeartbeats 4000000
attribute [local go_sem] Oper.semAt_some

theorem room_turn {l : List Nd} {S p : Nat} (h : S + ((l.length + 1) * (wts l + 1) + 1 + bdm l) ≤ 1000000000000) (hp : p < l.length) : S + p * wts l + bdm l ≤ 1000000000000 := by
  have : p * wts l ≤ (l.length + 1) * (wts l + 1) := Nat.mul_le_mul (by omega) (by omega)
  omega
theorem four_new (w : World) (c1 c2 c3 c4 : Array Value) (t1 t2 t3 t4 : TypeId) : ((((w.alloc (.cells c1 t1)).alloc (.cells c2 t2)).alloc (.cells c3 t3)).alloc (.cells c4 t4)).heap[w.heap.size]? = some (.cells c1 t1 (0, 0)) ∧ ((((w.alloc (.cells c1 t1)).alloc (.cells c2 t2)).alloc (.cells c3 t3)).alloc (.cells c4 t4)).heap[w.heap.size + 1]? = some (.cells c2 t2 (0, 0)) ∧ ((((w.alloc (.cells c1 t1)).alloc (.cells c2 t2)).alloc (.cells c3 t3)).alloc (.cells c4 t4)).heap[w.heap.size + 2]? = some (.cells c3 t3 (0, 0)) ∧ ((((w.alloc (.cells c1 t1)).alloc (.cells c2 t2)).alloc (.cells c3 t3)).alloc (.cells c4 t4)).heap[w.heap.size + 3]? = some (.cells c4 t4 (0, 0)) := by
  obtain ⟨h1, h2, h3⟩ := three_new w c1 c2 c3 t1 t2 t3
  have h4 := heap_alloc_new (((w.alloc (.cells c1 t1)).alloc (.cells c2 t2)).alloc (.cells c3 t3)) (.cells c4 t4)
  have hs : (((w.alloc (.cells c1 t1)).alloc (.cells c2 t2)).alloc (.cells c3 t3)).heap.size = w.heap.size + 3 := by simp
  rw [hs] at h4
  have g := ((Gr.refl (((w.alloc (.cells c1 t1)).alloc (.cells c2 t2)).alloc (.cells c3 t3))).alloc c4 t4).b.block
  rw [hs] at g
  exact ⟨(g _ (by omega)).trans h1, (g _ (by omega)).trans h2, (g _ (by omega)).trans h3, h4⟩
theorem six_form {W : World} {X : Nat → Prop} {n : Nd} {y : Fin 6 → Value} (h : NodeV W X n (aggOf y)) : ∃ (k u0 u1 u2 u3 m c : Nat) (A : Option Addr), y 0 = .int .i64 k ∧ y 1 = .int .u64 u0 ∧ y 2 = .int .u64 u1 ∧ y 3 = .int .u64 u2 ∧ y 4 = .int .u64 u3 ∧ y 5 = .slice A m c := by
  obtain ⟨k, u0, u1, u2, u3, m, c, A, e⟩ := node_form h
  unfold aggOf at e
  simp only [Value.agg.injEq, Array.mk.injEq, List.cons.injEq, and_true] at e
  exact ⟨k, u0, u1, u2, u3, m, c, A, e⟩
theorem add_turn (l : List Nd) (ih : ∀ n ∈ l, AddC n) : AddC (.op 1 l) := by
  intro B g b X S nv v w h hB hX hn hw hbd
  obtain ⟨A, pb, c, val, rfl, hc1, hc2, hP, hXp, hns⟩ := hn.parts
  unfold Wf at hw
  unfold bd at hbd
  have hw := hw.1
  have hgl := h.lt
  have hbg := h.b
  have hrl := h.r.lt
  have CA := Lib.hid (fun (x : Fin l.length) W (hb : Below B w W) (b' : Nat) (S' : List St) u (h : Bld B g W S' u) (hl : S'.length + bd l[x.val] ≤ 1000000000000) => ih l[x.val] (List.getElem_mem _) B g b' X S' (aggOf (val x.val)) u W h (Nat.le_trans hB hb.size) hX (NodeV.same (fun c hc _ => hb.block c (hX c hc)) _ _ (hns x.val x.isLt)) (hw.mem _ (List.getElem_mem _)) hl)
  have HB := Lib.hid h
  have HNS := Lib.hid hns
  have HP := Lib.hid hP
  have HL := Lib.hid (fun (pre : List (Fin l.length)) (x : Fin l.length) (hp : pre.length < l.length) => show (turnF l b S pre).1.length + bd l[x.val] ≤ 1000000000000 by
    have h1 := turnF_len l hw b S pre
    have h2 := room_turn hbd hp
    have h3 := bdm_mem (List.getElem_mem x.isLt : l[x.val] ∈ l)
    omega)
  have e1 : addS (.op 1 l) b S = addTurn l b S := by
    conv => lhs; unfold addS
    rfl
  have hml : l.length ≤ 1000000000000 := by
    have : (l.length + 1) * 1 ≤ (l.length + 1) * (wts l + 1) := Nat.mul_le_mul (Nat.le_refl _) (by omega)
    omega
  rw [e1, ← turnF_all]
  have h0 : turnF l b S [] = (S, b) := rfl
  have H0 := Lib.hid h0
  clear h0 e1 hn hns hw hbd hP ih h
  refine (callsIn_wide (n := 9)).1 ?_
  refine callsIn_of_wp_marks Try.func43 rfl trivial ?_ rfl
  simp only [Try.ntmps43, List.size_toArray, List.length_cons, List.length_nil, Nat.reduceAdd, Nat.reduceSub, Array.replicate_succ, Array.replicate_zero, List.push_toArray, List.append_toArray, List.nil_append, List.cons_append]
  gi_wp2_with (refine ⟨trivial, ?_⟩; gi_at_call 55; refine (backward_in Fence.wide _ trivial rfl _ _ _ _).mono ?_; rintro e w' ⟨rfl, rfl⟩)
  have hn4 := four_new w #[.pointer (some ⟨g, 0, none⟩)] #[.int .i64 1, .int .u64 0, .int .u64 0, .int .u64 0, .int .u64 0, .slice A l.length c] #[.int .i64 b] #[.slice A l.length c] 108 57 3 55
  have k0 : Gr w ((((w.alloc (.cells #[.pointer (some ⟨g, 0, none⟩)] 108)).alloc (.cells #[.int .i64 1, .int .u64 0, .int .u64 0, .int .u64 0, .int .u64 0, .slice A l.length c] 57)).alloc (.cells #[.int .i64 b] 3)).alloc (.cells #[.slice A l.length c] 55)) := (Gr3 w _ _ _ _ _ _).alloc _ _
  have hsz : ((((w.alloc (.cells #[.pointer (some ⟨g, 0, none⟩)] 108)).alloc (.cells #[.int .i64 1, .int .u64 0, .int .u64 0, .int .u64 0, .int .u64 0, .slice A l.length c] 57)).alloc (.cells #[.int .i64 b] 3)).alloc (.cells #[.slice A l.length c] 55)).heap.size = w.heap.size + 4 := by simp
  obtain ⟨W0, hW0⟩ : ∃ W0, (((w.alloc (.cells #[.pointer (some ⟨g, 0, none⟩)] 108)).alloc (.cells #[.int .i64 1, .int .u64 0, .int .u64 0, .int .u64 0, .int .u64 0, .slice A l.length c] 57)).alloc (.cells #[.int .i64 b] 3)).alloc (.cells #[.slice A l.length c] 55) = W0 := ⟨_, rfl⟩
  rw [hW0] at hn4 k0 hsz ⊢
  clear hW0
  obtain ⟨n0, n1, n2, n3⟩ := hn4
  have hpb : 0 < l.length → pb < w.heap.size ∧ pb < B := fun h0 => by have := hX pb (hXp h0); omega
  have hP0 : PartsAt W0 A pb l.length val := fun h0 => by
    obtain ⟨e, hs⟩ := HP.out h0
    exact ⟨e, fun j hj i => k0.cell (hs j hj i)⟩
  have hpb2 : ∃ pb', PartsAt W0 A pb' l.length val ∧ pb' < W0.heap.size ∧ (0 < l.length → pb' < B) := by
    by_cases h0 : 0 < l.length
    · exact ⟨pb, hP0, by have := hpb h0; omega, fun _ => (hpb h0).2⟩
    · exact ⟨0, fun h => absurd h h0, by omega, fun h => absurd h h0⟩
  obtain ⟨pq, hPq, hpq, hpqB⟩ := hpb2
  have hv0 : ∀ k, w.heap.size ≤ k → v.ownBlock ≠ some k := fun k hk e => by have := hrl _ e; omega
  refine wpIn_rangeFunc_ownH rfl (by omega) (gf := 64) (lb := #[.pointer (some ⟨w.heap.size + 1 + 1 + 1, 0, none⟩)]) rfl trivial (enters_of Try.func64 (by kernel_rfl) rfl)
    (backward_stops Fence.wide _ trivial rfl (by omega) (w.heap.size + 1 + 1 + 1) pq l.length c A val hml W0 (by omega) (cell_of_row W0 _ 0 _ _ (0, 0) n3) hPq) two_t (two_b (by omega) hpq) (Below.refl _ _) (fun _ => rfl)
    (fun pre W => TurnI B g (w.heap.size + 1 + 1) W0 v (turnF l b S pre) W)
    (fun _ _ _ => False)
    (turnI_own B g (w.heap.size + 1 + 1) W0 v (turnF l b S))
    (fun _ _ _ _ _ hs _ _ => hs)
    ⟨v, by rw [H0.out]; exact HB.out.gr k0, BMid.refl _ _ _ _, by rw [H0.out]; exact n2⟩
    (fun x a' W => ∃ Bx, W0.heap.size ≤ Bx ∧ W.heap[Bx]? = some (.cells #[val x.val 0, val x.val 1, val x.val 2, val x.val 3, val x.val 4, val x.val 5] 57 (0, 0)) ∧ a' = { tmps := #[.pointer (some ⟨g, 0, none⟩), .agg #[.int .i64 1, .int .u64 0, .int .u64 0, .int .u64 0, .int .u64 0, .slice A l.length c], .int .i64 b, .pointer (some ⟨w.heap.size, 0, none⟩), .pointer (some ⟨w.heap.size + 1, 0, none⟩), .pointer (some ⟨w.heap.size + 1 + 1, 0, none⟩), .int .i64 0, undef, .pointer (some ⟨Bx, 0, none⟩), .pointer (some ⟨w.heap.size + 1, 0, none⟩), .int .i64 1, .bool false, .bool false, undef, undef, undef, undef, undef, undef, .bool true, .bool true, .pointer (some ⟨w.heap.size + 1, 5, none⟩), .slice A l.length c, .func (.func 64) #[] #[.pointer (some ⟨w.heap.size + 1 + 1 + 1, 0, none⟩)], .int .i64 (x.val : Int), aggOf (val x.val), undef, undef, undef, undef, undef, undef, undef, undef, undef, undef, undef, undef, undef, undef, undef, undef, undef, undef, undef, undef, undef, undef, undef, undef, undef, undef, undef, undef, undef], defers := [] })
    (fun x a' _ X Y row hs hg hr => by obtain ⟨Bx, h1, h2, h3⟩ := hs; exact ⟨Bx, h1, cells_turn hg (fun r e => (hr r e).2) h2, h3⟩)
    ?assign ?body ?done ?stop
  case assign =>
    rintro l1 pre x W K hI hK
    obtain ⟨k, u0, u1, u2, u3, m, cc, A2, y0, y1, y2, y3, y4, y5⟩ := six_form (HNS.out x.val x.isLt)
    unfold aggOf at hK ⊢
    simp only [y0, y1, y2, y3, y4, y5] at hK ⊢
    obtain ⟨v', hbld, hmid, hN⟩ := hI
    have hWs := hmid.size
    have ga : Gr W (W.alloc (.cells #[.int .i64 k, .int .u64 u0, .int .u64 u1, .int .u64 u2, .int .u64 u3, .slice A2 m cc] 57)) := (Gr.refl W).alloc _ _
    gi_wp2
    exact hK _ _ ((KeepsOthers.alloc _ _).from _) ⟨ga.b.block _ (by omega), ga.b.block _ (by omega)⟩ ⟨v', hbld.gr ga, hmid.gr ga, (ga.b.block _ (by omega)).trans hN⟩ ⟨W.heap.size, hWs, heap_alloc_new W _, rfl⟩
  case body =>
    rintro l1 pre x a' W hl1 - ⟨v', hbld, hmid, hN⟩ ⟨Bx, hBx, bX, rfl⟩ hlt
    have hbelow : Below B w W := (k0.b.mono hB).trans (hmid.below hbg (by omega) (fun k e => (hrl k e).1) (by omega))
    have hlb := HL.out pre x hlt
    have m0 := hmid.blk (c := w.heap.size) (by omega) (by omega) (by omega) (hv0 _ (by omega)) n0
    have hWs := hmid.size
    have hvN := hmid.other (c := w.heap.size + 1 + 1) (by omega) (hv0 _ (by omega))
    have hvB := hmid.other (c := w.heap.size + 1 + 1 + 1) (by omega) (hv0 _ (by omega))
    have hpql : pq < B := hpqB (by have := x.isLt; omega)
    have C1 := Lib.hid (CA.out x W hbelow (turnF l b S pre).2 (turnF l b S pre).1 v' hbld hlb)
    have HBL := Lib.hid hbld
    have HM := Lib.hid hmid
    have hvq : v'.ownBlock ≠ some pq := fun e => by have := (hbld.r.lt _ e).1; omega
    have hstep := turnF_snoc l b S pre x
    obtain ⟨r, hr⟩ : ∃ r, turnF l b S pre = r := ⟨_, rfl⟩
    rw [hr] at C1 HBL hN hstep
    have HST := Lib.hid hstep
    clear hstep hbld hmid hlb hr hbelow
    unfold aggOf at C1 ⊢
    have c0 := cell_of_row W _ 0 _ _ (0, 0) m0
    have c2 := cell_of_row W _ 0 _ _ (0, 0) hN
    have x0 := cell_of_row W _ 0 _ _ (0, 0) bX
    have x1 := cell_of_row W _ 1 _ _ (0, 0) bX
    have x2 := cell_of_row W _ 2 _ _ (0, 0) bX
    have x3 := cell_of_row W _ 3 _ _ (0, 0) bX
    have x4 := cell_of_row W _ 4 _ _ (0, 0) bX
    have x5 := cell_of_row W _ 5 _ _ (0, 0) bX
    have hNs : w.heap.size + 1 + 1 < W.heap.size := by omega
    have hzB : ∀ k, w.heap.size + 1 + 1 = k → k < W.heap.size := fun k e => by omega
    gi_wp2_with fail
    refine ⟨trivial, CallsIn.mono (CallsIn.inRound l1 (callsIn_wide.2 C1.out)) ?_⟩
    rintro e w1 ⟨rfl, v1, hb1, hs1⟩
    have hN1 := (hs1.block (w.heap.size + 1 + 1) hNs (by omega) hvN).trans hN
    have d2 := cell_of_row w1 _ 0 _ _ (0, 0) hN1
    have f2 := frozen_of_row w1 _ 0 _ _ hN1
    have HF := Lib.hid (show KeepsFrom W0.heap.size W (w1.setCell ⟨w.heap.size + 1 + 1, 0, none⟩ (.int .i64 (addS l[x.val] r.2 r.1).2)) from (hs1.keepsFrom HBL.out _).trans ((KeepsOthers.setCell _ _ _).from _))
    have HT := Lib.hid (show Two (w.heap.size + 1 + 1 + 1) pq W (w1.setCell ⟨w.heap.size + 1 + 1, 0, none⟩ (.int .i64 (addS l[x.val] r.2 r.1).2)) from ⟨(Below.heap_setCell w1 _ _ _ (by show w.heap.size + 1 + 1 + 1 ≠ w.heap.size + 1 + 1; omega)).trans (hs1.block _ (by omega) (by omega) hvB), (Below.heap_setCell w1 _ _ _ (by show pq ≠ w.heap.size + 1 + 1; omega)).trans (hs1.block _ (by omega) (by omega) hvq)⟩)
    have HI := Lib.hid (show TurnI B g (w.heap.size + 1 + 1) W0 v (turnF l b S (pre ++ [x])) (w1.setCell ⟨w.heap.size + 1 + 1, 0, none⟩ (.int .i64 (addS l[x.val] r.2 r.1).2)) by
      rw [HST.out]
      refine ⟨v1, hb1.setFar _ (by omega) (hs1.other hNs hvN), (HM.out.step hs1).set _, ?_⟩
      have := heap_setCell_same w1 (w.heap.size + 1 + 1) 0 _ _ (.int .i64 (addS l[x.val] r.2 r.1).2) hN1
      simpa using this)
    clear hb1 hs1 hN1 HST C1 HBL HM
    gi_wp2_with fail
    exact ⟨HF.out, HT.out, HI.out⟩
  case done =>
    rintro D ys W hD rfl ⟨v', hbld, hmid, hN⟩ hK
    have c2 := cell_of_row W _ 0 _ _ (0, 0) hN
    gi_wp2
    refine ⟨by simp, .inl ⟨_, _, rfl, run_takeDeferred hK, ?_⟩⟩
    have hk : W.grownBy (W.putObj D (.deferred none)) (some D) := grownBy_putObj' W D _
    have hkr : ∀ r, some D = some r → ∃ o : Obj, W.heap[r]? = some o ∧ o.isCells = false := fun r e => by cases e; exact ⟨_, hK, rfl⟩
    exact ⟨_, results_tmp rfl _ _ _, rfl, v', hbld.turn hk hkr, (hmid.turn hk (fun r e => by cases e; exact hD)).bstep k0 (by omega)⟩
  case stop =>
    rintro D c pre W _ _ h _
    exact h.elim
end Go.Proofs.Ytnlfndhgdeapeaa
