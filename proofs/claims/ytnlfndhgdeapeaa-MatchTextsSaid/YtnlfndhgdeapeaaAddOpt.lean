/- add at one byte; at one or none. -/
import Derived.Test.YtnlfndhgdeapeaaBytes
import Derived.Test.YtnlfndhgdeapeaaSt
import Derived.Test.YtnlfndhgdeapeaaAddS
namespace Go.Proofs.Ytnlfndhgdeapeaa
open Go.RowKit
set_option maxRecDepth 100000
set_option maxHeartbeats 2000000

def intC (l : List Nat) : List Value := l.map fun x => .int .i64 (x : Nat)
def RowI (W : World) (B : Nat) (v : Value) (l : List Nat) : Prop := W.ownsRow B 3 1 v l.length (intC l)
theorem intC_app (l m : List Nat) : intC (l ++ m) = intC l ++ intC m := by simp [intC]
theorem intC_one (l : List Nat) : ∀ u ∈ intC l, u.oneCell' = true := by
  intro u hu
  simp only [intC, List.mem_map] at hu
  obtain ⟨x, -, rfl⟩ := hu
  rfl
theorem int_info : (Try.prog.info? 3).map (fun i => (i.zero, i.size, i.bytes)) = some (some (.int .i64 0), 1, 8) := by kernel_rfl
theorem RowI.nil (W : World) (B : Nat) : RowI W B (.slice none 0 0) [] := World.ownsRow_nil _ _ _ _
theorem RowI.form {W : World} {B : Nat} {v : Value} {l : List Nat} (h : RowI W B v l) : ∃ (A : Option Addr) (c : Nat), v = .slice A l.length c := by
  rcases h.2 with ⟨e, e2⟩ | ⟨g, cap, cur, e, -⟩
  · exact ⟨none, 0, by rw [e, e2]⟩
  · exact ⟨_, _, e⟩
theorem RowI.lt {W : World} {B : Nat} {v : Value} {l : List Nat} (h : RowI W B v l) : ∀ k, v.ownBlock = some k → B ≤ k ∧ k < W.heap.size := World.ownsRow.lt h
theorem RowI.keep {W W' : World} {B : Nat} {v : Value} {l : List Nat} (h : RowI W B v l) (g : ∀ c, v.ownBlock = some c → W'.heap[c]? = W.heap[c]?) : RowI W' B v l := by
  refine ⟨h.1, ?_⟩
  rcases h.2 with e | ⟨gg, cap, cur, e1, e2, e3, e4⟩
  · exact .inl e
  · exact .inr ⟨gg, cap, cur, e1, e2, by rw [g gg (by rw [e1]; rfl)]; exact e3, e4⟩
/-- the first n of a row, in the same block -/
theorem RowI.take {W : World} {B : Nat} {A : Option Addr} {m c : Nat} {l : List Nat} (h : RowI W B (.slice A m c) l) (n : Nat) (hn : n ≤ l.length) (h0 : 0 < l.length) : RowI W B (.slice A n c) (l.take n) := by
  rcases h.2 with ⟨e, e2⟩ | ⟨g, cap, cur, e, e2, e3, e4, e5, e6, e7⟩
  · omega
  · obtain ⟨rfl, rfl, rfl⟩ : A = some ⟨g, 0, none⟩ ∧ m = l.length ∧ c = cap := by simpa using e
    refine ⟨by simp [intC], .inr ⟨g, c, cur, by rw [List.length_take, Nat.min_eq_left hn], e2, e3, by rw [List.length_take]; omega, e5, e6, ?_⟩⟩
    have : intC (l.take n) = (intC l).take n := by simp [intC, List.map_take]
    rw [this, ← e7, List.take_take, List.length_take]
    congr 1
    omega
/-- none, in the same block -/
theorem RowI.none {W : World} {B : Nat} {A : Option Addr} {m c : Nat} {l : List Nat} (h : RowI W B (.slice A m c) l) : RowI W B (.slice A 0 c) [] := by
  rcases h.2 with ⟨e, e2⟩ | ⟨g, cap, cur, e, e2, e3, e4, e5, e6, e7⟩
  · obtain ⟨rfl, rfl, rfl⟩ : A = Option.none ∧ m = 0 ∧ c = 0 := by simpa using e
    exact RowI.nil W B
  · obtain ⟨rfl, rfl, rfl⟩ : A = some ⟨g, 0, Option.none⟩ ∧ m = l.length ∧ c = cap := by simpa using e
    exact ⟨rfl, .inr ⟨g, c, cur, rfl, e2, e3, Nat.zero_le _, e5, e6, rfl⟩⟩
theorem RowI.cells {W : World} {B : Nat} {A : Option Addr} {m c : Nat} {l : List Nat} (h : RowI W B (.slice A m c) l) {i : Nat} (hi : i < l.length) : ∃ g, A = some ⟨g, 0, Option.none⟩ ∧ W.cell? ⟨g, i, Option.none⟩ = some (.int .i64 l[i]) := by
  rcases h.2 with ⟨e, e2⟩ | ⟨g, cap, cur, e, e2, e3, e4, e5, e6, e7⟩
  · omega
  · obtain ⟨rfl, rfl, rfl⟩ : A = some ⟨g, 0, Option.none⟩ ∧ m = l.length ∧ c = cap := by simpa using e
    refine ⟨g, rfl, (cell_of_row W g i cur _ (0, 0) e3).trans ?_⟩
    have h1 : (intC l)[i]? = some (.int .i64 l[i]) := by simp [intC, hi]
    rw [← e7, List.getElem?_take_of_lt (by omega)] at h1
    simpa using h1
theorem run_appI {W : World} {B : Nat} {v : Value} {l : List Nat} {g c x : Nat} (h : RowI W B v l) (hx : W.cell? ⟨g, 0, none⟩ = some (.int .i64 x)) (hl : l.length ≤ 1000000000000) (hB : B ≤ W.heap.size) :
    ∃ v' W', (Builtin.append_ #[73, 73] 73 #[v, .slice (some ⟨g, 0, none⟩) 1 c]).run Try.prog W = .ok v' W' ∧ RowI W' B v' (l ++ [x]) ∧ W.grownBy W' v.ownBlock ∧ (v'.ownBlock = v.ownBlock ∨ v'.ownBlock = some W.heap.size) := by
  obtain ⟨i0, hi, hz0, hz1, hz2⟩ := info_parts int_info
  have hadd : ∀ j, (⟨g, 0, none⟩ : Addr).add j = ⟨g, j, none⟩ := fun j => by unfold Addr.add; split <;> simp_all
  obtain ⟨v', w', hr, h2, h3, _, h5⟩ := run_append_own_at (P := Try.prog) W B 73 73 3 i0 (.int .i64 0) 1 8 Try.underlying73 hi hz0 hz1 hz2 rfl (by omega) v l.length _ h ⟨g, 0, none⟩ 1 c (intC [x]) (by simp [intC]) (fun j u hu => by
    rw [hadd]
    have hj : j < 1 := by have := (List.getElem?_eq_some_iff.1 hu).1; simpa [intC] using this
    obtain rfl : j = 0 := by omega
    have : u = .int .i64 x := by simpa [intC] using hu.symm
    rw [this]; exact hx) (intC_one _) (by unfold maxLen; omega) (by omega) hB
  refine ⟨v', w', hr, ?_, h3, h5⟩
  unfold RowI
  rw [intC_app, List.length_append]
  exact h2
section
variable {P : Program} {o : Oper} {a : Act} {W : World} {K : Act → World → Prop} {Q : Exit → Act → World → Prop}
theorem wp_appI (hP : P = Try.prog) (s x : Operand)
    (ho : o.op = .call { callee := .builtin .append, args := #[s, x], argTypes := #[73, 73] }) (hty : o.type = 73)
    {B : Nat} {l : List Nat} {g c y : Nat} (hs : RowI W B (a.eval s) l) (ex : a.eval x = .slice (some ⟨g, 0, none⟩) 1 c) (hx : W.cell? ⟨g, 0, none⟩ = some (.int .i64 y)) (hn : l.length ≤ 1000000000000) (hB : B ≤ W.heap.size)
    (h : ∀ v' W', RowI W' B v' (l ++ [y]) → W.grownBy W' (a.eval s).ownBlock → (v'.ownBlock = (a.eval s).ownBlock ∨ v'.ownBlock = some W.heap.size) → K (a.put o.dst v') W') : o.wp P a W K Q := by
  subst hP
  obtain ⟨v', W', hr, h1, h2, h3⟩ := run_appI (c := c) hs hx hn hB
  unfold Oper.wp execOp
  simp only [ho, hty, resolve, invoke, builtin, Sem.run_bind, Sem.run_pure, Result.andThen_ok, List.map_toArray, List.map_cons, List.map_nil, ex, hr]
  exact h v' W' h1 h2 h3
theorem wpList_appI (hP : P = Try.prog) {ops : Array Oper} {rest : List Oper} (hgd : o.guard = none) (s x : Operand)
    (ho : o.op = .call { callee := .builtin .append, args := #[s, x], argTypes := #[73, 73] }) (hty : o.type = 73)
    {B : Nat} {l : List Nat} {g c y : Nat} (hs : RowI W B (a.eval s) l) (ex : a.eval x = .slice (some ⟨g, 0, none⟩) 1 c) (hx : W.cell? ⟨g, 0, none⟩ = some (.int .i64 y)) (hn : l.length ≤ 1000000000000) (hB : B ≤ W.heap.size)
    (h : ∀ v' W', RowI W' B v' (l ++ [y]) → W.grownBy W' (a.eval s).ownBlock → (v'.ownBlock = (a.eval s).ownBlock ∨ v'.ownBlock = some W.heap.size) → wpList P ops Q rest (a.put o.dst v') W') : wpList P ops Q (o :: rest) a W :=
  wpList_plain hgd fun _ hK => wp_appI hP s x ho hty hs ex hx hn hB fun v' W' h1 h2 h3 => hK _ _ (h v' W' h1 h2 h3)
theorem step_appI (hP : P = Try.prog) {ops : Array Oper} {E : Prop} (hgd : o.guard = none) (s x : Operand)
    (ho : o.op = .call { callee := .builtin .append, args := #[s, x], argTypes := #[73, 73] }) (hty : o.type = 73)
    {B : Nat} {l : List Nat} {g c y : Nat} (hs : RowI W B (a.eval s) l) (ex : a.eval x = .slice (some ⟨g, 0, none⟩) 1 c) (hx : W.cell? ⟨g, 0, none⟩ = some (.int .i64 y)) (hn : l.length ≤ 1000000000000) (hB : B ≤ W.heap.size)
    (h : ∀ v' W', RowI W' B v' (l ++ [y]) → W.grownBy W' (a.eval s).ownBlock → (v'.ownBlock = (a.eval s).ownBlock ∨ v'.ownBlock = some W.heap.size) → K (a.put o.dst v') W') : if Region.wanted o (yielded ops a.tmps) = true then Oper.wp P o a W K Q else E := by
  have hw : Region.wanted o (yielded ops a.tmps) = true := by simp [Region.wanted, hgd]
  rw [if_pos hw]
  exact wp_appI hP s x ho hty hs ex hx hn hB h
end
end Go.Proofs.Ytnlfndhgdeapeaa
namespace Go.Proofs.Ytnlfndhgdeapeaa
open Go.RowKit
set_option maxRecDepth 100000
set_option maxHeartbeats 4000000

theorem Gr3 (w : World) (c1 c2 c3 : Array Value) (t1 t2 t3 : TypeId) : Gr w (((w.alloc (.cells c1 t1)).alloc (.cells c2 t2)).alloc (.cells c3 t3)) := (((Gr.refl w).alloc _ _).alloc _ _).alloc _ _
theorem add_one (p : Nat → Bool) : AddC (.one p) := by
  intro B g b X S nv v w h hB hX hn hw hbd
  unfold NodeV at hn
  obtain ⟨u0, u1, u2, u3, rfl, q0, q1, q2, q3⟩ := hn
  have CP := Lib.hid (fun W (k : Gr w W) => put_any B g S ⟨p, false, b, 0⟩ v u0 u1 u2 u3 W (h.gr k) (Nat.le_trans hB k.size) (by omega) q0 q1 q2 q3)
  clear q0 q1 q2 q3 hbd hX
  unfold addS
  go_enter Try.func43, Try.ntmps43
  go_wp2_with (go_at_call 54; refine (CP.out _ (Gr3 w _ _ _ _ _ _)).mono ?_; rintro e w1 ⟨rfl, v', hb', hs'⟩)
  go_ret
  exact ⟨rfl, v', hb', (Gr3 w _ _ _ _ _ _).bstep hs'⟩
end Go.Proofs.Ytnlfndhgdeapeaa
/- add at one or none. -/
namespace Go.Proofs.Ytnlfndhgdeapeaa
open Go.RowKit
set_option maxRecDepth 100000
set_option maxHeartbeats 4000000

theorem BStep.blk {g : Nat} {W W' : World} {v v' : Value} (h : BStep g W v W' v') {c : Nat} (hc : c < W.heap.size) (hg : c ≠ g) (hv : v.ownBlock ≠ some c) {o : Nat} {u : Value} (hu : W.cell? ⟨c, o, none⟩ = some u) : W'.cell? ⟨c, o, none⟩ = some u :=
  (World.cell?_of_block (a := ⟨c, o, none⟩) (h.block c hc hg hv)).trans hu
theorem NodeV.gr {W W' : World} {X : Nat → Prop} {n : Nd} {v : Value} (h : NodeV W X n v) (k : Gr W W') : NodeV W' X n v := NodeV.same (fun c _ hlt => k.b.block c hlt) n v h
theorem wd_none (i : Nat) : Wd64 0 noB i := ⟨by omega, fun j _ => by simp [noB]⟩
/-- the one part of a loop or of an option -/
theorem NodeV.part {W : World} {X : Nat → Prop} {k : Nat} {n : Nd} {nv : Value} (h : NodeV W X (.op k [n]) nv) : ∃ (pb c : Nat) (x : Fin 6 → Value), nv = .agg #[.int .i64 k, .int .u64 0, .int .u64 0, .int .u64 0, .int .u64 0, .slice (some ⟨pb, 0, none⟩) 1 c] ∧ 1 ≤ c ∧ X pb ∧ sixAt W pb 0 x ∧ NodeV W X n (aggOf x) := by
  unfold NodeV at h
  obtain ⟨A, c, e, h1, h2, h3⟩ := h
  obtain ⟨pb, rfl, hX, hn⟩ := h3 (by simp)
  unfold NodesFrom at hn
  obtain ⟨⟨x, hx, hn⟩, -⟩ := hn
  exact ⟨pb, c, x, e, h1, hX, hx, hn⟩
theorem sixAt.cells {W : World} {b : Nat} {x : Fin 6 → Value} (h : sixAt W b 0 x) : W.cell? ⟨b, 0, none⟩ = some (x 0) ∧ W.cell? ⟨b, 1, none⟩ = some (x 1) ∧ W.cell? ⟨b, 2, none⟩ = some (x 2) ∧ W.cell? ⟨b, 3, none⟩ = some (x 3) ∧ W.cell? ⟨b, 4, none⟩ = some (x 4) ∧ W.cell? ⟨b, 5, none⟩ = some (x 5) := by
  have key : ∀ i : Fin 6, W.cell? ⟨b, i.val, none⟩ = some (x i) := fun i => by have := h i; rwa [Nat.zero_mul, Nat.zero_add] at this
  exact ⟨key 0, key 1, key 2, key 3, key 4, key 5⟩
theorem three_new (w : World) (c1 c2 c3 : Array Value) (t1 t2 t3 : TypeId) : (((w.alloc (.cells c1 t1)).alloc (.cells c2 t2)).alloc (.cells c3 t3)).heap[w.heap.size]? = some (.cells c1 t1 (0, 0)) ∧ (((w.alloc (.cells c1 t1)).alloc (.cells c2 t2)).alloc (.cells c3 t3)).heap[w.heap.size + 1]? = some (.cells c2 t2 (0, 0)) ∧ (((w.alloc (.cells c1 t1)).alloc (.cells c2 t2)).alloc (.cells c3 t3)).heap[w.heap.size + 2]? = some (.cells c3 t3 (0, 0)) := by
  have a1 := heap_alloc_new w (.cells c1 t1)
  have a2 := heap_alloc_new (w.alloc (.cells c1 t1)) (.cells c2 t2)
  have a3 := heap_alloc_new ((w.alloc (.cells c1 t1)).alloc (.cells c2 t2)) (.cells c3 t3)
  rw [show (w.alloc (.cells c1 t1)).heap.size = w.heap.size + 1 by simp] at a2
  rw [show ((w.alloc (.cells c1 t1)).alloc (.cells c2 t2)).heap.size = w.heap.size + 2 by simp] at a3
  refine ⟨?_, ?_, a3⟩
  · rw [(((Gr.refl (w.alloc (.cells c1 t1))).alloc c2 t2).alloc c3 t3).b.block _ (by simp)]; exact a1
  · rw [((Gr.refl ((w.alloc (.cells c1 t1)).alloc (.cells c2 t2))).alloc c3 t3).b.block _ (by simp)]; exact a2
/-- what add's frame reads: its three boxes, the part's six cells -/
def Opt9 (W : World) (N g pb c b : Nat) (x : Fin 6 → Value) : Prop := W.cell? ⟨N, 0, none⟩ = some (.pointer (some ⟨g, 0, none⟩)) ∧ W.cell? ⟨N + 1, 5, none⟩ = some (.slice (some ⟨pb, 0, none⟩) 1 c) ∧ W.cell? ⟨N + 2, 0, none⟩ = some (.int .i64 b) ∧ W.cell? ⟨pb, 0, none⟩ = some (x 0) ∧ W.cell? ⟨pb, 1, none⟩ = some (x 1) ∧ W.cell? ⟨pb, 2, none⟩ = some (x 2) ∧ W.cell? ⟨pb, 3, none⟩ = some (x 3) ∧ W.cell? ⟨pb, 4, none⟩ = some (x 4) ∧ W.cell? ⟨pb, 5, none⟩ = some (x 5)
theorem Opt9.step {W W' : World} {N g pb c b : Nat} {x : Fin 6 → Value} (h : Opt9 W N g pb c b x) {v v' : Value} (k : BStep g W v W' v') (hN : N + 2 < W.heap.size) (hp : pb < W.heap.size) (hg : N ≠ g ∧ N + 1 ≠ g ∧ N + 2 ≠ g ∧ pb ≠ g) (hv : v.ownBlock ≠ some N ∧ v.ownBlock ≠ some (N + 1) ∧ v.ownBlock ≠ some (N + 2) ∧ v.ownBlock ≠ some pb) : Opt9 W' N g pb c b x := by
  obtain ⟨h0, h1, h2, h3, h4, h5, h6, h7, h8⟩ := h
  obtain ⟨g0, g1, g2, g3⟩ := hg
  obtain ⟨v0, v1, v2, v3⟩ := hv
  exact ⟨k.blk (by omega) g0 v0 h0, k.blk (by omega) g1 v1 h1, k.blk hN g2 v2 h2, k.blk hp g3 v3 h3, k.blk hp g3 v3 h4, k.blk hp g3 v3 h5, k.blk hp g3 v3 h6, k.blk hp g3 v3 h7, k.blk hp g3 v3 h8⟩
theorem BStep.other {g : Nat} {W W' : World} {v v' : Value} (k : BStep g W v W' v') {c : Nat} (hc : c < W.heap.size) (hv : v.ownBlock ≠ some c) : v'.ownBlock ≠ some c := by
  rcases k.own with e | ⟨j, e, hj⟩
  · rw [e]; exact hv
  · rw [e]; intro e2; have := Option.some.inj e2; omega
theorem add_opt (n : Nd) (ih : AddC n) : AddC (.op 5 [n]) := by
  intro B g b X S nv v w h hB hX hn hw hbd
  obtain ⟨pb, c, x, rfl, hc1, hXp, hx, hn⟩ := hn.part
  unfold Wf WfL at hw
  have hwn := hw.1.1
  have hpb := hX pb hXp
  unfold bd bdm wts at hbd
  have hl := (addS_len n b S).2 hwn
  have hl1 : S.length + bd n ≤ 1000000000000 := by simp [List.length] at hbd; omega
  have hl2 : (addS n b S).1.length ≤ 1000000000000 := by simp [List.length] at hbd; omega
  have CA := Lib.hid (fun W (k : Gr w W) => ih B g b X S (aggOf x) v W (h.gr k) (Nat.le_trans hB k.size) hX (hn.gr k) hwn hl1)
  have hg : w.heap.size ≠ g ∧ w.heap.size + 1 ≠ g ∧ w.heap.size + 2 ≠ g ∧ pb ≠ g := by have := h.lt; have := h.b; omega
  have hv : v.ownBlock ≠ some w.heap.size ∧ v.ownBlock ≠ some (w.heap.size + 1) ∧ v.ownBlock ≠ some (w.heap.size + 2) ∧ v.ownBlock ≠ some pb := by
    have := h.r.lt
    refine ⟨fun e => ?_, fun e => ?_, fun e => ?_, fun e => ?_⟩ <;> (have := this _ e; omega)
  obtain ⟨p0, p1, p2, p3, p4, p5⟩ := hx.cells
  have HV := Lib.hid hv
  have HBL := Lib.hid h.lt
  have e5 : addS (.op 5 [n]) b S = forkOn (addS n b S) b := by
    conv => lhs; unfold addS
    simp only [show ¬ (5 = 1) by omega, show ¬ (5 = 2) by omega, if_false, if_true]
    unfold addHead
    rfl
  rw [e5]
  obtain ⟨r, hr⟩ : ∃ r, addS n b S = r := ⟨_, rfl⟩
  rw [hr] at CA hl2 ⊢
  clear hr hl hbd hn hx hv hw
  obtain ⟨S1, f1⟩ := r
  simp only at hl2
  replace CA : Hid (∀ W, Gr w W → Calls Try.prog 43 #[.pointer (some ⟨g, 0, none⟩), aggOf x, .int .i64 b] W (fun e w' => e = .returned (.int .i64 f1) ∧ ∃ v', Bld B g w' S1 v' ∧ BStep g W v w' v')) := CA
  unfold aggOf at CA
  obtain ⟨hg0, hg1, hg2, hg3⟩ := hg
  go_enter Try.func43, Try.ntmps43
  go_wp2
  have hn3 := three_new w #[.pointer (some ⟨g, 0, none⟩)] #[.int .i64 5, .int .u64 0, .int .u64 0, .int .u64 0, .int .u64 0, .slice (some ⟨pb, 0, none⟩) 1 c] #[.int .i64 b] 108 57 3
  have k0 := Gr3 w #[.pointer (some ⟨g, 0, none⟩)] #[.int .i64 5, .int .u64 0, .int .u64 0, .int .u64 0, .int .u64 0, .slice (some ⟨pb, 0, none⟩) 1 c] #[.int .i64 b] 108 57 3
  have hsz : (((w.alloc (.cells #[.pointer (some ⟨g, 0, none⟩)] 108)).alloc (.cells #[.int .i64 5, .int .u64 0, .int .u64 0, .int .u64 0, .int .u64 0, .slice (some ⟨pb, 0, none⟩) 1 c] 57)).alloc (.cells #[.int .i64 b] 3)).heap.size = w.heap.size + 3 := by simp
  obtain ⟨W0, hW0⟩ : ∃ W0, (((w.alloc (.cells #[.pointer (some ⟨g, 0, none⟩)] 108)).alloc (.cells #[.int .i64 5, .int .u64 0, .int .u64 0, .int .u64 0, .int .u64 0, .slice (some ⟨pb, 0, none⟩) 1 c] 57)).alloc (.cells #[.int .i64 b] 3)) = W0 := ⟨_, rfl⟩
  rw [hW0] at hn3 k0 hsz ⊢
  obtain ⟨n0, n1, n2⟩ := hn3
  have HS : Hid (Opt9 W0.drew w.heap.size g pb c b x) := Lib.hid ⟨cell_of_row W0 _ 0 _ _ (0, 0) n0, cell_of_row W0 _ 5 _ _ (0, 0) n1, cell_of_row W0 _ 0 _ _ (0, 0) n2, k0.cell p0, k0.cell p1, k0.cell p2, k0.cell p3, k0.cell p4, k0.cell p5⟩
  have K0 := Lib.hid k0
  clear hW0 n0 n1 n2 k0 p0 p1 p2 p3 p4 p5
  go_region_held3 (fun w' => w'.cell? ⟨w.heap.size, 0, none⟩ = some (.pointer (some ⟨g, 0, none⟩)) ∧ w'.cell? ⟨w.heap.size + 1, 5, none⟩ = some (.slice (some ⟨pb, 0, none⟩) 1 c) ∧ w'.cell? ⟨w.heap.size + 2, 0, none⟩ = some (.int .i64 b) ∧ w'.cell? ⟨pb, 0, none⟩ = some (x 0) ∧ w'.cell? ⟨pb, 1, none⟩ = some (x 1) ∧ w'.cell? ⟨pb, 2, none⟩ = some (x 2) ∧ w'.cell? ⟨pb, 3, none⟩ = some (x 3) ∧ w'.cell? ⟨pb, 4, none⟩ = some (x 4) ∧ w'.cell? ⟨pb, 5, none⟩ = some (x 5))
    (first
     | exact HS2.out
     | exact HS1.out
     | exact HS.out)
    (first
     | (go_at_call 54
        refine (put_any B g S1 ⟨noB, true, f1, b⟩ v1 0 0 0 0 w1 hb1 (by omega) hl2 (wd_none 0) (wd_none 1) (wd_none 2) (wd_none 3)).mono ?_
        rintro e w2 ⟨rfl, v2, hb2, hs2⟩
        have HS2 : Hid (Opt9 w2 w.heap.size g pb c b x) := Lib.hid (HS1.out.step hs2 (by omega) (by omega) ⟨hg0, hg1, hg2, hg3⟩ ⟨hs1.other (by show _ < W0.heap.size; omega) HV.out.1, hs1.other (by show _ < W0.heap.size; omega) HV.out.2.1, hs1.other (by show _ < W0.heap.size; omega) HV.out.2.2.1, hs1.other (by show _ < W0.heap.size; omega) HV.out.2.2.2⟩))
     | (go_at_call 43
        refine (CA.out _ K0.out.drew).mono ?_
        rintro e w1 ⟨rfl, v1, hb1, hs1⟩
        have hz1 : W0.heap.size ≤ w1.heap.size := hs1.size
        have HS1 : Hid (Opt9 w1 w.heap.size g pb c b x) := Lib.hid (HS.out.step hs1 (by show _ < W0.heap.size; omega) (by show _ < W0.heap.size; omega) ⟨hg0, hg1, hg2, hg3⟩ HV.out)))
  go_wp2
  go_ret
  exact ⟨rfl, v2, hb2, (K0.out.drew.bstep hs1).trans hs2⟩
end Go.Proofs.Ytnlfndhgdeapeaa
