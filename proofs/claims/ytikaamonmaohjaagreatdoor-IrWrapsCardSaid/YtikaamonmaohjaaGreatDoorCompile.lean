/- Compile. -/
import Derived.Test.YtikaamonmaohjaaGreatDoorEitherW
import Derived.Test.YtikaamonmaohjaaGreatDoorEither
import Derived.Lib.AppendZeros
import Derived.Test.YtikaamonmaohjaaGreatDoorSetP
import Derived.Test.YtikaamonmaohjaaGreatDoorMid
namespace Go.Proofs.YtikaamonmaohjaaGreatDoor
open Go.RowKit
set_option maxRecDepth 100000
set_option maxHeartbeats 4000000

theorem add_alt (l : List Nd) (ih : ∀ n ∈ l, AddC n) : AddC (.op 2 l) := by
  intro B g b X S nv v w h hB hX hn hw hbd
  obtain ⟨A, pb, c, val, rfl, hc1, hc2, hP, hXp, hns⟩ := hn.parts
  unfold Wf at hw
  unfold bd at hbd
  obtain ⟨l', m, rfl⟩ : ∃ l' m, l = l' ++ [m] := by
    have h0 : l ≠ [] := by
      rcases hw.2 with e | ⟨-, e⟩ | ⟨e, -⟩
      · omega
      · exact e
      · omega
    exact ⟨l.dropLast, l.getLast h0, (List.dropLast_concat_getLast h0).symm⟩
  have CE := Lib.hid (fun W (k : Gr w W) => addEither_any l' m ih B g b X S A c v W (h.gr k) (Nat.le_trans hB k.size) hX pb val (fun h0 => ⟨(hP h0).1, fun j hj i => k.cell ((hP h0).2 j hj i)⟩) hXp hc1 hc2 (fun i hi => (hns i hi).gr k) hw.1 hbd)
  have e2 : addS (.op 2 (l' ++ [m])) b S = addAlt (l' ++ [m]) b S := by
    conv => lhs; unfold addS
    rfl
  rw [e2]
  obtain ⟨L, hL⟩ : ∃ L, (l' ++ [m]).length = L := ⟨_, rfl⟩
  obtain ⟨r, hr⟩ : ∃ r, addAlt (l' ++ [m]) b S = r := ⟨_, rfl⟩
  rw [hL, hr] at CE
  rw [hL, hr]
  clear hP hns hn ih hw hbd hXp hc1 hc2 h hL hr
  go_enter Tryz.func133, Tryz.ntmps133
  go_wp2_with (go_at_call 155; refine (CE.out _ (Gr3 w _ _ _ _ _ _)).mono ?_; rintro e w1 ⟨rfl, v', hb', hs'⟩)
  go_ret
  exact ⟨rfl, v', hb', (Gr3 w _ _ _ _ _ _).bstep hs'⟩
theorem add_loop (k : Nat) (hk : k = 3 ∨ k = 4) (n : Nd) (ih : AddC n) : AddC (.op k [n]) := by
  intro B g b X S nv v w h hB hX hn hw hbd
  unfold Wf WfL at hw
  unfold bd bdm at hbd
  have hwn := hw.1.1
  have CE := Lib.hid (fun W (q : Gr w W) => addLoop_any k hk n ih B g b X S nv v W (h.gr q) (Nat.le_trans hB q.size) hX (hn.gr q) hwn (by omega))
  obtain ⟨pb, c, x, rfl, -⟩ := hn.part
  have e2 : addS (.op k [n]) b S = loopEnd k S.length b (addS n S.length (S ++ [⟨noB, true, 0, b⟩])) := by
    conv => lhs; unfold addS
    rw [if_neg (by omega), if_neg (by omega), if_neg (by omega)]
    unfold addHead
    rfl
  rw [e2]
  obtain ⟨r, hr⟩ : ∃ r, loopEnd k S.length b (addS n S.length (S ++ [⟨noB, true, 0, b⟩])) = r := ⟨_, rfl⟩
  rw [hr] at CE
  rw [hr]
  clear hn ih hw hbd h hr hwn
  rcases hk with rfl | rfl
  · go_enter Tryz.func133, Tryz.ntmps133
    go_wp2_with (go_at_call 156; refine (CE.out _ (Gr3 w _ _ _ _ _ _)).mono ?_; rintro e w1 ⟨rfl, v', hb', hs'⟩)
    go_ret
    exact ⟨rfl, v', hb', (Gr3 w _ _ _ _ _ _).bstep hs'⟩
  · go_enter Tryz.func133, Tryz.ntmps133
    go_wp2_with (go_at_call 156; refine (CE.out _ (Gr3 w _ _ _ _ _ _)).mono ?_; rintro e w1 ⟨rfl, v', hb', hs'⟩)
    go_ret
    exact ⟨rfl, v', hb', (Gr3 w _ _ _ _ _ _).bstep hs'⟩
theorem addN_any : ∀ n, AddC n := Nd.all add_one fun k l ih => by
  by_cases h1 : k = 1
  · subst h1; exact add_turn l ih
  by_cases h2 : k = 2
  · subst h2; exact add_alt l ih
  intro B g b X S nv v w h hB hX hn hw hbd
  have hw0 := hw
  unfold Wf at hw
  have hl : l.length = 1 ∧ (k = 3 ∨ k = 4 ∨ k = 5) := by
    rcases hw.2 with e | ⟨e, -⟩ | ⟨e, e2⟩
    · omega
    · omega
    · exact ⟨e2, e⟩
  obtain ⟨n, rfl⟩ := List.length_eq_one_iff.1 hl.1
  rcases hl.2 with rfl | rfl | rfl
  · exact add_loop 3 (.inl rfl) n (ih n (by simp)) B g b X S nv v w h hB hX hn hw0 hbd
  · exact add_loop 4 (.inr rfl) n (ih n (by simp)) B g b X S nv v w h hB hX hn hw0 hbd
  · exact add_opt n (ih n (by simp)) B g b X S nv v w h hB hX hn hw0 hbd
end Go.Proofs.YtikaamonmaohjaaGreatDoor
namespace Go.Proofs.YtikaamonmaohjaaGreatDoor
open Go.RowKit
set_option maxRecDepth 100000
set_option maxHeartbeats 4000000

def endSt : St := ⟨noB, false, 0, 0⟩
def buildS (n : Nd) : List St × Nat := addS n 0 [endSt]
/-- a pattern's states in memory -/
def ProgAt (W : World) (P : Nat) (r : List St × Nat) : Prop := ∃ v, W.heap[P]? = some (.cells #[v, .int .i64 r.2] 171 (0, 0)) ∧ RowSt W 0 v r.1
theorem RowSt.mono {W : World} {B B' : Nat} {v : Value} {l : List St} (h : RowSt W B v l) (hB : B' ≤ B) : RowSt W B' v l := by
  obtain ⟨vs, h1, h2, h3⟩ := h
  refine ⟨vs, h1, ⟨h2.1, ?_⟩, h3⟩
  rcases h2.2 with e | ⟨g, cap, cur, e1, e2, e3⟩
  · exact .inl e
  · exact .inr ⟨g, cap, cur, e1, by omega, e3⟩
theorem ProgAt.gr {W W' : World} {P : Nat} {r : List St × Nat} (h : ProgAt W P r) (k : Gr W W') : ProgAt W' P r := by
  obtain ⟨v, h1, h2⟩ := h
  exact ⟨v, (k.b.block _ (Array.getElem?_eq_some_iff.1 h1).1).trans h1, h2.keep fun c e => k.b.block c (h2.lt c e).2⟩
theorem row_one (W : World) (B : Nat) (hB : B ≤ W.heap.size) : RowSt (W.alloc (.cells #[.int .u64 0, .int .u64 0, .int .u64 0, .int .u64 0, .bool false, .int .i64 0, .int .i64 0] 165)) B (.slice (some ⟨W.heap.size, 0, none⟩) 1 1) [endSt] :=
  ⟨[stF 0 0 0 0 false 0 0], rfl, ⟨rfl, .inr ⟨W.heap.size, 1, _, rfl, hB, heap_alloc_new W _, Nat.le_refl _, by unfold maxLen; omega, rfl, rfl⟩⟩, fun i s x hs hx => by
    match i with
    | 0 =>
      obtain rfl := Option.some.inj hs
      obtain rfl := Option.some.inj hx
      exact ⟨0, 0, 0, 0, rfl, wd_none 0, wd_none 1, wd_none 2, wd_none 3⟩
    | i + 1 => cases hs⟩
theorem build_any (n : Nd) (nv : Value) (X : Nat → Prop) (w : World) (hX : ∀ c, X c → c < w.heap.size) (hn : NodeV w X n nv) (hw : Wf n) (hbd : 1 + bd n ≤ 1000000000000) :
    Calls Tryz.prog 123 #[nv] w fun e w' => ∃ P, e = .returned (.pointer (some ⟨P, 0, none⟩)) ∧ ProgAt w' P (buildS n) ∧ Gr w w' := by
  have CA := Lib.hid (fun W (q : Gr w W) g v (h : Bld w.heap.size g W [endSt] v) => addN_any n w.heap.size g 0 X [endSt] nv v W h q.size hX (hn.gr q) hw (by simp; omega))
  obtain ⟨k, u0, u1, u2, u3, m, c, A, rfl⟩ := node_form hn
  clear hn hw hbd hX
  unfold buildS
  obtain ⟨r, hr⟩ : ∃ r, addS n 0 [endSt] = r := ⟨_, rfl⟩
  rw [hr] at CA
  rw [hr]
  obtain ⟨S1, f1⟩ := r
  replace CA : Hid (∀ W, Gr w W → ∀ g v, Bld w.heap.size g W [endSt] v → Calls Tryz.prog 133 #[.pointer (some ⟨g, 0, none⟩), .agg #[.int .i64 k, .int .u64 u0, .int .u64 u1, .int .u64 u2, .int .u64 u3, .slice A m c], .int .i64 (0 : Nat)] W (fun e w' => e = .returned (.int .i64 f1) ∧ ∃ v', Bld w.heap.size g w' S1 v' ∧ BStep g W v w' v')) := CA
  clear hr
  go_enter Tryz.func123, Tryz.ntmps123
  go_wp2_with fail
  have s1 : (w.alloc (.cells #[.int .i64 k, .int .u64 u0, .int .u64 u1, .int .u64 u2, .int .u64 u3, .slice A m c] 150)).heap.size = w.heap.size + 1 := by simp
  have s2 : ((w.alloc (.cells #[.int .i64 k, .int .u64 u0, .int .u64 u1, .int .u64 u2, .int .u64 u3, .slice A m c] 150)).alloc (.cells #[.int .u64 0, .int .u64 0, .int .u64 0, .int .u64 0, .bool false, .int .i64 0, .int .i64 0] 165)).heap.size = w.heap.size + 1 + 1 := by simp
  have r1 := row_one (w.alloc (.cells #[.int .i64 k, .int .u64 u0, .int .u64 u1, .int .u64 u2, .int .u64 u3, .slice A m c] 150)) w.heap.size (by omega)
  rw [s1] at r1
  have g3 : Gr ((w.alloc (.cells #[.int .i64 k, .int .u64 u0, .int .u64 u1, .int .u64 u2, .int .u64 u3, .slice A m c] 150)).alloc (.cells #[.int .u64 0, .int .u64 0, .int .u64 0, .int .u64 0, .bool false, .int .i64 0, .int .i64 0] 165)) (((w.alloc (.cells #[.int .i64 k, .int .u64 u0, .int .u64 u1, .int .u64 u2, .int .u64 u3, .slice A m c] 150)).alloc (.cells #[.int .u64 0, .int .u64 0, .int .u64 0, .int .u64 0, .bool false, .int .i64 0, .int .i64 0] 165)).alloc (.cells #[.slice (some ⟨w.heap.size + 1, 0, none⟩) 1 1] 168)) := (Gr.refl _).alloc _ _
  have c3 := heap_alloc_new ((w.alloc (.cells #[.int .i64 k, .int .u64 u0, .int .u64 u1, .int .u64 u2, .int .u64 u3, .slice A m c] 150)).alloc (.cells #[.int .u64 0, .int .u64 0, .int .u64 0, .int .u64 0, .bool false, .int .i64 0, .int .i64 0] 165)) (.cells #[.slice (some ⟨w.heap.size + 1, 0, none⟩) 1 1] 168)
  rw [s2] at c3
  have hb : Bld w.heap.size (w.heap.size + 1 + 1) (((w.alloc (.cells #[.int .i64 k, .int .u64 u0, .int .u64 u1, .int .u64 u2, .int .u64 u3, .slice A m c] 150)).alloc (.cells #[.int .u64 0, .int .u64 0, .int .u64 0, .int .u64 0, .bool false, .int .i64 0, .int .i64 0] 165)).alloc (.cells #[.slice (some ⟨w.heap.size + 1, 0, none⟩) 1 1] 168)) [endSt] (.slice (some ⟨w.heap.size + 1, 0, none⟩) 1 1) :=
    ⟨c3, r1.keep (fun j e => g3.b.block _ (by have : w.heap.size + 1 = j := by simpa [Value.ownBlock] using e
                                              omega)), by simp [Value.ownBlock], by omega⟩
  have gw : Gr w (((w.alloc (.cells #[.int .i64 k, .int .u64 u0, .int .u64 u1, .int .u64 u2, .int .u64 u3, .slice A m c] 150)).alloc (.cells #[.int .u64 0, .int .u64 0, .int .u64 0, .int .u64 0, .bool false, .int .i64 0, .int .i64 0] 165)).alloc (.cells #[.slice (some ⟨w.heap.size + 1, 0, none⟩) 1 1] 168)) := (((Gr.refl w).alloc _ _).alloc _ _).alloc _ _
  refine (CA.out _ gw _ _ hb).mono ?_
  rintro e w1 ⟨rfl, v1, hb1, hs1⟩
  have G1 : Gr w w1 := ⟨gw.b.trans (hs1.below hb gw.size)⟩
  have cg := hb1.cell
  obtain ⟨c0, -⟩ := cg
  obtain ⟨A1, cc1, rfl⟩ := hb1.r.form
  have HF := Lib.hid (show (∃ P, Ending.returned (.pointer (some ⟨w1.heap.size, 0, none⟩)) = .returned (.pointer (some ⟨P, 0, none⟩)) ∧ ProgAt (w1.alloc (.cells #[.slice A1 S1.length cc1, .int .i64 f1] 171)) P (S1, f1) ∧ Gr w (w1.alloc (.cells #[.slice A1 S1.length cc1, .int .i64 f1] 171))) from
    ⟨_, rfl, ⟨_, heap_alloc_new w1 _, (hb1.r.mono (Nat.zero_le _)).keep fun j e => ((Gr.refl w1).alloc _ _).b.block j (hb1.r.lt j e).2⟩, G1.alloc _ _⟩)
  clear hb1 hs1 hb G1 c3 r1 g3 gw CA s1 s2
  go_wp2_with fail
  go_ret
  exact HF.out
end Go.Proofs.YtikaamonmaohjaaGreatDoor
namespace Go.Proofs.YtikaamonmaohjaaGreatDoor
open Go.RowKit
set_option maxRecDepth 100000
set_option maxHeartbeats 1000000

def Bx (W : World) (N : Nat) (a0 a1 a2 a3 a4 a5 : Value) : Prop := W.heap[N]? = some (.cells #[a0, a1, a2, a3, a4, a5] 150 (0, 0))
theorem bx_new (w : World) (a0 a1 a2 a3 a4 a5 : Value) : Bx (w.alloc (.cells #[a0, a1, a2, a3, a4, a5] 150)) w.heap.size a0 a1 a2 a3 a4 a5 := by
  unfold Bx World.alloc
  simp
theorem Bx.lt {W : World} {N : Nat} {a0 a1 a2 a3 a4 a5 : Value} (h : Bx W N a0 a1 a2 a3 a4 a5) : N < W.heap.size := by
  rcases Nat.lt_or_ge N W.heap.size with e | e
  · exact e
  · unfold Bx at h; rw [Array.getElem?_eq_none e] at h; cases h
theorem Bx.facts {W : World} {N : Nat} {a0 a1 a2 a3 a4 a5 : Value} (h : Bx W N a0 a1 a2 a3 a4 a5) :
    W.cell? ⟨N, 0, none⟩ = some a0 ∧ W.cell? ⟨N, 1, none⟩ = some a1 ∧ W.cell? ⟨N, 2, none⟩ = some a2 ∧ W.cell? ⟨N, 3, none⟩ = some a3 ∧ W.cell? ⟨N, 4, none⟩ = some a4 ∧ W.cell? ⟨N, 5, none⟩ = some a5 ∧
    W.frozen? ⟨N, 0, none⟩ = false ∧ W.frozen? ⟨N, 1, none⟩ = false ∧ W.frozen? ⟨N, 2, none⟩ = false ∧ W.frozen? ⟨N, 3, none⟩ = false ∧ W.frozen? ⟨N, 4, none⟩ = false ∧ W.frozen? ⟨N, 5, none⟩ = false :=
  ⟨cell_of_row W N 0 _ _ (0, 0) h, cell_of_row W N 1 _ _ (0, 0) h, cell_of_row W N 2 _ _ (0, 0) h, cell_of_row W N 3 _ _ (0, 0) h, cell_of_row W N 4 _ _ (0, 0) h, cell_of_row W N 5 _ _ (0, 0) h,
   frozen_of_row W N 0 _ _ h, frozen_of_row W N 1 _ _ h, frozen_of_row W N 2 _ _ h, frozen_of_row W N 3 _ _ h, frozen_of_row W N 4 _ _ h, frozen_of_row W N 5 _ _ h⟩
theorem Bx.gr {W W' : World} {N : Nat} {a0 a1 a2 a3 a4 a5 : Value} (h : Bx W N a0 a1 a2 a3 a4 a5) (g : Gr W W') : Bx W' N a0 a1 a2 a3 a4 a5 := (g.b.block N h.lt).trans h
theorem Bx.only {W W' : World} {b N : Nat} {a0 a1 a2 a3 a4 a5 : Value} (h : Bx W N a0 a1 a2 a3 a4 a5) (g : Only W W' b) (hne : N ≠ b) : Bx W' N a0 a1 a2 a3 a4 a5 := (g.blk h.lt hne).trans h
theorem Bx.set_other {W : World} {N M o : Nat} {a0 a1 a2 a3 a4 a5 v : Value} (h : Bx W N a0 a1 a2 a3 a4 a5) (hne : N ≠ M) : Bx (W.setCell ⟨M, o, none⟩ v) N a0 a1 a2 a3 a4 a5 :=
  (Below.heap_setCell W _ _ N (by show N ≠ M; exact hne)).trans h
theorem Bx.six_other {W : World} {N M : Nat} {a0 a1 a2 a3 a4 a5 : Value} (h : Bx W N a0 a1 a2 a3 a4 a5) (hne : N ≠ M) (v0 v1 v2 v3 v4 v5 : Value) : Bx ((((((W.setCell ⟨M, 0, none⟩ v0).setCell ⟨M, 1, none⟩ v1).setCell ⟨M, 2, none⟩ v2).setCell ⟨M, 3, none⟩ v3).setCell ⟨M, 4, none⟩ v4).setCell ⟨M, 5, none⟩ v5) N a0 a1 a2 a3 a4 a5 :=
  (((((h.set_other hne).set_other hne).set_other hne).set_other hne).set_other hne).set_other hne
theorem Bx.last {W : World} {N : Nat} {a0 a1 a2 a3 a4 a5 : Value} (h : Bx W N a0 a1 a2 a3 a4 a5) (v : Value) : Bx (W.setCell ⟨N, 5, none⟩ v) N a0 a1 a2 a3 a4 v := by
  have := heap_setCell_same W N 5 _ _ v h
  unfold Bx
  simpa using this
theorem six_blk (W : World) (N : Nat) (v0 v1 v2 v3 v4 v5 : Value) : ((((((W.setCell ⟨N, 0, none⟩ v0).setCell ⟨N, 1, none⟩ v1).setCell ⟨N, 2, none⟩ v2).setCell ⟨N, 3, none⟩ v3).setCell ⟨N, 4, none⟩ v4).setCell ⟨N, 5, none⟩ v5).heap.size = W.heap.size ∧ ∀ c, c ≠ N → ((((((W.setCell ⟨N, 0, none⟩ v0).setCell ⟨N, 1, none⟩ v1).setCell ⟨N, 2, none⟩ v2).setCell ⟨N, 3, none⟩ v3).setCell ⟨N, 4, none⟩ v4).setCell ⟨N, 5, none⟩ v5).heap[c]? = W.heap[c]? := by
  refine ⟨by simp [World.setCell], fun c hc => ?_⟩
  have key : ∀ (W : World) (o : Nat) (v : Value), (W.setCell ⟨N, o, none⟩ v).heap[c]? = W.heap[c]? := fun W o v => Below.heap_setCell W _ _ c (by show c ≠ N; exact hc)
  rw [key, key, key, key, key, key]
theorem read_no {b k : Nat} {s : ByteArray} {w W : World} {n : Nd} {R : Bool × Nd × Nat} (v0 v1 v2 v3 v4 v5 : Value) (hb : b < w.heap.size) (H : R = (false, n, k)) (hr : Rd W b s k) (ho : Only w W b) :
    ReadPost b s R w (.returned (.tuple #[zeroN, .bool false])) ((((((W.setCell ⟨w.heap.size, 0, none⟩ v0).setCell ⟨w.heap.size, 1, none⟩ v1).setCell ⟨w.heap.size, 2, none⟩ v2).setCell ⟨w.heap.size, 3, none⟩ v3).setCell ⟨w.heap.size, 4, none⟩ v4).setCell ⟨w.heap.size, 5, none⟩ v5) := by
  subst H
  exact ⟨hr.six hb _ _ _ _ _ _, ho.six _ _ _ _ _ _, zeroN, rfl, fun e => absurd e (by simp), fun _ => rfl⟩
/-- what was made lies behind the result's block -/
theorem read_yes {b k : Nat} {s : ByteArray} {w W : World} {n : Nd} {v : Value} {R : Bool × Nd × Nat} (v0 v1 v2 v3 v4 v5 : Value) (hb : b < w.heap.size) (H : R = (true, n, k)) (hr : Rd W b s k) (ho : Only w W b) (hv : ∃ X : Nat → Prop, (∀ c, X c → w.heap.size < c ∧ c < W.heap.size) ∧ NodeV W X n v) :
    ReadPost b s R w (.returned (.tuple #[v, .bool true])) ((((((W.setCell ⟨w.heap.size, 0, none⟩ v0).setCell ⟨w.heap.size, 1, none⟩ v1).setCell ⟨w.heap.size, 2, none⟩ v2).setCell ⟨w.heap.size, 3, none⟩ v3).setCell ⟨w.heap.size, 4, none⟩ v4).setCell ⟨w.heap.size, 5, none⟩ v5) := by
  subst H
  obtain ⟨X, hX, hn⟩ := hv
  obtain ⟨hsz, hbl⟩ := six_blk W w.heap.size v0 v1 v2 v3 v4 v5
  exact ⟨hr.six hb _ _ _ _ _ _, ho.six _ _ _ _ _ _, v, rfl, fun _ => ⟨X, fun c hc => ⟨by have := (hX c hc).1; omega, by rw [hsz]; exact (hX c hc).2⟩, NodeV.same (fun c hc _ => hbl c (by have := (hX c hc).1; omega)) n v hn⟩, fun e => absurd e (by simp)⟩
/-- a stop on the walk's way -/
def Bar (p : Prop) : Prop := p
theorem Bar.mk {p : Prop} (h : Bar p) : p := h
theorem bar_at (n : Nat) {P : Program} {ops : Array Oper} {Q : Exit → Act → World → Prop} {x : Oper} {rest : List Oper} {a : Act} {w : World} {o : Obj} (_hx : x.dst = some n) (h : ∀ W, w.alloc o = W → Bar (wpList P ops Q (x :: rest) a W)) : wpList P ops Q (x :: rest) a (w.alloc o) := h _ rfl
/-- a tree made since W1, told of a later world -/
theorem NewN.late {w W1 W2 W3 : World} {n : Nd} {v : Value} (h : NewN W1 W2 n v) (h1 : w.heap.size < W1.heap.size) (h2 : W2.heap.size ≤ W3.heap.size) (g : ∀ c, W1.heap.size ≤ c → c < W2.heap.size → W3.heap[c]? = W2.heap[c]?) : ∃ X : Nat → Prop, (∀ c, X c → w.heap.size < c ∧ c < W3.heap.size) ∧ NodeV W3 X n v := by
  obtain ⟨X, hX, hn⟩ := h
  exact ⟨X, fun c hc => ⟨by have := (hX c hc).1; omega, by have := (hX c hc).2; omega⟩, NodeV.same (fun c hc _ => g c (hX c hc).1 (hX c hc).2) n v hn⟩
end Go.Proofs.YtikaamonmaohjaaGreatDoor
namespace Go.Proofs.YtikaamonmaohjaaGreatDoor
open Go.RowKit
set_option maxRecDepth 100000
set_option maxHeartbeats 4000000

def brS (s : List UInt8) (br : Nat → Bool × Nd × Nat) (k : Nat) : Bool × Nd × Nat :=
  if (br k).1 then (if isAt s (br k).2.2 41 then (true, (br k).2.1, (br k).2.2 + 1) else (false, noN, (br k).2.2)) else (false, noN, (br k).2.2)
/-- what is known of pattern: from the place k on -/
def PatAt (b : Nat) (s : ByteArray) (br : Nat → Bool × Nd × Nat) (k : Nat) : Prop := ∀ W, Rd W b s k → Calls Tryz.prog 122 #[.pointer (some ⟨b, 0, none⟩)] W (ReadPost b s (br k) W)
theorem bracketed_any (b k : Nat) (s : ByteArray) (br : Nat → Bool × Nd × Nat) (w : World) (h : Rd w b s k) (hs : s.size ≤ 1000000) (hp : PatAt b s br k) (hbr : (br k).2.2 ≤ s.size) :
    Calls Tryz.prog 186 #[.pointer (some ⟨b, 0, none⟩)] w (ReadPost b s (brS s.data.toList br k) w) := by
  have hbN := h.lt
  have CT := Lib.hid (fun (k : Nat) W (h : Rd W b s k) (hk : k ≤ s.size) => take_any b s k 41 W h hk hs)
  have CP := Lib.hid (hp (w.alloc (.cells #[.int .i64 0, .int .u64 0, .int .u64 0, .int .u64 0, .int .u64 0, .slice none 0 0] 150)) (h.gr ((Gr.refl w).alloc _ _)))
  obtain ⟨R, hR⟩ : ∃ R, brS s.data.toList br k = R := ⟨_, rfl⟩
  rw [hR]
  unfold brS at hR
  obtain ⟨r, hr⟩ : ∃ r, br k = r := ⟨_, rfl⟩
  rw [hr] at hR CP hbr
  have HR := Lib.hid hR
  clear hR hr hp h
  obtain ⟨ok, n, k1⟩ := r
  simp only at hbr
  have hres : Tryz.f186.results = #[.cell 2 150, .tmp 3] := by kernel_rfl
  have HB0 := Lib.hid (bx_new w (.int .i64 0) (.int .u64 0) (.int .u64 0) (.int .u64 0) (.int .u64 0) (.slice none 0 0))
  cases ok
  · have H : Hid (R = (false, noN, k1)) := Lib.hid (by rw [← HR.out]; rfl)
    go_enter Tryz.func186, Tryz.ntmps186
    go_wp2_with fail
    refine CP.out.mono ?_
    rintro e w1 ⟨hr1, ho1, v, rfl, -, hv2⟩
    obtain rfl := hv2 rfl
    have HR1 : Hid (Rd w1 b s k1) := Lib.hid hr1
    have HO1 : Hid (Only w w1 b) := Lib.hid (((Only.refl w b).gr ((Gr.refl w).alloc _ _)).trans ho1)
    have HB1 := Lib.hid (HB0.out.only ho1 (by omega))
    clear hr1 ho1 CP CT HB0 hv2 HR
    unfold zeroN
    go_wp2_with (with_reducible refine bar_at 12 rfl fun Wx hWx => ?_)
    have HR2 : Hid (Rd Wx b s k1) := Lib.hid (by rw [← hWx]; exact HR1.out.gr ((Gr.refl w1).alloc _ _))
    have HO2 : Hid (Only w Wx b) := Lib.hid (by rw [← hWx]; exact HO1.out.gr ((Gr.refl w1).alloc _ _))
    have HB2 := HB1.out.gr ((Gr.refl w1).alloc #[.int .i64 0, .int .u64 0, .int .u64 0, .int .u64 0, .int .u64 0, .slice none 0 0] 150)
    rw [hWx] at HB2
    clear hWx HR1 HO1 HB1
    obtain ⟨e0, e1, e2, e3, e4, e5, f0, f1, f2, f3, f4, f5⟩ := HB2.facts
    clear HB2
    unfold Bar
    go_wp2
    refine bodyPost_ret (v := .tuple #[zeroN, .bool false]) ?_ rfl ?_
    · simp only [results, hres]
      go_simp
      rfl
    exact read_no _ _ _ _ _ _ hbN H.out HR2.out HO2.out
  · obtain ⟨tk, htk⟩ : ∃ tk, isAt s.data.toList k1 41 = tk := ⟨_, rfl⟩
    have HT : Hid (R = if tk then (true, n, k1 + 1) else (false, noN, k1)) := Lib.hid (by rw [← HR.out, ← htk]; rfl)
    clear HR
    go_enter Tryz.func186, Tryz.ntmps186
    go_wp2_with fail
    refine CP.out.mono ?_
    rintro e w1 ⟨hr1, ho1, v, rfl, hv, -⟩
    obtain ⟨kk, u0, u1, u2, u3, m, c, A, rfl⟩ := (hv rfl).form
    have HV := Lib.hid (hv rfl)
    have HR1 : Hid (Rd w1 b s k1) := Lib.hid hr1
    have HO1 : Hid (Only w w1 b) := Lib.hid (((Only.refl w b).gr ((Gr.refl w).alloc _ _)).trans ho1)
    have HB1 := Lib.hid (HB0.out.only ho1 (by omega))
    have hbM := hr1.lt
    clear hr1 ho1 CP HB0 hv
    go_wp2_with (with_reducible refine bar_at 12 rfl fun Wx hWx => ?_)
    have HR2 : Hid (Rd Wx b s k1) := Lib.hid (by rw [← hWx]; exact HR1.out.gr ((Gr.refl w1).alloc _ _))
    have HO2 : Hid (Only w Wx b) := Lib.hid (by rw [← hWx]; exact HO1.out.gr ((Gr.refl w1).alloc _ _))
    have HB2 : Hid (Bx Wx w.heap.size _ _ _ _ _ _) := Lib.hid (by rw [← hWx]; exact HB1.out.gr ((Gr.refl w1).alloc _ _))
    have HC2 := bx_new w1 (.int .i64 kk) (.int .u64 u0) (.int .u64 u1) (.int .u64 u2) (.int .u64 u3) (.slice A m c)
    rw [hWx] at HC2
    have HC := Lib.hid HC2
    have HV2 : Hid (∃ X : Nat → Prop, (∀ c, X c → w.heap.size < c ∧ c < w1.heap.size) ∧ NodeV Wx X n (.agg #[.int .i64 kk, .int .u64 u0, .int .u64 u1, .int .u64 u2, .int .u64 u3, .slice A m c])) := Lib.hid (by
      obtain ⟨X, hX, hn⟩ := HV.out
      refine ⟨X, fun c hc => ?_, NodeV.same (fun c hc hlt => ?_) _ _ hn⟩
      · have := hX c hc
        simp at this
        omega
      · rw [← hWx]; exact ((Gr.refl w1).alloc _ _).b.block c hlt)
    clear hWx HR1 HO1 HB1 HC2 HV
    have CT2 := Lib.hid (CT.out k1 Wx HR2.out hbr)
    unfold TakePost at CT2
    rw [htk] at CT2
    clear htk CT
    unfold Bar
    have hN1 : w.heap.size < Wx.heap.size := HB2.out.lt
    have hM1 : w1.heap.size < Wx.heap.size := HC.out.lt
    cases tk
    · have H : Hid (R = (false, noN, k1)) := Lib.hid (by rw [HT.out]; rfl)
      go_wp2_with fail
      refine CT2.out.mono ?_
      rintro e w3 ⟨rfl, hr3, ho3⟩
      have HB3 := HB2.out.only ho3 (by omega)
      have HR3 : Hid (Rd w3 b s k1) := Lib.hid hr3
      have HO3 : Hid (Only w w3 b) := Lib.hid (HO2.out.trans ho3)
      clear hr3 ho3 HB2 CT2 HC
      obtain ⟨e0, e1, e2, e3, e4, e5, f0, f1, f2, f3, f4, f5⟩ := HB3.facts
      clear HB3
      go_wp2
      refine bodyPost_ret (v := .tuple #[zeroN, .bool false]) ?_ rfl ?_
      · simp only [results, hres]
        go_simp
        rfl
      exact read_no _ _ _ _ _ _ hbN H.out HR3.out HO3.out
    · have H : Hid (R = (true, n, k1 + 1)) := Lib.hid (by rw [HT.out]; rfl)
      go_wp2_with fail
      refine CT2.out.mono ?_
      rintro e w3 ⟨rfl, hr3, ho3⟩
      have HB3 := HB2.out.only ho3 (by omega)
      have HC3 := HC.out.only ho3 (by omega)
      have HR3 : Hid (Rd w3 b s (k1 + 1)) := Lib.hid hr3
      have HO3 : Hid (Only w w3 b) := Lib.hid (HO2.out.trans ho3)
      have HV3 : Hid (∃ X : Nat → Prop, (∀ c, X c → w.heap.size < c ∧ c < w3.heap.size) ∧ NodeV w3 X n (.agg #[.int .i64 kk, .int .u64 u0, .int .u64 u1, .int .u64 u2, .int .u64 u3, .slice A m c])) := Lib.hid (by
        obtain ⟨X, hX, hn⟩ := HV2.out
        have := ho3.size
        refine ⟨X, fun c hc => ?_, NodeV.same (fun c hc hlt => ?_) _ _ hn⟩
        · have := hX c hc
          omega
        · have := hX c hc
          exact ho3.blk hlt (by omega))
      clear hr3 ho3 HB2 CT2 HC HV2
      obtain ⟨e0, e1, e2, e3, e4, e5, f0, f1, f2, f3, f4, f5⟩ := HB3.facts
      obtain ⟨g0, g1, g2, g3, g4, g5, -⟩ := HC3.facts
      clear HB3 HC3
      go_wp2
      refine bodyPost_ret (v := .tuple #[.agg #[.int .i64 kk, .int .u64 u0, .int .u64 u1, .int .u64 u2, .int .u64 u3, .slice A m c], .bool true]) ?_ rfl ?_
      · simp only [results, hres]
        go_simp
      exact read_yes _ _ _ _ _ _ hbN H.out HR3.out HO3.out HV3.out
end Go.Proofs.YtikaamonmaohjaaGreatDoor
namespace Go.Proofs.YtikaamonmaohjaaGreatDoor
open Go.RowKit
set_option maxRecDepth 100000
set_option maxHeartbeats 4000000

/-- the result's block is behind the world w; all zero -/
structure AtSt (w W : World) (b : Nat) (s : ByteArray) (k : Nat) : Prop where
  r : Rd W b s k
  o : Only w W b
  x : Bx W w.heap.size (.int .i64 0) (.int .u64 0) (.int .u64 0) (.int .u64 0) (.int .u64 0) (.slice none 0 0)
theorem AtSt.start {w : World} {b k : Nat} {s : ByteArray} (h : Rd w b s k) : AtSt w (w.alloc (.cells #[.int .i64 0, .int .u64 0, .int .u64 0, .int .u64 0, .int .u64 0, .slice none 0 0] 150)) b s k :=
  ⟨h.gr ((Gr.refl w).alloc _ _), (Only.refl w b).gr ((Gr.refl w).alloc _ _), bx_new w _ _ _ _ _ _⟩
theorem AtSt.on {w W W' : World} {b k k' : Nat} {s : ByteArray} (h : AtSt w W b s k) (hb : b < w.heap.size) (r : Rd W' b s k') (o : Only W W' b) : AtSt w W' b s k' := ⟨r, h.o.trans o, h.x.only o (by omega)⟩
theorem AtSt.gr {w W W' : World} {b k : Nat} {s : ByteArray} (h : AtSt w W b s k) (g : Gr W W') : AtSt w W' b s k := ⟨h.r.gr g, h.o.gr g, h.x.gr g⟩
theorem AtSt.no {w W : World} {b k : Nat} {s : ByteArray} {R : Bool × Nd × Nat} {n : Nd} (v0 v1 v2 v3 v4 v5 : Value) (h : AtSt w W b s k) (hb : b < w.heap.size) (H : R = (false, n, k)) :
    ReadPost b s R w (.returned (.tuple #[zeroN, .bool false])) ((((((W.setCell ⟨w.heap.size, 0, none⟩ v0).setCell ⟨w.heap.size, 1, none⟩ v1).setCell ⟨w.heap.size, 2, none⟩ v2).setCell ⟨w.heap.size, 3, none⟩ v3).setCell ⟨w.heap.size, 4, none⟩ v4).setCell ⟨w.heap.size, 5, none⟩ v5) :=
  read_no _ _ _ _ _ _ hb H h.r h.o
theorem AtSt.leaf {w W : World} {b k : Nat} {s : ByteArray} {R : Bool × Nd × Nat} {p : Nat → Bool} {v : Value} (v0 v1 v2 v3 v4 v5 : Value) (h : AtSt w W b s k) (hb : b < w.heap.size) (H : R = (true, .one p, k)) (hv : LeafV v p) :
    ReadPost b s R w (.returned (.tuple #[v, .bool true])) ((((((W.setCell ⟨w.heap.size, 0, none⟩ v0).setCell ⟨w.heap.size, 1, none⟩ v1).setCell ⟨w.heap.size, 2, none⟩ v2).setCell ⟨w.heap.size, 3, none⟩ v3).setCell ⟨w.heap.size, 4, none⟩ v4).setCell ⟨w.heap.size, 5, none⟩ v5) :=
  read_yes _ _ _ _ _ _ hb H h.r h.o ⟨fun _ => False, fun _ h => h.elim, by unfold NodeV; exact hv⟩
/-- a call that changes a block that was made since -/
theorem Only.past {w W W' : World} {b M : Nat} (h : Only w W b) (g : Only W W' M) (hM : w.heap.size ≤ M) : Only w W' b :=
  ⟨g.os.trans h.os, g.tape.trans h.tape, g.output.trans h.output, Nat.le_trans h.size g.size, fun i hi hne => (g.block i (Nat.lt_of_lt_of_le hi h.size) (fun e => by have := Option.some.inj e; omega)).trans (h.block i hi hne)⟩
theorem AtSt.past {w W W' : World} {b k M : Nat} {s : ByteArray} (h : AtSt w W b s k) (hb : b < w.heap.size) (g : Only W W' M) (hM : w.heap.size < M) : AtSt w W' b s k :=
  ⟨h.r.only g (by omega), h.o.past g (by omega), h.x.only g (by omega)⟩
theorem Bx.bs {W : World} {M : Nat} {a0 a5 : Value} (h : Bx W M a0 (.int .u64 (0 : Nat)) (.int .u64 (0 : Nat)) (.int .u64 (0 : Nat)) (.int .u64 (0 : Nat)) a5) : BsAt W M 1 (fun _ => false) := fun i hi => by
  obtain ⟨e0, e1, e2, e3, e4, e5, f0, f1, f2, f3, f4, f5⟩ := h.facts
  have e : Wd64 0 (fun _ => false) i := ⟨by omega, fun j _ => by simp⟩
  match i, hi with
  | 0, _ => exact ⟨0, e1, f1, e⟩
  | 1, _ => exact ⟨0, e2, f2, e⟩
  | 2, _ => exact ⟨0, e3, f3, e⟩
  | 3, _ => exact ⟨0, e4, f4, e⟩
theorem isAt_lt {s : ByteArray} {k : Nat} {c : UInt8} (h : isAt s.data.toList k c = true) : k < s.size := by
  have := (List.getElem?_eq_some_iff.1 (of_decide_eq_true h)).1
  simpa using this
theorem AtSt.any {w W : World} {b : Nat} {s : ByteArray} {R : Bool × Nd × Nat} {v : Value} (v0 v1 v2 v3 v4 v5 : Value) (h : AtSt w W b s R.2.2) (hb : b < w.heap.size) (hv : R.1 = true → ∃ X : Nat → Prop, (∀ c, X c → w.heap.size < c ∧ c < W.heap.size) ∧ NodeV W X R.2.1 v) (h0 : R.1 = false → v = zeroN) :
    ReadPost b s R w (.returned (.tuple #[v, .bool R.1])) ((((((W.setCell ⟨w.heap.size, 0, none⟩ v0).setCell ⟨w.heap.size, 1, none⟩ v1).setCell ⟨w.heap.size, 2, none⟩ v2).setCell ⟨w.heap.size, 3, none⟩ v3).setCell ⟨w.heap.size, 4, none⟩ v4).setCell ⟨w.heap.size, 5, none⟩ v5) := by
  obtain ⟨ok, n, k⟩ := R
  cases ok
  · obtain rfl := h0 rfl
    exact read_no _ _ _ _ _ _ hb rfl h.r h.o
  · exact read_yes _ _ _ _ _ _ hb rfl h.r h.o (hv rfl)
theorem read_form {w w' : World} {n : Nd} {ok : Bool} {v : Value} (h1 : ok = true → NewN w w' n v) (h0 : ok = false → v = zeroN) : ∃ (k u0 u1 u2 u3 m c : Nat) (A : Option Addr), v = .agg #[.int .i64 k, .int .u64 u0, .int .u64 u1, .int .u64 u2, .int .u64 u3, .slice A m c] := by
  cases ok
  · exact ⟨0, 0, 0, 0, 0, 0, 0, none, h0 rfl⟩
  · exact (h1 rfl).form
theorem atom_any (b k : Nat) (s : ByteArray) (br : Nat → Bool × Nd × Nat) (w : World) (h : Rd w b s k) (hk : k ≤ s.size) (hs : s.size ≤ 1000000) (hp : isAt s.data.toList k 40 = true → PatAt b s br (k + 1) ∧ (br (k + 1)).2.2 ≤ s.size) :
    Calls Tryz.prog 179 #[.pointer (some ⟨b, 0, none⟩)] w (ReadPost b s (atomS s.data.toList br k) w) := by
  have hbN := h.lt
  have CT := Lib.hid (fun (c : UInt8) (k : Nat) W (h : Rd W b s k) (hk : k ≤ s.size) => take_any b s k c W h hk hs)
  have hres : Tryz.f179.results = #[.cell 2 150, .tmp 3] := by kernel_rfl
  have HS := Lib.hid (AtSt.start h)
  obtain ⟨R, hR⟩ : ∃ R, atomS s.data.toList br k = R := ⟨_, rfl⟩
  rw [hR]
  unfold atomS at hR
  have HP := Lib.hid hp
  clear h hp
  obtain ⟨t1, ht1⟩ : ∃ t, isAt s.data.toList k 46 = t := ⟨_, rfl⟩
  have C1 := Lib.hid (CT.out 46 k _ HS.out.r hk)
  unfold TakePost at C1
  rw [ht1] at C1 hR
  have hl1 : t1 = true → k < s.size := fun e => isAt_lt (ht1.trans e)
  have HR := Lib.hid hR
  clear ht1 hR
  go_enter Tryz.func179, Tryz.ntmps179
  go_wp2_with fail
  refine C1.out.mono ?_
  rintro e w1 ⟨rfl, hr1, ho1⟩
  have HS1 := Lib.hid (HS.out.on hbN hr1 ho1)
  clear hr1 ho1 HS C1
  cases t1
  case true =>
    have hlt := hl1 rfl
    have H : Hid (R = (true, .one (fun x => !(fun _ => false : Nat → Bool) x), k + 1)) := Lib.hid (by rw [← HR.out]; rfl)
    have z : ∀ i, Wd64 0 (fun _ => false) i := fun i => ⟨by omega, fun j _ => by simp⟩
    have CO := Lib.hid (others_any 0 0 0 0 (fun _ => false) w1 (z 0) (z 1) (z 2) (z 3))
    clear z HR HP CT
    go_wp2_with fail
    refine CO.out.mono ?_
    rintro e w2 ⟨⟨u0, u1, u2, u3, rfl, q0, q1, q2, q3⟩, gg⟩
    have HS2 := Lib.hid (HS1.out.gr gg)
    have HV := Lib.hid (show LeafV (.agg #[.int .i64 0, .int .u64 u0, .int .u64 u1, .int .u64 u2, .int .u64 u3, .slice none 0 0]) (fun x => !(fun _ => false : Nat → Bool) x) from ⟨u0, u1, u2, u3, rfl, q0, q1, q2, q3⟩)
    clear q0 q1 q2 q3 gg HS1 CO
    obtain ⟨e0, e1, e2, e3, e4, e5, f0, f1, f2, f3, f4, f5⟩ := HS2.out.x.facts
    go_wp2
    refine bodyPost_ret (v := .tuple #[.agg #[.int .i64 0, .int .u64 u0, .int .u64 u1, .int .u64 u2, .int .u64 u3, .slice none 0 0], .bool true]) ?_ rfl ?_
    · simp only [results, hres]
      go_simp
    exact HS2.out.leaf _ _ _ _ _ _ hbN H.out HV.out
  have HR1 : Hid ((if isAt s.data.toList k 40 then brS s.data.toList br (k + 1)
    else if isAt s.data.toList k 91 then ((setS s.data.toList (k + 1)).1, .one (setS s.data.toList (k + 1)).2.1, (setS s.data.toList (k + 1)).2.2)
    else if (letterS s.data.toList spL bsL k).1 then (true, .one (fun x => false || inR (letterS s.data.toList spL bsL k).2.1.toNat (letterS s.data.toList spL bsL k).2.1.toNat x), (letterS s.data.toList spL bsL k).2.2)
    else (false, noN, (letterS s.data.toList spL bsL k).2.2)) = R) := Lib.hid HR.out
  clear HR hl1
  obtain ⟨t2, ht2⟩ : ∃ t, isAt s.data.toList k 40 = t := ⟨_, rfl⟩
  have C1 := Lib.hid (CT.out 40 k _ HS1.out.r hk)
  unfold TakePost at C1
  have hR := HR1.out
  rw [ht2] at C1 hR
  have hl2 : t2 = true → k < s.size := fun e => isAt_lt (ht2.trans e)
  have HP2 : Hid (t2 = true → PatAt b s br (k + 1) ∧ (br (k + 1)).2.2 ≤ s.size) := Lib.hid fun e => HP.out (ht2.trans e)
  have HR := Lib.hid hR
  clear ht2 hR HR1 HP
  go_wp2_with fail
  refine C1.out.mono ?_
  rintro e w2 ⟨rfl, hr2, ho2⟩
  have HS2 := Lib.hid (HS1.out.on hbN hr2 ho2)
  clear hr2 ho2 HS1 C1
  cases t2
  case true =>
    have hlt := hl2 rfl
    have CB := Lib.hid (bracketed_any b (k + 1) s br w2 HS2.out.r hs (HP2.out rfl).1 (HP2.out rfl).2)
    have hR : brS s.data.toList br (k + 1) = R := HR.out
    rw [hR] at CB
    clear HR HP2 CT hR
    have hlt2 := HS2.out.x.lt
    go_wp2_with fail
    refine CB.out.mono ?_
    rintro e w3 ⟨hr3, ho3, v, rfl, hv, hv0⟩
    obtain ⟨kk, u0, u1, u2, u3, m, c, A, rfl⟩ := read_form hv hv0
    have HS3 := Lib.hid (HS2.out.on hbN hr3 ho3)
    have HV := Lib.hid (And.intro hv hv0)
    clear hr3 ho3 hv hv0 HS2 CB
    obtain ⟨e0, e1, e2, e3, e4, e5, f0, f1, f2, f3, f4, f5⟩ := HS3.out.x.facts
    go_wp2
    refine bodyPost_ret (v := .tuple #[.agg #[.int .i64 kk, .int .u64 u0, .int .u64 u1, .int .u64 u2, .int .u64 u3, .slice A m c], .bool R.1]) ?_ rfl ?_
    · simp only [results, hres]
      go_simp
    exact HS3.out.any _ _ _ _ _ _ hbN (fun e => (HV.out.1 e).late hlt2 (Nat.le_refl _) (fun _ _ _ => rfl)) HV.out.2
  have HR2 : Hid ((if isAt s.data.toList k 91 then ((setS s.data.toList (k + 1)).1, .one (setS s.data.toList (k + 1)).2.1, (setS s.data.toList (k + 1)).2.2)
    else if (letterS s.data.toList spL bsL k).1 then (true, .one (fun x => false || inR (letterS s.data.toList spL bsL k).2.1.toNat (letterS s.data.toList spL bsL k).2.1.toNat x), (letterS s.data.toList spL bsL k).2.2)
    else (false, noN, (letterS s.data.toList spL bsL k).2.2)) = R) := Lib.hid HR.out
  clear HR hl2 HP2
  obtain ⟨t3, ht3⟩ : ∃ t, isAt s.data.toList k 91 = t := ⟨_, rfl⟩
  have C1 := Lib.hid (CT.out 91 k _ HS2.out.r hk)
  unfold TakePost at C1
  have hR := HR2.out
  rw [ht3] at C1 hR
  have hl3 : t3 = true → k < s.size := fun e => isAt_lt (ht3.trans e)
  have HR := Lib.hid hR
  clear ht3 hR HR2 CT
  go_wp2_with fail
  refine C1.out.mono ?_
  rintro e w3 ⟨rfl, hr3, ho3⟩
  have HS3 := Lib.hid (HS2.out.on hbN hr3 ho3)
  clear hr3 ho3 HS2 C1
  cases t3
  case true =>
    have hlt := hl3 rfl
    have CB := Lib.hid (set_any b (k + 1) s w3 HS3.out.r (by omega) hs)
    have HR2 : Hid (R = ((setS s.data.toList (k + 1)).1, .one (setS s.data.toList (k + 1)).2.1, (setS s.data.toList (k + 1)).2.2)) := Lib.hid (HR.out.symm)
    clear HR
    obtain ⟨q, hq⟩ : ∃ q, setS s.data.toList (k + 1) = q := ⟨_, rfl⟩
    rw [hq] at CB HR2
    clear hq
    have h1 : R.1 = q.1 := by rw [HR2.out]
    have H1 := Lib.hid h1
    clear h1
    go_wp2_with fail
    refine CB.out.mono ?_
    rintro e w4 ⟨hr4, ho4, v, rfl, hv, hv0⟩
    have HS4 : Hid (AtSt w w4 b s R.2.2) := Lib.hid (by rw [HR2.out]; exact HS3.out.on hbN hr4 ho4)
    have HV : Hid ((R.1 = true → ∃ X : Nat → Prop, (∀ c, X c → w.heap.size < c ∧ c < w4.heap.size) ∧ NodeV w4 X R.2.1 v) ∧ (R.1 = false → v = zeroN)) := Lib.hid (by
      rw [HR2.out]
      exact ⟨fun e => ⟨fun _ => False, fun _ h => h.elim, by unfold NodeV; exact hv e⟩, hv0⟩)
    have hform : ∃ u0 u1 u2 u3 : Nat, v = .agg #[.int .i64 0, .int .u64 u0, .int .u64 u1, .int .u64 u2, .int .u64 u3, .slice none 0 0] := by
      cases hq : q.1
      · exact ⟨0, 0, 0, 0, hv0 hq⟩
      · obtain ⟨u0, u1, u2, u3, e, -⟩ := hv hq
        exact ⟨u0, u1, u2, u3, e⟩
    obtain ⟨u0, u1, u2, u3, rfl⟩ := hform
    rw [← H1.out]
    clear hr4 ho4 hv hv0 HS3 CB HR2
    obtain ⟨e0, e1, e2, e3, e4, e5, f0, f1, f2, f3, f4, f5⟩ := HS4.out.x.facts
    go_wp2
    refine bodyPost_ret (v := .tuple #[.agg #[.int .i64 0, .int .u64 u0, .int .u64 u1, .int .u64 u2, .int .u64 u3, .slice none 0 0], .bool R.1]) ?_ rfl ?_
    · simp only [results, hres]
      go_simp
    exact HS4.out.any _ _ _ _ _ _ hbN HV.out.1 HV.out.2
  have HR3 : Hid ((if (letterS s.data.toList spL bsL k).1 then (true, .one (fun x => false || inR (letterS s.data.toList spL bsL k).2.1.toNat (letterS s.data.toList spL bsL k).2.1.toNat x), (letterS s.data.toList spL bsL k).2.2)
    else (false, noN, (letterS s.data.toList spL bsL k).2.2)) = R) := Lib.hid HR.out
  clear HR hl3
  have CL : Hid (Calls Tryz.prog 188 #[.pointer (some ⟨b, 0, none⟩), .string ⟨#[92, 46, 91, 93, 40, 41, 124, 42, 43, 63]⟩, .string ⟨#[92, 46, 91, 93, 40, 41, 124, 42, 43, 63, 94, 36, 123, 125, 47, 45]⟩] w3 (LetterPost b s (letterS s.data.toList spL bsL k) w3)) := Lib.hid (letter_any b s ⟨#[92, 46, 91, 93, 40, 41, 124, 42, 43, 63]⟩ ⟨#[92, 46, 91, 93, 40, 41, 124, 42, 43, 63, 94, 36, 123, 125, 47, 45]⟩ k w3 HS3.out.r hk hs)
  obtain ⟨q, hq⟩ : ∃ q, letterS s.data.toList spL bsL k = q := ⟨_, rfl⟩
  rw [hq] at CL HR3
  clear hq
  obtain ⟨ok, cc, k1⟩ := q
  unfold LetterPost at CL
  simp only at CL HR3
  cases ok
  case false =>
    have H : Hid (R = (false, noN, k1)) := Lib.hid (by rw [← HR3.out]; rfl)
    clear HR3
    go_wp2_with fail
    refine CL.out.mono ?_
    rintro e w4 ⟨rfl, hr4, ho4⟩
    have HS4 : Hid (AtSt w w4 b s k1) := Lib.hid (HS3.out.on hbN hr4 ho4)
    clear hr4 ho4 HS3 CL
    obtain ⟨e0, e1, e2, e3, e4, e5, f0, f1, f2, f3, f4, f5⟩ := HS4.out.x.facts
    go_wp2
    refine bodyPost_ret (v := .tuple #[zeroN, .bool false]) ?_ rfl ?_
    · simp only [results, hres]
      go_simp
      rfl
    exact HS4.out.no _ _ _ _ _ _ hbN H.out
  have H : Hid (R = (true, .one (fun x => false || inR cc.toNat cc.toNat x), k1)) := Lib.hid (by rw [← HR3.out]; rfl)
  clear HR3
  go_wp2_with fail
  refine CL.out.mono ?_
  rintro e w4 ⟨rfl, hr4, ho4⟩
  have HS4 : Hid (AtSt w w4 b s k1) := Lib.hid (HS3.out.on hbN hr4 ho4)
  clear hr4 ho4 HS3 CL
  go_wp2_with (with_reducible refine bar_at 36 rfl fun Wx hWx => ?_)
  have hM : w.heap.size < w4.heap.size := HS4.out.x.lt
  have HS5 : Hid (AtSt w Wx b s k1) := Lib.hid (by rw [← hWx]; exact HS4.out.gr ((Gr.refl w4).alloc _ _))
  have HB : Hid (BsAt Wx w4.heap.size 1 (fun _ => false) ∧ Wx.cell? ⟨w4.heap.size, 0, none⟩ = some (.int .i64 0) ∧ Wx.cell? ⟨w4.heap.size, 5, none⟩ = some (.slice none 0 0)) := Lib.hid (by
    have hx := bx_new w4 (.int .i64 0) (.int .u64 (0 : Nat)) (.int .u64 (0 : Nat)) (.int .u64 (0 : Nat)) (.int .u64 (0 : Nat)) (.slice none 0 0)
    have hy : Bx Wx w4.heap.size (.int .i64 0) (.int .u64 (0 : Nat)) (.int .u64 (0 : Nat)) (.int .u64 (0 : Nat)) (.int .u64 (0 : Nat)) (.slice none 0 0) := by rw [← hWx]; exact hx
    exact ⟨hy.bs, hy.facts.1, hy.facts.2.2.2.2.2.1⟩)
  have CA := Lib.hid (add_any w4.heap.size 1 (fun _ => false) cc.toNat cc.toNat Wx HB.out.1 cc.toNat_lt cc.toNat_lt)
  clear hWx HS4
  unfold Bar
  obtain ⟨M, hMM⟩ : ∃ M, w4.heap.size = M := ⟨_, rfl⟩
  rw [hMM] at hM HB CA
  rw [hMM]
  clear hMM
  go_wp2_with fail
  refine CA.out.mono ?_
  rintro e w5 ⟨rfl, hb5, ho5, hk5⟩
  have HS6 : Hid (AtSt w w5 b s k1) := Lib.hid (HS5.out.past hbN ho5 hM)
  have n0 := (hk5 0 (Or.inl (by omega))).1.trans HB.out.2.1
  have n5 := (hk5 5 (Or.inr (by omega))).1.trans HB.out.2.2
  obtain ⟨a0, n1, -, p0⟩ := hb5 0 (by omega)
  obtain ⟨a1, n2, -, p1⟩ := hb5 1 (by omega)
  obtain ⟨a2, n3, -, p2⟩ := hb5 2 (by omega)
  obtain ⟨a3, n4, -, p3⟩ := hb5 3 (by omega)
  simp only [Nat.reduceAdd] at n1 n2 n3 n4
  have HV := Lib.hid (show LeafV (.agg #[.int .i64 0, .int .u64 a0, .int .u64 a1, .int .u64 a2, .int .u64 a3, .slice none 0 0]) (fun x => false || inR cc.toNat cc.toNat x) from ⟨a0, a1, a2, a3, rfl, p0, p1, p2, p3⟩)
  clear hb5 ho5 hk5 HS5 CA HB p0 p1 p2 p3
  obtain ⟨e0, e1, e2, e3, e4, e5, f0, f1, f2, f3, f4, f5⟩ := HS6.out.x.facts
  go_wp2
  refine bodyPost_ret (v := .tuple #[.agg #[.int .i64 0, .int .u64 a0, .int .u64 a1, .int .u64 a2, .int .u64 a3, .slice none 0 0], .bool true]) ?_ rfl ?_
  · simp only [results, hres]
    go_simp
  exact HS6.out.leaf _ _ _ _ _ _ hbN H.out HV.out
end Go.Proofs.YtikaamonmaohjaaGreatDoor
namespace Go.Proofs.YtikaamonmaohjaaGreatDoor
open Go.RowKit
set_option maxRecDepth 100000
set_option maxHeartbeats 4000000

/-- the tree lies in blocks behind the result's -/
def TreeSt (w W : World) (n : Nd) (v : Value) : Prop := ∃ X : Nat → Prop, (∀ c, X c → w.heap.size < c ∧ c < W.heap.size) ∧ NodeV W X n v
theorem TreeSt.on {w W W' : World} {n : Nd} {v : Value} {b : Nat} (h : TreeSt w W n v) (o : Only W W' b) (hb : b < w.heap.size) : TreeSt w W' n v := by
  obtain ⟨X, hX, hn⟩ := h
  have := o.size
  exact ⟨X, fun c hc => ⟨(hX c hc).1, by have := (hX c hc).2; omega⟩, NodeV.same (fun c hc hlt => o.blk hlt (by have := (hX c hc).1; omega)) _ _ hn⟩
theorem TreeSt.gr {w W W' : World} {n : Nd} {v : Value} (h : TreeSt w W n v) (g : Gr W W') : TreeSt w W' n v := by
  obtain ⟨X, hX, hn⟩ := h
  have := g.size
  exact ⟨X, fun c hc => ⟨(hX c hc).1, by have := (hX c hc).2; omega⟩, NodeV.same (fun c hc hlt => g.b.block c hlt) _ _ hn⟩
/-- behind the atom: the result's block, the atom's box M -/
structure PcSt (w W : World) (b : Nat) (s : ByteArray) (k M : Nat) (n : Nd) (kk u0 u1 u2 u3 m c : Nat) (A : Option Addr) : Prop where
  a : AtSt w W b s k
  mm : Bx W M (.int .i64 kk) (.int .u64 u0) (.int .u64 u1) (.int .u64 u2) (.int .u64 u3) (.slice A m c)
  t : TreeSt w W n (.agg #[.int .i64 kk, .int .u64 u0, .int .u64 u1, .int .u64 u2, .int .u64 u3, .slice A m c])
theorem PcSt.on {w W W' : World} {b k k' M : Nat} {s : ByteArray} {n : Nd} {kk u0 u1 u2 u3 m c : Nat} {A : Option Addr} (h : PcSt w W b s k M n kk u0 u1 u2 u3 m c A) (hb : b < w.heap.size) (hM : w.heap.size < M) (r : Rd W' b s k') (o : Only W W' b) : PcSt w W' b s k' M n kk u0 u1 u2 u3 m c A :=
  ⟨h.a.on hb r o, h.mm.only o (by omega), h.t.on o hb⟩
/-- a part of its own: in a row of one -/
theorem one_part {w W : World} {n : Nd} {kk u0 u1 u2 u3 m c : Nat} {A : Option Addr} {B j : Nat} (h : TreeSt w W n (.agg #[.int .i64 kk, .int .u64 u0, .int .u64 u1, .int .u64 u2, .int .u64 u3, .slice A m c])) (hB : Bx W B (.int .i64 kk) (.int .u64 u0) (.int .u64 u1) (.int .u64 u2) (.int .u64 u3) (.slice A m c)) (hwB : w.heap.size < B) : TreeSt w W (.op j [n]) (.agg #[.int .i64 j, .int .u64 0, .int .u64 0, .int .u64 0, .int .u64 0, .slice (some ⟨B, 0, none⟩) 1 1]) := by
  obtain ⟨X, hX, hn⟩ := h
  refine ⟨fun c => X c ∨ c = B, fun c hc => hc.elim (hX c) (fun e => by subst e; exact ⟨hwB, hB.lt⟩), ?_⟩
  unfold NodeV
  refine ⟨some ⟨B, 0, none⟩, 1, rfl, Nat.le_refl _, by unfold maxLen; omega, fun _ => ⟨B, rfl, Or.inr rfl, ?_⟩⟩
  unfold NodesFrom
  refine ⟨⟨fun j => match j with | 0 => .int .i64 kk | 1 => .int .u64 u0 | 2 => .int .u64 u1 | 3 => .int .u64 u2 | 4 => .int .u64 u3 | 5 => .slice A m c, ?_, NodeV.mono (fun c hc => Or.inl hc) _ _ hn⟩, by unfold NodesFrom; trivial⟩
  obtain ⟨e0, e1, e2, e3, e4, e5, -⟩ := hB.facts
  intro i
  match i with
  | 0 => exact e0
  | 1 => exact e1
  | 2 => exact e2
  | 3 => exact e3
  | 4 => exact e4
  | 5 => exact e5
theorem piece_any (b k : Nat) (s : ByteArray) (br : Nat → Bool × Nd × Nat) (w : World) (h : Rd w b s k) (hk : k ≤ s.size) (hs : s.size ≤ 1000000) (hp : isAt s.data.toList k 40 = true → PatAt b s br (k + 1) ∧ (br (k + 1)).2.2 ≤ s.size) (hle : (atomS s.data.toList br k).2.2 ≤ s.size) :
    Calls Tryz.prog 152 #[.pointer (some ⟨b, 0, none⟩)] w (ReadPost b s (pieceS s.data.toList br k) w) := by
  have hbN := h.lt
  have CT := Lib.hid (fun (c : UInt8) (k : Nat) W (h : Rd W b s k) (hk : k ≤ s.size) => take_any b s k c W h hk hs)
  have hres : Tryz.f152.results = #[.cell 2 150, .tmp 3] := by kernel_rfl
  have HS := AtSt.start h
  have CA := Lib.hid (atom_any b k s br _ HS.r hk hs hp)
  obtain ⟨R, hR⟩ : ∃ R, pieceS s.data.toList br k = R := ⟨_, rfl⟩
  rw [hR]
  unfold pieceS at hR
  obtain ⟨q, hq⟩ : ∃ q, atomS s.data.toList br k = q := ⟨_, rfl⟩
  rw [hq] at hR CA hle
  have HR := Lib.hid hR
  clear hR hq hp h
  obtain ⟨ok, n, k1⟩ := q
  simp only at hle
  go_enter Tryz.func152, Tryz.ntmps152
  go_wp2_with fail
  refine CA.out.mono ?_
  rintro e w1 ⟨hr1, ho1, v, rfl, hv, hv0⟩
  obtain ⟨kk, u0, u1, u2, u3, m, c, A, rfl⟩ := read_form hv hv0
  have HS1 := Lib.hid (HS.on hbN hr1 ho1)
  have HT1 : Hid (ok = true → TreeSt w w1 n (.agg #[.int .i64 kk, .int .u64 u0, .int .u64 u1, .int .u64 u2, .int .u64 u3, .slice A m c])) := Lib.hid fun e => (hv e).late (by simp) (Nat.le_refl _) (fun _ _ _ => rfl)
  have hM : w.heap.size < w1.heap.size := HS1.out.x.lt
  clear hr1 ho1 hv hv0 CA HS
  simp only
  go_wp2_with (with_reducible first | refine bar_at 12 rfl fun Wx hWx => ?_ | refine bar_at 13 rfl fun Wx hWx => ?_)
  have HS2 : Hid (AtSt w Wx b s k1) := Lib.hid (by rw [← hWx]; exact HS1.out.gr ((Gr.refl w1).alloc _ _))
  have hm := bx_new w1 (.int .i64 kk) (.int .u64 u0) (.int .u64 u1) (.int .u64 u2) (.int .u64 u3) (.slice A m c)
  rw [hWx] at hm
  have HM := Lib.hid hm
  have HT2 : Hid (ok = true → TreeSt w Wx n (.agg #[.int .i64 kk, .int .u64 u0, .int .u64 u1, .int .u64 u2, .int .u64 u3, .slice A m c])) := Lib.hid fun e => by rw [← hWx]; exact (HT1.out e).gr ((Gr.refl w1).alloc _ _)
  clear hWx hm HS1 HT1
  unfold Bar
  obtain ⟨M, hMM⟩ : ∃ M, w1.heap.size = M := ⟨_, rfl⟩
  rw [hMM] at hM HM
  rw [hMM]
  clear hMM
  cases ok
  case false =>
    have H : Hid (R = (false, noN, k1)) := Lib.hid (by rw [← HR.out]; rfl)
    clear HR HT2 HM CT
    obtain ⟨e0, e1, e2, e3, e4, e5, f0, f1, f2, f3, f4, f5⟩ := HS2.out.x.facts
    go_wp2
    refine bodyPost_ret (v := .tuple #[zeroN, .bool false]) ?_ rfl ?_
    · simp only [results, hres]
      go_simp
      rfl
    exact HS2.out.no _ _ _ _ _ _ hbN H.out
  have HP : Hid (PcSt w Wx b s k1 M n kk u0 u1 u2 u3 m c A) := Lib.hid ⟨HS2.out, HM.out, HT2.out rfl⟩
  have HR1 : Hid ((if isAt s.data.toList k1 42 then (true, .op 3 [n], k1 + 1) else if isAt s.data.toList k1 43 then (true, .op 4 [n], k1 + 1) else if isAt s.data.toList k1 63 then (true, .op 5 [n], k1 + 1) else (true, n, k1)) = R) := Lib.hid HR.out
  clear HR HS2 HM HT2
  obtain ⟨t1, ht1⟩ : ∃ t, isAt s.data.toList k1 42 = t := ⟨_, rfl⟩
  have C1 := Lib.hid (CT.out 42 k1 _ HP.out.a.r hle)
  unfold TakePost at C1
  have hR := HR1.out
  rw [ht1] at C1 hR
  have HR := Lib.hid hR
  clear ht1 hR HR1
  go_wp2_with fail
  refine C1.out.mono ?_
  rintro e w2 ⟨rfl, hr2, ho2⟩
  have HP1 := Lib.hid (HP.out.on hbN hM hr2 ho2)
  clear hr2 ho2 HP C1
  cases t1
  case true =>
    have H : Hid (R = (true, .op 3 [n], k1 + 1)) := Lib.hid (by rw [← HR.out]; rfl)
    clear HR CT
    obtain ⟨g0, g1, g2, g3, g4, g5, -⟩ := HP1.out.mm.facts
    go_wp2_with (with_reducible refine bar_at 20 rfl fun Wy hWy => ?_)
    have HS3 : Hid (AtSt w Wy b s (k1 + 1)) := Lib.hid (by rw [← hWy]; exact HP1.out.a.gr ((Gr.refl _).alloc _ _))
    have hm := bx_new w2 (.int .i64 kk) (.int .u64 u0) (.int .u64 u1) (.int .u64 u2) (.int .u64 u3) (.slice A m c)
    rw [hWy] at hm
    have HT : Hid (TreeSt w Wy (.op 3 [n]) _) := Lib.hid (one_part (j := 3) (w := w) (by rw [← hWy]; exact HP1.out.t.gr ((Gr.refl w2).alloc _ _)) hm HP1.out.a.x.lt)
    clear hWy hm HP1 g0 g1 g2 g3 g4 g5
    unfold Bar
    obtain ⟨B, hB⟩ : ∃ B, w2.heap.size = B := ⟨_, rfl⟩
    rw [hB] at HT
    rw [hB]
    clear hB
    obtain ⟨e0, e1, e2, e3, e4, e5, f0, f1, f2, f3, f4, f5⟩ := HS3.out.x.facts
    go_wp2
    refine bodyPost_ret (v := .tuple #[.agg #[.int .i64 3, .int .u64 0, .int .u64 0, .int .u64 0, .int .u64 0, .slice (some ⟨B, 0, none⟩) 1 1], .bool true]) ?_ rfl ?_
    · simp only [results, hres]
      go_simp
    exact read_yes _ _ _ _ _ _ hbN H.out HS3.out.r HS3.out.o HT.out
  have HR1 : Hid ((if isAt s.data.toList k1 43 then (true, .op 4 [n], k1 + 1) else if isAt s.data.toList k1 63 then (true, .op 5 [n], k1 + 1) else (true, n, k1)) = R) := Lib.hid HR.out
  clear HR
  obtain ⟨t2, ht2⟩ : ∃ t, isAt s.data.toList k1 43 = t := ⟨_, rfl⟩
  have C2 := Lib.hid (CT.out 43 k1 _ HP1.out.a.r hle)
  unfold TakePost at C2
  have hR := HR1.out
  rw [ht2] at C2 hR
  have HR := Lib.hid hR
  clear ht2 hR HR1
  go_wp2_with fail
  refine C2.out.mono ?_
  rintro e w3 ⟨rfl, hr2, ho2⟩
  have HP2 := Lib.hid (HP1.out.on hbN hM hr2 ho2)
  clear hr2 ho2 HP1 C2
  cases t2
  case true =>
    have H : Hid (R = (true, .op 4 [n], k1 + 1)) := Lib.hid (by rw [← HR.out]; rfl)
    clear HR CT
    obtain ⟨g0, g1, g2, g3, g4, g5, -⟩ := HP2.out.mm.facts
    go_wp2_with (with_reducible refine bar_at 26 rfl fun Wy hWy => ?_)
    have HS3 : Hid (AtSt w Wy b s (k1 + 1)) := Lib.hid (by rw [← hWy]; exact HP2.out.a.gr ((Gr.refl _).alloc _ _))
    have hm := bx_new w3 (.int .i64 kk) (.int .u64 u0) (.int .u64 u1) (.int .u64 u2) (.int .u64 u3) (.slice A m c)
    rw [hWy] at hm
    have HT : Hid (TreeSt w Wy (.op 4 [n]) _) := Lib.hid (one_part (j := 4) (w := w) (by rw [← hWy]; exact HP2.out.t.gr ((Gr.refl w3).alloc _ _)) hm HP2.out.a.x.lt)
    clear hWy hm HP2 g0 g1 g2 g3 g4 g5
    unfold Bar
    obtain ⟨B, hB⟩ : ∃ B, w3.heap.size = B := ⟨_, rfl⟩
    rw [hB] at HT
    rw [hB]
    clear hB
    obtain ⟨e0, e1, e2, e3, e4, e5, f0, f1, f2, f3, f4, f5⟩ := HS3.out.x.facts
    go_wp2
    refine bodyPost_ret (v := .tuple #[.agg #[.int .i64 4, .int .u64 0, .int .u64 0, .int .u64 0, .int .u64 0, .slice (some ⟨B, 0, none⟩) 1 1], .bool true]) ?_ rfl ?_
    · simp only [results, hres]
      go_simp
    exact read_yes _ _ _ _ _ _ hbN H.out HS3.out.r HS3.out.o HT.out
  have HR1 : Hid ((if isAt s.data.toList k1 63 then (true, .op 5 [n], k1 + 1) else (true, n, k1)) = R) := Lib.hid HR.out
  clear HR
  obtain ⟨t3, ht3⟩ : ∃ t, isAt s.data.toList k1 63 = t := ⟨_, rfl⟩
  have C3 := Lib.hid (CT.out 63 k1 _ HP2.out.a.r hle)
  unfold TakePost at C3
  have hR := HR1.out
  rw [ht3] at C3 hR
  have HR := Lib.hid hR
  clear ht3 hR HR1
  go_wp2_with fail
  refine C3.out.mono ?_
  rintro e w4 ⟨rfl, hr2, ho2⟩
  have HP3 := Lib.hid (HP2.out.on hbN hM hr2 ho2)
  clear hr2 ho2 HP2 C3
  cases t3
  case true =>
    have H : Hid (R = (true, .op 5 [n], k1 + 1)) := Lib.hid (by rw [← HR.out]; rfl)
    clear HR CT
    obtain ⟨g0, g1, g2, g3, g4, g5, -⟩ := HP3.out.mm.facts
    go_wp2_with (with_reducible refine bar_at 32 rfl fun Wy hWy => ?_)
    have HS3 : Hid (AtSt w Wy b s (k1 + 1)) := Lib.hid (by rw [← hWy]; exact HP3.out.a.gr ((Gr.refl _).alloc _ _))
    have hm := bx_new w4 (.int .i64 kk) (.int .u64 u0) (.int .u64 u1) (.int .u64 u2) (.int .u64 u3) (.slice A m c)
    rw [hWy] at hm
    have HT : Hid (TreeSt w Wy (.op 5 [n]) _) := Lib.hid (one_part (j := 5) (w := w) (by rw [← hWy]; exact HP3.out.t.gr ((Gr.refl w4).alloc _ _)) hm HP3.out.a.x.lt)
    clear hWy hm HP3 g0 g1 g2 g3 g4 g5
    unfold Bar
    obtain ⟨B, hB⟩ : ∃ B, w4.heap.size = B := ⟨_, rfl⟩
    rw [hB] at HT
    rw [hB]
    clear hB
    obtain ⟨e0, e1, e2, e3, e4, e5, f0, f1, f2, f3, f4, f5⟩ := HS3.out.x.facts
    go_wp2
    refine bodyPost_ret (v := .tuple #[.agg #[.int .i64 5, .int .u64 0, .int .u64 0, .int .u64 0, .int .u64 0, .slice (some ⟨B, 0, none⟩) 1 1], .bool true]) ?_ rfl ?_
    · simp only [results, hres]
      go_simp
    exact read_yes _ _ _ _ _ _ hbN H.out HS3.out.r HS3.out.o HT.out
  have H : Hid (R = (true, n, k1)) := Lib.hid (by rw [← HR.out]; rfl)
  clear HR CT
  obtain ⟨g0, g1, g2, g3, g4, g5, -⟩ := HP3.out.mm.facts
  obtain ⟨e0, e1, e2, e3, e4, e5, f0, f1, f2, f3, f4, f5⟩ := HP3.out.a.x.facts
  go_wp2
  refine bodyPost_ret (v := .tuple #[.agg #[.int .i64 kk, .int .u64 u0, .int .u64 u1, .int .u64 u2, .int .u64 u3, .slice A m c], .bool true]) ?_ rfl ?_
  · simp only [results, hres]
    go_simp
  exact read_yes _ _ _ _ _ _ hbN H.out HP3.out.a.r HP3.out.a.o HP3.out.t
end Go.Proofs.YtikaamonmaohjaaGreatDoor
namespace Go.Proofs.YtikaamonmaohjaaGreatDoor
open Go.RowKit
set_option maxRecDepth 100000
set_option maxHeartbeats 1000000

def BrLe (s : List UInt8) (br : Nat → Bool × Nd × Nat) : Prop := ∀ k, k ≤ s.length → (br k).2.2 ≤ s.length ∧ k ≤ (br k).2.2
theorem isAt_len {s : List UInt8} {k : Nat} {c : UInt8} (h : isAt s k c = true) : k < s.length := (List.getElem?_eq_some_iff.1 (of_decide_eq_true h)).1
theorem setF_le {s : List UInt8} : ∀ (f k : Nat) (p : Nat → Bool), k ≤ s.length → (setF s f k p).2.2 ≤ s.length ∧ k ≤ (setF s f k p).2.2
  | 0, k, p, h => ⟨h, Nat.le_refl _⟩
  | f + 1, k, p, h => by
    rw [setF_s]
    cases h1 : isAt s k 93
    · have hi := itemS_le h
      have hlow : k ≤ (itemS s k).2.2.2 := by
        have h3 := letterS_le s sbL sqL k h
        unfold itemS
        obtain ⟨r, hr⟩ : ∃ r, letterS s sbL sqL k = r := ⟨_, rfl⟩
        rw [hr] at h3 ⊢
        obtain ⟨ok, c, k1⟩ := r
        simp only at h3 ⊢
        cases ok
        · exact h3.2
        simp only [if_true]
        cases ht : isAt s k1 45
        · exact h3.2
        have hk1 := isAt_len ht
        have h4 := letterS_le s sbL sqL (k1 + 1) (by omega)
        simp only [if_true]
        obtain ⟨q, hq⟩ : ∃ q, letterS s sbL sqL (k1 + 1) = q := ⟨_, rfl⟩
        rw [hq] at h4 ⊢
        obtain ⟨ok2, c2, k2⟩ := q
        simp only at h4 ⊢
        cases ok2
        · show k ≤ k2; omega
        simp only [if_true]
        split
        · show k ≤ k1 + 1; omega
        · show k ≤ k2; omega
      obtain ⟨r, hr⟩ : ∃ r, itemS s k = r := ⟨_, rfl⟩
      rw [hr] at hi hlow ⊢
      obtain ⟨ok, c, d, k1⟩ := r
      simp only at hi hlow ⊢
      cases ok
      · exact ⟨hi.1, hlow⟩
      · have := setF_le f k1 (fun x => p x || inR c.toNat d.toNat x) hi.1
        exact ⟨this.1, Nat.le_trans hlow this.2⟩
    · have := isAt_len h1
      exact ⟨by show k + 1 ≤ _; omega, by show k ≤ k + 1; omega⟩
theorem setS_le {s : List UInt8} {k : Nat} (h : k ≤ s.length) : (setS s k).2.2 ≤ s.length ∧ k ≤ (setS s k).2.2 := by
  unfold setS
  obtain ⟨k1, hk1, h1, h2⟩ : ∃ k1, (if isAt s k 94 then k + 1 else k) = k1 ∧ k1 ≤ s.length ∧ k ≤ k1 := by
    cases e : isAt s k 94
    · exact ⟨k, rfl, h, Nat.le_refl _⟩
    · exact ⟨k + 1, rfl, isAt_len e, by omega⟩
  simp only [hk1]
  have hi := setF_le 1 k1 (fun _ => false) h1
  rw [setF_s] at hi
  have h3 := itemS_le h1
  have hlow : k1 ≤ (itemS s k1).2.2.2 := by
    cases e : isAt s k1 93
    · rw [e] at hi
      cases e2 : (itemS s k1).1
      · rw [e2] at hi; exact hi.2
      · exact Nat.le_of_lt (h3.2 e2)
    · cases e2 : (itemS s k1).1
      · have h3' := letterS_le s sbL sqL k1 h1
        have : isAt s k1 92 = false := by
          unfold isAt at e ⊢
          have := of_decide_eq_true e
          rw [this]; rfl
        have hs : s[k1]? = some 93 := of_decide_eq_true e
        unfold itemS letterS
        simp [this, hs, amongB, sbL]
      · exact Nat.le_of_lt (h3.2 e2)
  cases e : (itemS s k1).1
  · simp only [Bool.false_eq_true, if_false]
    exact ⟨h3.1, by omega⟩
  · simp only [if_true]
    have := setF_le (s.length + 1) (itemS s k1).2.2.2 (fun x => false || inR (itemS s k1).2.1.toNat (itemS s k1).2.2.1.toNat x) h3.1
    exact ⟨this.1, by omega⟩
theorem atomS_le {s : List UInt8} {br : Nat → Bool × Nd × Nat} {k : Nat} (hb : BrLe s br) (h : k ≤ s.length) : (atomS s br k).2.2 ≤ s.length ∧ k ≤ (atomS s br k).2.2 ∧ ((atomS s br k).1 = true → k < (atomS s br k).2.2) := by
  unfold atomS
  cases h1 : isAt s k 46
  · cases h2 : isAt s k 40
    · cases h3 : isAt s k 91
      · have hl := letterS_le s spL bsL k h
        have ho := letter_on (s := s) (a := spL) (b := bsL) (k := k)
        simp only [Bool.false_eq_true, if_false]
        cases e : (letterS s spL bsL k).1
        · exact ⟨hl.1, hl.2, fun e => by cases e⟩
        · exact ⟨hl.1, hl.2, fun _ => ho e⟩
      · have hk := isAt_len h3
        have := setS_le (s := s) (k := k + 1) (by omega)
        simp only [Bool.false_eq_true, if_false, if_true]
        exact ⟨this.1, by omega, fun _ => by omega⟩
    · have hk := isAt_len h2
      have hb1 := hb (k + 1) (by omega)
      simp only [Bool.false_eq_true, if_false, if_true]
      cases e : (br (k + 1)).1
      · simp only [Bool.false_eq_true, if_false]
        exact ⟨hb1.1, by omega, fun e => by cases e⟩
      · simp only [if_true]
        cases e2 : isAt s (br (k + 1)).2.2 41
        · simp only [Bool.false_eq_true, if_false]
          exact ⟨hb1.1, by omega, fun e => by cases e⟩
        · have := isAt_len e2
          simp only [if_true]
          exact ⟨by omega, by omega, fun _ => by omega⟩
  · have := isAt_len h1
    simp only [if_true]
    exact ⟨by omega, by omega, fun _ => by omega⟩
theorem pieceS_le {s : List UInt8} {br : Nat → Bool × Nd × Nat} {k : Nat} (hb : BrLe s br) (h : k ≤ s.length) : (pieceS s br k).2.2 ≤ s.length ∧ k ≤ (pieceS s br k).2.2 ∧ ((pieceS s br k).1 = true → k < (pieceS s br k).2.2) := by
  have ha := atomS_le hb h
  unfold pieceS
  obtain ⟨r, hr⟩ : ∃ r, atomS s br k = r := ⟨_, rfl⟩
  rw [hr] at ha ⊢
  obtain ⟨ok, n, k1⟩ := r
  simp only at ha ⊢
  cases ok
  · exact ⟨ha.1, ha.2.1, fun e => by cases e⟩
  have h2 := ha.2.2 rfl
  simp only [if_true]
  cases e1 : isAt s k1 42
  · cases e2 : isAt s k1 43
    · cases e3 : isAt s k1 63
      · exact ⟨ha.1, ha.2.1, fun _ => h2⟩
      · have := isAt_len e3
        exact ⟨by show k1 + 1 ≤ _; omega, by show k ≤ k1 + 1; omega, fun _ => by show k < k1 + 1; omega⟩
    · have := isAt_len e2
      exact ⟨by show k1 + 1 ≤ _; omega, by show k ≤ k1 + 1; omega, fun _ => by show k < k1 + 1; omega⟩
  · have := isAt_len e1
    exact ⟨by show k1 + 1 ≤ _; omega, by show k ≤ k1 + 1; omega, fun _ => by show k < k1 + 1; omega⟩
theorem piecesF_le {s : List UInt8} {br : Nat → Bool × Nd × Nat} (hb : BrLe s br) : ∀ (f k : Nat) (acc : List Nd), k ≤ s.length → (piecesF s br f k acc).2.2 ≤ s.length ∧ k ≤ (piecesF s br f k acc).2.2
  | 0, k, acc, h => ⟨h, Nat.le_refl _⟩
  | f + 1, k, acc, h => by
    have hp := pieceS_le hb h
    unfold piecesF
    cases e : goesOn s k
    · exact ⟨h, Nat.le_refl _⟩
    · simp only [if_true]
      cases e2 : (pieceS s br k).1
      · exact ⟨hp.1, hp.2.1⟩
      · simp only [if_true]
        have := piecesF_le hb f (pieceS s br k).2.2 (acc ++ [(pieceS s br k).2.1]) hp.1
        exact ⟨this.1, by omega⟩
theorem altF_le {s : List UInt8} {br : Nat → Bool × Nd × Nat} (hb : BrLe s br) : ∀ (f k : Nat) (acc : List Nd), k ≤ s.length → (altF s br f k acc).2.2 ≤ s.length ∧ k ≤ (altF s br f k acc).2.2
  | 0, k, acc, h => ⟨h, Nat.le_refl _⟩
  | f + 1, k, acc, h => by
    have hp := piecesF_le hb (s.length + 1) k [] h
    unfold altF
    simp only
    cases e : (piecesF s br (s.length + 1) k []).1
    · exact hp
    · simp only [if_true]
      cases e2 : isAt s (piecesF s br (s.length + 1) k []).2.2 124
      · exact hp
      · have := isAt_len e2
        simp only [if_true]
        have := altF_le hb f ((piecesF s br (s.length + 1) k []).2.2 + 1) (acc ++ [.op 1 (piecesF s br (s.length + 1) k []).2.1]) (by omega)
        exact ⟨this.1, by omega⟩
theorem patS_le (s : List UInt8) : ∀ d, BrLe s (patS s d)
  | 0 => fun _ h => ⟨h, Nat.le_refl _⟩
  | d + 1 => fun k h => altF_le (patS_le s d) (s.length + 1) k [] h
end Go.Proofs.YtikaamonmaohjaaGreatDoor
namespace Go.Proofs.YtikaamonmaohjaaGreatDoor
open Go.RowKit
set_option maxRecDepth 100000
set_option maxHeartbeats 1000000

theorem OwnN.keep {W W' : World} {B : Nat} {v : Value} {l : List Nd} (h : OwnN W B v l) (hs : W.heap.size ≤ W'.heap.size) (g : ∀ c, B ≤ c → c < W.heap.size → W'.heap[c]? = W.heap[c]?) : OwnN W' B v l := by
  obtain ⟨X, vs, h1, h2, h3, h4⟩ := h
  refine ⟨X, vs, h1, ⟨h2.1, ?_⟩, fun i n x e1 e2 => NodeV.same (fun c hc hlt => g c (h4 c hc).1 hlt) _ _ (h3 i n x e1 e2), fun c hc => ⟨(h4 c hc).1, by have := (h4 c hc).2.1; omega, (h4 c hc).2.2⟩⟩
  rcases h2.2 with e | ⟨gg, cap, cur, e1, e2, e3, e4⟩
  · exact .inl e
  · refine .inr ⟨gg, cap, cur, e1, e2, ?_, e4⟩
    rw [g gg e2 (by
      rcases Nat.lt_or_ge gg W.heap.size with e | e
      · exact e
      · rw [Array.getElem?_eq_none e] at e3; cases e3)]
    exact e3
theorem OwnN.own_ge {W : World} {B : Nat} {v : Value} {l : List Nd} (h : OwnN W B v l) : ∀ k, v.ownBlock = some k → B ≤ k ∧ k < W.heap.size := by
  obtain ⟨X, vs, h1, h2, h3, h4⟩ := h
  exact h2.lt
theorem OwnN.mono {W : World} {B B' : Nat} {v : Value} {l : List Nd} (h : OwnN W B v l) (hB : B' ≤ B) : OwnN W B' v l := by
  obtain ⟨X, vs, h1, h2, h3, h4⟩ := h
  refine ⟨X, vs, h1, ⟨h2.1, ?_⟩, h3, fun b hb => ⟨by have := (h4 b hb).1; omega, (h4 b hb).2⟩⟩
  rcases h2.2 with e | ⟨g, cap, cur, e1, e2, e3⟩
  · exact .inl e
  · exact .inr ⟨g, cap, cur, e1, by omega, e3⟩
theorem OwnN.form {W : World} {B : Nat} {v : Value} {l : List Nd} (h : OwnN W B v l) : ∃ (A : Option Addr) (m c : Nat), v = .slice A m c := by
  obtain ⟨X, vs, h1, h2, h3, h4⟩ := h
  rcases h2.2 with ⟨e, -⟩ | ⟨g, cap, cur, e, -⟩
  · exact ⟨none, 0, 0, e⟩
  · exact ⟨_, _, _, e⟩
/-- the row as the parts of a pattern -/
theorem OwnN.node {W : World} {B : Nat} {v : Value} {l : List Nd} (h : OwnN W B v l) (k : Nat) : ∃ X : Nat → Prop, (∀ c, X c → B ≤ c ∧ c < W.heap.size) ∧ NodeV W X (.op k l) (.agg #[.int .i64 k, .int .u64 0, .int .u64 0, .int .u64 0, .int .u64 0, v]) := by
  have hge := h.own_ge
  obtain ⟨X, vs, h1, h2, h3, h4⟩ := h
  rcases h2.2 with ⟨e, el⟩ | ⟨g, cap, cur, e1, e2, e3, e4, e5, e6⟩
  · refine ⟨X, fun c hc => ⟨(h4 c hc).1, (h4 c hc).2.1⟩, ?_⟩
    unfold NodeV
    exact ⟨none, 0, by rw [e, el]; rfl, by omega, by unfold maxLen; omega, fun h => by omega⟩
  · subst e1
    have hg := hge g rfl
    refine ⟨fun c => X c ∨ c = g, fun c hc => hc.elim (fun hc => ⟨(h4 c hc).1, (h4 c hc).2.1⟩) (fun e => by subst e; exact hg), ?_⟩
    unfold NodeV
    refine ⟨some ⟨g, 0, none⟩, cap, rfl, e4, e5, fun _ => ⟨g, rfl, Or.inr rfl, ?_⟩⟩
    refine NodesFrom.of l 0 fun j n hj => ?_
    have hjl : j < vs.length := by rw [h1]; exact (List.getElem?_eq_some_iff.1 hj).1
    have hx : vs[j]? = some vs[j] := List.getElem?_eq_getElem hjl
    refine ⟨vs[j], fun i => ?_, NodeV.mono (fun c hc => Or.inl hc) _ _ (h3 j n _ hj hx)⟩
    have hadd : ∀ j, (⟨g, 0, none⟩ : Addr).add j = ⟨g, j, none⟩ := fun j => by unfold Addr.add; split <;> simp_all
    have := h2.cells (g := g) rfl (j * 6 + i.val) (vs[j] i) (cells6_get vs j _ i hx)
    rw [hadd] at this
    rw [Nat.zero_add]
    exact this
/-- an append to a row of blocks made since -/
theorem Only.grown {w W W' : World} {b : Nat} {row : Option Nat} (h : Only w W b) (g : W.grownBy W' row) (hr : ∀ k, row = some k → w.heap.size ≤ k) : Only w W' b :=
  ⟨g.os.trans h.os, g.tape.trans h.tape, g.output.trans h.output, Nat.le_trans h.size g.size, fun i hi hne => (g.block i (Nat.lt_of_lt_of_le hi h.size) (fun e => by have := hr i e.symm; omega)).trans (h.block i hi hne)⟩
theorem Only.setFar {w W : World} {b P : Nat} (h : Only w W b) (hP : w.heap.size ≤ P) {o : Nat} (v : Value) : Only w (W.setCell ⟨P, o, none⟩ v) b :=
  ⟨h.os, h.tape, h.output, by simpa [World.setCell] using h.size, fun i hi hne => (Below.heap_setCell W _ _ i (by show i ≠ P; omega)).trans (h.block i hi hne)⟩
theorem AtSt.grown {w W W' : World} {b k : Nat} {s : ByteArray} {row : Option Nat} (h : AtSt w W b s k) (hb : b < w.heap.size) (g : W.grownBy W' row) (hr : ∀ k, row = some k → w.heap.size < k) : AtSt w W' b s k :=
  ⟨(g.block b h.r.lt (fun e => by have := hr b e.symm; omega)).trans h.r, h.o.grown g (fun k e => by have := hr k e; omega), (g.block _ h.x.lt (fun e => by have := hr _ e.symm; omega)).trans h.x⟩
theorem Bx.grown {W W' : World} {N : Nat} {a0 a1 a2 a3 a4 a5 : Value} {row : Option Nat} (h : Bx W N a0 a1 a2 a3 a4 a5) (g : W.grownBy W' row) (hr : row ≠ some N) : Bx W' N a0 a1 a2 a3 a4 a5 := (g.block _ h.lt (fun e => hr e.symm)).trans h
end Go.Proofs.YtikaamonmaohjaaGreatDoor
namespace Go.Proofs.YtikaamonmaohjaaGreatDoor
open Go.RowKit
set_option maxRecDepth 100000
set_option maxHeartbeats 4000000

theorem piecesF_s (s : List UInt8) (br : Nat → Bool × Nd × Nat) (f k : Nat) (acc : List Nd) : piecesF s br (f + 1) k acc = if goesOn s k then (if (pieceS s br k).1 then piecesF s br f (pieceS s br k).2.2 (acc ++ [(pieceS s br k).2.1]) else (false, [], (pieceS s br k).2.2)) else (true, acc, k) := rfl
/-- on the way: the result's block, the node P that gathers parts behind it -/
structure PsSt (w W : World) (b : Nat) (s : ByteArray) (k P j : Nat) (v : Value) (acc : List Nd) : Prop where
  a : AtSt w W b s k
  p : Bx W P (.int .i64 j) (.int .u64 0) (.int .u64 0) (.int .u64 0) (.int .u64 0) v
  l : OwnN W (P + 1) v acc
theorem PsSt.gr {w W W' : World} {b k P j : Nat} {s : ByteArray} {v : Value} {acc : List Nd} (h : PsSt w W b s k P j v acc) (g : Gr W W') : PsSt w W' b s k P j v acc :=
  ⟨h.a.gr g, h.p.gr g, h.l.keep g.size (fun c _ hlt => g.b.block c hlt)⟩
theorem PsSt.on {w W W' : World} {b k k' P j : Nat} {s : ByteArray} {v : Value} {acc : List Nd} (h : PsSt w W b s k P j v acc) (hb : b < w.heap.size) (hP : w.heap.size < P) (r : Rd W' b s k') (o : Only W W' b) : PsSt w W' b s k' P j v acc :=
  ⟨h.a.on hb r o, h.p.only o (by omega), h.l.keep o.size (fun c hc hlt => o.blk hlt (by omega))⟩
theorem PsSt.start {w W : World} {b k j : Nat} {s : ByteArray} (h : AtSt w W b s k) : PsSt w (W.alloc (.cells #[.int .i64 j, .int .u64 0, .int .u64 0, .int .u64 0, .int .u64 0, .slice none 0 0] 150)) b s k W.heap.size j (.slice none 0 0) [] :=
  ⟨h.gr ((Gr.refl W).alloc _ _), bx_new W _ _ _ _ _ _, OwnN.nil _ _⟩
def sixF (a0 a1 a2 a3 a4 a5 : Value) : Fin 6 → Value := fun j => match j with | 0 => a0 | 1 => a1 | 2 => a2 | 3 => a3 | 4 => a4 | 5 => a5
theorem Bx.sixAt {W : World} {G : Nat} {a0 a1 a2 a3 a4 a5 : Value} (h : Bx W G a0 a1 a2 a3 a4 a5) : sixAt W G 0 (sixF a0 a1 a2 a3 a4 a5) := by
  obtain ⟨e0, e1, e2, e3, e4, e5, -⟩ := h.facts
  intro i
  match i with
  | 0 => exact e0
  | 1 => exact e1
  | 2 => exact e2
  | 3 => exact e3
  | 4 => exact e4
  | 5 => exact e5
/-- a part is appended -/
theorem PsSt.app {w W0 W1 W : World} {b k P j : Nat} {s : ByteArray} {v : Value} {acc : List Nd} {n : Nd} {a0 a1 a2 a3 a4 a5 : Value} {G : Nat} (h : PsSt w W b s k P j v acc) (hb : b < w.heap.size) (hP : w.heap.size < P) (hG : Bx W G a0 a1 a2 a3 a4 a5)
    (hv : ∀ g, v.ownBlock = some g → g < W0.heap.size) (hP0 : P < W0.heap.size) (hn : NewN W0 W1 n (.agg #[a0, a1, a2, a3, a4, a5])) (h12 : W1.heap.size ≤ W.heap.size) (hsame : ∀ c, W0.heap.size ≤ c → c < W1.heap.size → W.heap[c]? = W1.heap[c]?) (hl : acc.length ≤ 1000000) :
    ∃ v' W', (Builtin.append_ #[148, 148] 148 #[v, .slice (some ⟨G, 0, none⟩) 1 1]).run Tryz.prog W = .ok v' W' ∧ Bx W' P (.int .i64 j) (.int .u64 0) (.int .u64 0) (.int .u64 0) (.int .u64 0) v ∧ PsSt w (W'.setCell ⟨P, 5, none⟩ v') b s k P j v' (acc ++ [n]) := by
  obtain ⟨X, hX, hnd⟩ := hn
  obtain ⟨v', W', hrun, hown, hgrow⟩ := run_appN (n := n) (X := X) (g := G) (c := 1) (x := sixF a0 a1 a2 a3 a4 a5) h.l hG.sixAt (NodeV.same (fun c hc hlt => hsame c (hX c hc).1 (hX c hc).2) _ _ hnd) (fun c hc => ⟨by have := (hX c hc).1; omega, by have := (hX c hc).2; omega, fun e => by have := hv c e; have := (hX c hc).1; omega⟩) hl h.p.lt
  have hrow : ∀ k, v.ownBlock = some k → P + 1 ≤ k := fun k e => (h.l.own_ge k e).1
  have hp' : Bx W' P (.int .i64 j) (.int .u64 0) (.int .u64 0) (.int .u64 0) (.int .u64 0) v := h.p.grown hgrow (fun e => by have := hrow _ e; omega)
  have ha' := h.a.grown hb hgrow (fun k e => by have := hrow k e; omega)
  refine ⟨v', W', hrun, hp', ⟨⟨?_, ha'.o.setFar (by omega) _, ha'.x.set_other (by omega)⟩, hp'.last v', hown.keep (by simp [World.setCell]) (fun c hc hlt => Below.heap_setCell W' _ _ c (by show c ≠ P; omega))⟩⟩
  exact (Below.heap_setCell W' _ _ b (by show b ≠ P; omega)).trans ha'.r
theorem PsSt.done {w W : World} {b k P j : Nat} {s : ByteArray} {v : Value} {acc : List Nd} (h : PsSt w W b s k P j v acc) (hP : w.heap.size < P) : TreeSt w W (.op j acc) (.agg #[.int .i64 j, .int .u64 0, .int .u64 0, .int .u64 0, .int .u64 0, v]) := by
  obtain ⟨X, hX, hn⟩ := h.l.node j
  exact ⟨X, fun c hc => ⟨by have := (hX c hc).1; omega, (hX c hc).2⟩, hn⟩
theorem goesOn_cases (s : ByteArray) (k : Nat) (hk : k ≤ s.size) : (k = s.size ∧ goesOn s.data.toList k = false) ∨ (∃ h : k < s.size, (s[k].toNat = 124 ∨ s[k].toNat = 41) ∧ goesOn s.data.toList k = false) ∨ (∃ h : k < s.size, s[k].toNat ≠ 124 ∧ s[k].toNat ≠ 41 ∧ goesOn s.data.toList k = true) := by
  unfold goesOn
  by_cases hlt : k < s.size
  · have hg : s.data.toList[k]? = some s[k] := by rw [List.getElem?_eq_getElem (by simpa using hlt)]; rfl
    have t : ∀ c : UInt8, isAt s.data.toList k c = decide (s[k].toNat = c.toNat) := fun c => by
      unfold isAt
      rw [hg]
      simp [UInt8.toNat_inj]
    rw [t, t]
    have hl : decide (k < s.data.toList.length) = true := by simpa using hlt
    rw [hl]
    have e1 : (124 : UInt8).toNat = 124 := rfl
    have e2 : (41 : UInt8).toNat = 41 := rfl
    rw [e1, e2]
    by_cases h1 : s[k].toNat = 124
    · exact .inr (.inl ⟨hlt, .inl h1, by simp [h1]⟩)
    · by_cases h2 : s[k].toNat = 41
      · exact .inr (.inl ⟨hlt, .inr h2, by simp [h2]⟩)
      · exact .inr (.inr ⟨hlt, h1, h2, by simp [h1, h2]⟩)
  · refine .inl ⟨by omega, ?_⟩
    have hl : decide (k < s.data.toList.length) = false := by simpa using hlt
    rw [hl]
    rfl
theorem pieces_any (b k : Nat) (s : ByteArray) (br : Nat → Bool × Nd × Nat) (w : World) (h : Rd w b s k) (hk : k ≤ s.size) (hs : s.size ≤ 1000000) (hbr : BrLe s.data.toList br) (hp : ∀ j, k < j → j ≤ s.size → PatAt b s br j) :
    Calls Tryz.prog 131 #[.pointer (some ⟨b, 0, none⟩)] w (ReadPost b s ((piecesF s.data.toList br (s.size + 1) k []).1, .op 1 (piecesF s.data.toList br (s.size + 1) k []).2.1, (piecesF s.data.toList br (s.size + 1) k []).2.2) w) := by
  have hlen : s.data.toList.length = s.size := by simp
  have hbN := h.lt
  have hres : Tryz.f131.results = #[.cell 2 150, .tmp 3] := by kernel_rfl
  have CP := Lib.hid (fun (j : Nat) W (h : Rd W b s j) (hkj : k ≤ j) (hj : j < s.size) => piece_any b j s br W h (by omega) hs (fun _ => ⟨hp (j + 1) (by omega) (by omega), by have := (hbr (j + 1) (by simp; omega)).1; simpa using this⟩) (by have := (atomS_le hbr (k := j) (by simp; omega)).1; simpa using this))
  have HBR := Lib.hid (fun (j : Nat) (hj : j ≤ s.size) => show (pieceS s.data.toList br j).2.2 ≤ s.size ∧ ((pieceS s.data.toList br j).1 = true → j < (pieceS s.data.toList br j).2.2) by
    have := pieceS_le hbr (k := j) (by simp; omega)
    exact ⟨by simpa using this.1, this.2.2⟩)
  have HS := Lib.hid (PsSt.start (j := 1) (AtSt.start h))
  obtain ⟨Q, hQ⟩ : ∃ Q, piecesF s.data.toList br (s.size + 1) k [] = Q := ⟨_, rfl⟩
  rw [hQ]
  have HQ := Lib.hid hQ
  obtain ⟨P, hP⟩ : ∃ P, (w.alloc (.cells #[.int .i64 0, .int .u64 0, .int .u64 0, .int .u64 0, .int .u64 0, .slice none 0 0] 150)).heap.size = P := ⟨_, rfl⟩
  have hPw : P = w.heap.size + 1 := by rw [← hP]; simp
  rw [hP] at HS
  clear hQ hp h hlen hbr hP
  subst hPw
  go_enter Tryz.func131, Tryz.ntmps131
  go_wp2
  go_loopg [] (s.size + 1) (fun g wx => ∃ (j : Nat) (v : Value) (acc : List Nd), k ≤ j ∧ j ≤ s.size ∧ s.size + 1 ≤ j + g ∧ acc.length ≤ j ∧ Hid (PsSt w wx b s j (w.heap.size + 1) 1 v acc) ∧ Hid (piecesF s.data.toList br g j acc = Q))
  case atStart => exact ⟨k, _, [], Nat.le_refl _, hk, by omega, by simp, HS, HQ⟩
  case round =>
    clear HS HQ
    obtain ⟨j, v, acc, hkj, hj, hf, hacc, HS, HF⟩ := hrel
    cases gk with
    | zero => omega
    | succ f =>
      have hF := HF.out
      rw [piecesF_s] at hF
      obtain ⟨c0, c1, f0, f1⟩ := HS.out.a.r.facts
      obtain ⟨A, m, c, rfl⟩ := HS.out.l.form
      rcases goesOn_cases s j hj with ⟨rfl, hg⟩ | ⟨hlt, hor, hg⟩ | ⟨hlt, h1, h2, hg⟩
      · rw [hg] at hF
        have H : Hid (Q = (true, acc, s.size)) := Lib.hid hF.symm
        clear hF HF hg CP HBR
        obtain ⟨e0, e1, e2, e3, e4, e5, f0', f1', f2', f3', f4', f5'⟩ := HS.out.a.x.facts
        obtain ⟨g0, g1, g2, g3, g4, g5, -⟩ := HS.out.p.facts
        go_wp2_with fail
        go_quiet (fail)
        go_wp2
        refine bodyPost_ret (v := .tuple #[.agg #[.int .i64 1, .int .u64 0, .int .u64 0, .int .u64 0, .int .u64 0, .slice A m c], .bool true]) ?_ rfl ?_
        · simp only [results, hres]
          go_simp
        have HS2 := HS.out.gr ((Gr.refl wr).drewN nq)
        exact read_yes _ _ _ _ _ _ hbN (by rw [H.out]) HS2.a.r HS2.a.o (HS2.done (by omega))
      · rw [hg] at hF
        have H : Hid (Q = (true, acc, j)) := Lib.hid hF.symm
        clear hF HF hg CP HBR
        have n3 : (j : Int) < (s.size : Int) := by omega
        obtain ⟨e0, e1, e2, e3, e4, e5, f0', f1', f2', f3', f4', f5'⟩ := HS.out.a.x.facts
        obtain ⟨g0, g1, g2, g3, g4, g5, -⟩ := HS.out.p.facts
        rcases hor with h1 | h1
        · go_wp2_with fail
          go_quiet (fail)
          go_wp2
          refine bodyPost_ret (v := .tuple #[.agg #[.int .i64 1, .int .u64 0, .int .u64 0, .int .u64 0, .int .u64 0, .slice A m c], .bool true]) ?_ rfl ?_
          · simp only [results, hres]
            go_simp
          have HS2 := HS.out.gr ((Gr.refl wr).drewN nq)
          exact read_yes _ _ _ _ _ _ hbN (by rw [H.out]) HS2.a.r HS2.a.o (HS2.done (by omega))
        · go_wp2_with fail
          go_quiet (fail)
          go_wp2
          refine bodyPost_ret (v := .tuple #[.agg #[.int .i64 1, .int .u64 0, .int .u64 0, .int .u64 0, .int .u64 0, .slice A m c], .bool true]) ?_ rfl ?_
          · simp only [results, hres]
            go_simp
          have HS2 := HS.out.gr ((Gr.refl wr).drewN nq)
          exact read_yes _ _ _ _ _ _ hbN (by rw [H.out]) HS2.a.r HS2.a.o (HS2.done (by omega))
      · rw [hg, if_pos rfl] at hF
        have n3 : (j : Int) < (s.size : Int) := by omega
        have hle := HBR.out j hj
        have C1 := Lib.hid (fun W h => CP.out j W h hkj hlt)
        obtain ⟨q, hq⟩ : ∃ q, pieceS s.data.toList br j = q := ⟨_, rfl⟩
        rw [hq] at hF C1 hle
        have HF2 := Lib.hid hF
        clear hF HF hg CP hq
        obtain ⟨ok, n, j'⟩ := q
        simp only at hle
        have b1 : ((s[j].toNat : Int) != 124) = true := by simp; omega
        have b2 : ((s[j].toNat : Int) != 41) = true := by simp; omega
        have b3 : ¬ s[j].toNat = 124 := h1
        have b4 : ¬ s[j].toNat = 41 := h2
        clear h1 h2
        go_wp2_with fail
        go_quiet (fail)
        have HS1 : Hid (PsSt w (wr.drewN nq) b s j (w.heap.size + 1) 1 (.slice A m c) acc) := Lib.hid (HS.out.gr ((Gr.refl wr).drewN nq))
        clear HS c0 c1 f0 f1
        obtain ⟨W0, hW0⟩ : ∃ W0, wr.drewN nq = W0 := ⟨_, rfl⟩
        rw [hW0] at HS1
        go_wp2_with fail
        clear hW0
        refine (C1.out _ HS1.out.a.r).mono ?_
        rintro e w1 ⟨hr1, ho1, v1, rfl, hv, hv0⟩
        obtain ⟨kk, u0, u1, u2, u3, m1, cc1, A1, rfl⟩ := read_form hv hv0
        have HS2 : Hid (PsSt w w1 b s j' (w.heap.size + 1) 1 (.slice A m c) acc) := Lib.hid (HS1.out.on hbN (by omega) hr1 ho1)
        have HV := Lib.hid hv
        have hown : ∀ g, (Value.slice A m c).ownBlock = some g → g < W0.heap.size := fun g e => (HS1.out.l.own_ge g e).2
        have hP0 := HS1.out.p.lt
        have hsz := ho1.size
        have HOW := Lib.hid hown
        clear hr1 ho1 hv hv0 C1 HS1 hown
        simp only
        go_wp2_with (with_reducible first | refine bar_at 47 rfl fun Wx hWx => ?_ | refine bar_at 48 rfl fun Wx hWx => ?_)
        have HS3 : Hid (PsSt w Wx b s j' (w.heap.size + 1) 1 (.slice A m c) acc) := Lib.hid (by rw [← hWx]; exact HS2.out.gr ((Gr.refl w1).alloc _ _))
        have hm := bx_new w1 (.int .i64 kk) (.int .u64 u0) (.int .u64 u1) (.int .u64 u2) (.int .u64 u3) (.slice A1 m1 cc1)
        rw [hWx] at hm
        have HM := Lib.hid hm
        have hg1 : Gr w1 Wx := by rw [← hWx]; exact (Gr.refl w1).alloc _ _
        have HG1 := Lib.hid hg1
        clear hWx hm hg1 HS2
        unfold Bar
        obtain ⟨M, hM⟩ : ∃ M, w1.heap.size = M := ⟨_, rfl⟩
        rw [hM] at HM
        rw [hM]
        clear hM
        cases ok
        · have H : Hid (Q = (false, [], j')) := Lib.hid HF2.out.symm
          clear HF2 HV HM HG1 HOW HBR
          obtain ⟨e0, e1, e2, e3, e4, e5, f0', f1', f2', f3', f4', f5'⟩ := HS3.out.a.x.facts
          go_wp2
          refine bodyPost_ret (v := .tuple #[zeroN, .bool false]) ?_ rfl ?_
          · simp only [results, hres]
            go_simp
            rfl
          exact HS3.out.a.no _ _ _ _ _ _ hbN (by rw [H.out])
        · have HF3 : Hid (piecesF s.data.toList br f j' (acc ++ [n]) = Q) := Lib.hid HF2.out
          have hjj := hle.2 rfl
          clear HF2 HBR
          obtain ⟨e0, e1, e2, e3, e4, e5, -⟩ := HM.out.facts
          obtain ⟨g0, g1, g2, g3, g4, g5, -⟩ := HS3.out.p.facts
          go_wp2_with (with_reducible refine bar_at 54 rfl fun Wy hWy => ?_)
          have HS4 : Hid (PsSt w Wy b s j' (w.heap.size + 1) 1 (.slice A m c) acc) := Lib.hid (by rw [← hWy]; exact HS3.out.gr ((Gr.refl Wx).alloc _ _))
          have hm2 := bx_new Wx (.int .i64 kk) (.int .u64 u0) (.int .u64 u1) (.int .u64 u2) (.int .u64 u3) (.slice A1 m1 cc1)
          rw [hWy] at hm2
          have hg2 : Gr Wx Wy := by rw [← hWy]; exact (Gr.refl Wx).alloc _ _
          obtain ⟨v', W', hrun, hbx, hps⟩ := HS4.out.app hbN (by omega) hm2 HOW.out hP0 (HV.out (by simp)) (HG1.out.trans hg2).size (fun c _ hlt => (HG1.out.trans hg2).b.block c hlt) (by omega)
          obtain ⟨A2, m2, c2, rfl⟩ := hps.l.form
          have HRUN := Lib.hid hrun
          have HPS := Lib.hid hps
          obtain ⟨-, -, -, -, -, h5, -, -, -, -, -, k5⟩ := hbx.facts
          clear hrun hps hbx hm2 hg2 hWy HS3 HS4 HV HM HG1 HOW e0 e1 e2 e3 e4 e5 g0 g1 g2 g3 g4 g5
          unfold Bar
          refine Lib.wpList_append_run _ rfl _ _ _ _ rfl _ _ rfl rfl _ _ HRUN.out ?_
          go_wp2
          go_roundg f
          case measure => omega
          case rel => exact ⟨j', _, acc ++ [n], by omega, hle.1, by omega, by simp; omega, HPS, HF3⟩
end Go.Proofs.YtikaamonmaohjaaGreatDoor
namespace Go.Proofs.YtikaamonmaohjaaGreatDoor
open Go.RowKit
set_option maxRecDepth 100000
set_option maxHeartbeats 4000000

theorem altF_s (s : List UInt8) (br : Nat → Bool × Nd × Nat) (f k : Nat) (acc : List Nd) : altF s br (f + 1) k acc = if (piecesF s br (s.length + 1) k []).1 then (if isAt s (piecesF s br (s.length + 1) k []).2.2 124 then altF s br f ((piecesF s br (s.length + 1) k []).2.2 + 1) (acc ++ [.op 1 (piecesF s br (s.length + 1) k []).2.1]) else (true, acc ++ [.op 1 (piecesF s br (s.length + 1) k []).2.1], (piecesF s br (s.length + 1) k []).2.2)) else (false, [], (piecesF s br (s.length + 1) k []).2.2) := rfl
theorem pattern_step (b k : Nat) (s : ByteArray) (br : Nat → Bool × Nd × Nat) (hk : k ≤ s.size) (hs : s.size ≤ 1000000) (hbr : BrLe s.data.toList br) (hp : ∀ j, k < j → j ≤ s.size → PatAt b s br j) (w : World) (h : Rd w b s k) :
    Calls Tryz.prog 122 #[.pointer (some ⟨b, 0, none⟩)] w (ReadPost b s ((altF s.data.toList br (s.size + 1) k []).1, .op 2 (altF s.data.toList br (s.size + 1) k []).2.1, (altF s.data.toList br (s.size + 1) k []).2.2) w) := by
  have hlen : s.data.toList.length = s.size := by simp
  have hbN := h.lt
  have hres : Tryz.f122.results = #[.cell 2 150, .tmp 3] := by kernel_rfl
  have CP := Lib.hid (fun (j : Nat) W (h : Rd W b s j) (hkj : k ≤ j) (hj : j ≤ s.size) => pieces_any b j s br W h hj hs hbr (fun i hi hi2 => hp i (by omega) hi2))
  have CT := Lib.hid (fun (k : Nat) W (h : Rd W b s k) (hk : k ≤ s.size) => take_any b s k 124 W h hk hs)
  have HBR := Lib.hid (fun (j : Nat) (hj : j ≤ s.size) => show (piecesF s.data.toList br (s.size + 1) j []).2.2 ≤ s.size ∧ j ≤ (piecesF s.data.toList br (s.size + 1) j []).2.2 by
    have := piecesF_le hbr (s.size + 1) j [] (by simp; omega)
    exact ⟨by simpa using this.1, this.2⟩)
  have HS := Lib.hid (PsSt.start (j := 2) (AtSt.start h))
  obtain ⟨Q, hQ⟩ : ∃ Q, altF s.data.toList br (s.size + 1) k [] = Q := ⟨_, rfl⟩
  rw [hQ]
  have HQ := Lib.hid hQ
  obtain ⟨P, hP⟩ : ∃ P, (w.alloc (.cells #[.int .i64 0, .int .u64 0, .int .u64 0, .int .u64 0, .int .u64 0, .slice none 0 0] 150)).heap.size = P := ⟨_, rfl⟩
  have hPw : P = w.heap.size + 1 := by rw [← hP]; simp
  rw [hP] at HS
  have HLEN := Lib.hid hlen
  clear hQ hp h hlen hbr hP
  subst hPw
  go_enter Tryz.func122, Tryz.ntmps122
  go_wp2
  go_loopg [] (s.size + 1) (fun g wx => ∃ (j : Nat) (v : Value) (acc : List Nd), k ≤ j ∧ j ≤ s.size ∧ s.size + 1 ≤ j + g ∧ acc.length ≤ j ∧ Hid (PsSt w wx b s j (w.heap.size + 1) 2 v acc) ∧ Hid (altF s.data.toList br g j acc = Q))
  case atStart => exact ⟨k, _, [], Nat.le_refl _, hk, by omega, by simp, HS, HQ⟩
  case round =>
    clear HS HQ
    obtain ⟨j, v, acc, hkj, hj, hf, hacc, HS, HF⟩ := hrel
    cases gk with
    | zero => omega
    | succ f =>
      have hF := HF.out
      rw [altF_s, HLEN.out] at hF
      obtain ⟨A, m, c, rfl⟩ := HS.out.l.form
      have hle := HBR.out j hj
      have C1 := Lib.hid (fun W h => CP.out j W h hkj hj)
      obtain ⟨q, hq⟩ : ∃ q, piecesF s.data.toList br (s.size + 1) j [] = q := ⟨_, rfl⟩
      rw [hq] at hF C1 hle
      have HF2 := Lib.hid hF
      clear hF HF CP hq HBR
      obtain ⟨ok, ns, j'⟩ := q
      simp only at hle
      go_wp2_with fail
      refine (C1.out _ HS.out.a.r).mono ?_
      rintro e w1 ⟨hr1, ho1, v1, rfl, hv, hv0⟩
      obtain ⟨kk, u0, u1, u2, u3, m1, cc1, A1, rfl⟩ := read_form hv hv0
      have HS2 : Hid (PsSt w w1 b s j' (w.heap.size + 1) 2 (.slice A m c) acc) := Lib.hid (HS.out.on hbN (by omega) hr1 ho1)
      have HV := Lib.hid hv
      have hown : ∀ g, (Value.slice A m c).ownBlock = some g → g < wr.heap.size := fun g e => (HS.out.l.own_ge g e).2
      have hP0 := HS.out.p.lt
      have hsz := ho1.size
      have HOW := Lib.hid hown
      clear hr1 ho1 hv hv0 C1 HS hown
      simp only
      go_wp2_with (with_reducible first | refine bar_at 13 rfl fun Wx hWx => ?_ | refine bar_at 14 rfl fun Wx hWx => ?_)
      have HS3 : Hid (PsSt w Wx b s j' (w.heap.size + 1) 2 (.slice A m c) acc) := Lib.hid (by rw [← hWx]; exact HS2.out.gr ((Gr.refl w1).alloc _ _))
      have hm := bx_new w1 (.int .i64 kk) (.int .u64 u0) (.int .u64 u1) (.int .u64 u2) (.int .u64 u3) (.slice A1 m1 cc1)
      rw [hWx] at hm
      have HM := Lib.hid hm
      have hg1 : Gr w1 Wx := by rw [← hWx]; exact (Gr.refl w1).alloc _ _
      have HG1 := Lib.hid hg1
      clear hWx hm hg1 HS2
      unfold Bar
      obtain ⟨M, hM⟩ : ∃ M, w1.heap.size = M := ⟨_, rfl⟩
      rw [hM] at HM
      rw [hM]
      clear hM
      cases ok
      · have H : Hid (Q = (false, [], j')) := Lib.hid HF2.out.symm
        clear HF2 HV HM HG1 HOW CT
        obtain ⟨e0, e1, e2, e3, e4, e5, f0', f1', f2', f3', f4', f5'⟩ := HS3.out.a.x.facts
        go_wp2
        refine bodyPost_ret (v := .tuple #[zeroN, .bool false]) ?_ rfl ?_
        · simp only [results, hres]
          go_simp
          rfl
        exact HS3.out.a.no _ _ _ _ _ _ hbN (by rw [H.out])
      · obtain ⟨t, ht⟩ : ∃ t, isAt s.data.toList j' 124 = t := ⟨_, rfl⟩
        have htl : t = true → j' < s.size := fun e => isAt_lt (ht.trans e)
        have HF3 : Hid ((if t then altF s.data.toList br f (j' + 1) (acc ++ [.op 1 ns]) else (true, acc ++ [.op 1 ns], j')) = Q) := Lib.hid (by rw [← ht]; exact HF2.out)
        have HTT := Lib.hid ht
        clear HF2 ht
        obtain ⟨e0, e1, e2, e3, e4, e5, -⟩ := HM.out.facts
        obtain ⟨g0, g1, g2, g3, g4, g5, -⟩ := HS3.out.p.facts
        go_wp2_with (with_reducible refine bar_at 20 rfl fun Wy hWy => ?_)
        have HS4 : Hid (PsSt w Wy b s j' (w.heap.size + 1) 2 (.slice A m c) acc) := Lib.hid (by rw [← hWy]; exact HS3.out.gr ((Gr.refl Wx).alloc _ _))
        have hm2 := bx_new Wx (.int .i64 kk) (.int .u64 u0) (.int .u64 u1) (.int .u64 u2) (.int .u64 u3) (.slice A1 m1 cc1)
        rw [hWy] at hm2
        have hg2 : Gr Wx Wy := by rw [← hWy]; exact (Gr.refl Wx).alloc _ _
        obtain ⟨v', W', hrun, hbx, hps⟩ := HS4.out.app hbN (by omega) hm2 HOW.out hP0 (HV.out (by simp)) (HG1.out.trans hg2).size (fun c _ hlt => (HG1.out.trans hg2).b.block c hlt) (by omega)
        obtain ⟨A2, m2, c2, rfl⟩ := hps.l.form
        have HRUN := Lib.hid hrun
        have HPS := Lib.hid hps
        obtain ⟨-, -, -, -, -, h5, -, -, -, -, -, k5⟩ := hbx.facts
        clear hrun hps hbx hm2 hg2 hWy HS3 HS4 HV HM HG1 HOW e0 e1 e2 e3 e4 e5 g0 g1 g2 g3 g4 g5
        unfold Bar
        refine Lib.wpList_append_run _ rfl _ _ _ _ rfl _ _ rfl rfl _ _ HRUN.out ?_
        have C2 := Lib.hid (CT.out j' _ HPS.out.a.r hle.1)
        unfold TakePost at C2
        rw [HTT.out] at C2
        clear HTT CT HRUN
        cases t
        · have H : Hid (Q = (true, acc ++ [.op 1 ns], j')) := Lib.hid HF3.out.symm
          clear HF3
          go_wp2_with fail
          refine C2.out.mono ?_
          rintro e w3 ⟨rfl, hr3, ho3⟩
          have HS5 : Hid (PsSt w w3 b s j' (w.heap.size + 1) 2 _ _) := Lib.hid (HPS.out.on hbN (by omega) hr3 ho3)
          clear hr3 ho3 C2 HPS h5 k5
          obtain ⟨e0, e1, e2, e3, e4, e5, f0, f1, f2, f3, f4, f5⟩ := HS5.out.a.x.facts
          obtain ⟨g0, g1, g2, g3, g4, g5, -⟩ := HS5.out.p.facts
          go_wp2
          refine bodyPost_ret (v := .tuple #[.agg #[.int .i64 2, .int .u64 0, .int .u64 0, .int .u64 0, .int .u64 0, .slice A2 m2 c2], .bool true]) ?_ rfl ?_
          · simp only [results, hres]
            go_simp
          exact read_yes _ _ _ _ _ _ hbN (by rw [H.out]) HS5.out.a.r HS5.out.a.o (HS5.out.done (by omega))
        · have htl2 := htl rfl
          have HF4 : Hid (altF s.data.toList br f (j' + 1) (acc ++ [.op 1 ns]) = Q) := Lib.hid HF3.out
          clear HF3
          go_wp2_with fail
          refine C2.out.mono ?_
          rintro e w3 ⟨rfl, hr3, ho3⟩
          have HS5 : Hid (PsSt w w3 b s (j' + 1) (w.heap.size + 1) 2 _ _) := Lib.hid (HPS.out.on hbN (by omega) hr3 ho3)
          clear hr3 ho3 C2 HPS h5 k5
          go_wp2
          go_roundg f
          case measure => omega
          case rel => exact ⟨j' + 1, _, acc ++ [.op 1 ns], by omega, by omega, by omega, by simp; omega, HS5, HF4⟩
theorem pattern_any (b : Nat) (s : ByteArray) (hs : s.size ≤ 1000000) : ∀ (d k : Nat), k ≤ s.size → s.size < k + d → PatAt b s (patS s.data.toList d) k
  | 0, k, hk, hd => by omega
  | d + 1, k, hk, hd => fun W h => by
    have := pattern_step b k s (patS s.data.toList d) hk hs (patS_le _ d) (fun j hj hj2 => pattern_any b s hs d j hj2 (by omega)) W h
    have hlen : s.data.toList.length = s.size := by simp
    unfold patS
    rw [hlen]
    exact this
end Go.Proofs.YtikaamonmaohjaaGreatDoor
namespace Go.Proofs.YtikaamonmaohjaaGreatDoor
open Go.RowKit
set_option maxRecDepth 100000
set_option maxHeartbeats 2000000

/-- the first bracket that stands too deep -/
def tdS : List UInt8 → Nat → Nat → Bool → Option Nat
  | [], _, _, _ => none
  | c :: r, k, d, i =>
    if c = 92 then
      match r with
      | [] => none
      | _ :: r' => tdS r' (k + 2) d i
    else if i then tdS r (k + 1) d (decide (c ≠ 93))
    else if c = 91 then tdS r (k + 1) d true
    else if c = 40 then (if d = 40 then some k else tdS r (k + 1) (d + 1) i)
    else if c = 41 then tdS r (k + 1) (d - 1) i
    else tdS r (k + 1) d i
theorem tdS_nil {s : List UInt8} {k : Nat} (h : s.length ≤ k) (d : Nat) (i : Bool) : tdS (s.drop k) k d i = none := by rw [List.drop_of_length_le h]; rfl
theorem tdS_step {s : List UInt8} {k : Nat} (h : k < s.length) (d : Nat) (i : Bool) : tdS (s.drop k) k d i =
    (if s[k] = 92 then tdS (s.drop (k + 2)) (k + 2) d i
    else if i then tdS (s.drop (k + 1)) (k + 1) d (decide (s[k] ≠ 93))
    else if s[k] = 91 then tdS (s.drop (k + 1)) (k + 1) d true
    else if s[k] = 40 then (if d = 40 then some k else tdS (s.drop (k + 1)) (k + 1) (d + 1) i)
    else if s[k] = 41 then tdS (s.drop (k + 1)) (k + 1) (d - 1) i
    else tdS (s.drop (k + 1)) (k + 1) d i) := by
  rw [List.drop_eq_getElem_cons h]
  conv => lhs; unfold tdS
  by_cases e : s[k] = 92
  · rw [if_pos e, if_pos e]
    rcases Nat.lt_or_ge (k + 1) s.length with h2 | h2
    · rw [List.drop_eq_getElem_cons h2]
    · rw [List.drop_of_length_le h2, List.drop_of_length_le (by omega : s.length ≤ k + 2)]
      simp [tdS]
  · rw [if_neg e, if_neg e]
def tdV : Option Nat → Value
  | some k => .tuple #[.int .i64 k, .bool true]
  | none => .tuple #[.int .i64 0, .bool false]
theorem tooDeep_any (s : ByteArray) (w : World) (hs : s.size ≤ 1000000) :
    Calls Tryz.prog 121 #[.string s] w fun e w' => e = .returned (tdV (tdS s.data.toList 0 0 false)) ∧ Gr w w' := by
  have hlen : s.data.toList.length = s.size := by simp
  have HL := Lib.hid hlen
  clear hlen
  go_enter Tryz.func121, Tryz.ntmps121
  go_wp2
  go_loopw [4, 5, 6] (fun vd vi va wr => ∃ (d k : Nat) (i : Bool), vd = .int .i64 d ∧ vi = .bool i ∧ va = .int .i64 k ∧ d ≤ 40 ∧ k ≤ s.size + 1 ∧ Hid (tdS s.data.toList 0 0 false = tdS (s.data.toList.drop k) k d i) ∧ Gr w wr) (fun _ _ va _ => s.size + 1 - (intOf va).toNat)
  case atStart => exact ⟨0, 0, false, rfl, rfl, rfl, by omega, by omega, rfl, Gr.refl _⟩
  case round =>
    obtain ⟨d, k, i, rfl, rfl, rfl, hd, hk, HS, hg⟩ := hrel
    by_cases hlt : k < s.size
    · have hst := tdS_step (s := s.data.toList) (k := k) (by rw [HL.out]; exact hlt) d i
      have ge : s.data.toList[k]'(by rw [HL.out]; exact hlt) = s[k] := rfl
      rw [ge] at hst
      obtain ⟨c, hc⟩ : ∃ c, s[k] = c := ⟨_, rfl⟩
      have hcn : s[k].toNat = c.toNat := by rw [hc]
      rw [hc] at hst
      obtain ⟨m, hm⟩ : ∃ m, c.toNat = m := ⟨_, rfl⟩
      have hcm : ∀ x : UInt8, (c = x) ↔ m = x.toNat := fun x => by rw [← hm]; exact UInt8.toNat_inj.symm
      simp only [hcm, ne_eq, show UInt8.toNat 92 = 92 from rfl, show UInt8.toNat 93 = 93 from rfl, show UInt8.toNat 91 = 91 from rfl, show UInt8.toNat 40 = 40 from rfl, show UInt8.toNat 41 = 41 from rfl] at hst
      have n3 : (k : Int) < (s.size : Int) := by omega
      have HST := Lib.hid hst
      rw [hm] at hcn
      clear hst hc hm hcm ge c
      by_cases e92 : m = 92
      · subst e92
        have H : Hid (tdS s.data.toList 0 0 false = tdS (s.data.toList.drop (k + 2)) (k + 2) d i) := Lib.hid (by rw [HS.out, HST.out]; rfl)
        go_wp2
        go_roundw
        case rel => exact ⟨d, k + 2, i, rfl, rfl, by go_num, hd, by omega, H, hg⟩
        case measure => simp [intOf]; omega
      cases i
      case true =>
        have H : Hid (tdS s.data.toList 0 0 false = tdS (s.data.toList.drop (k + 1)) (k + 1) d (decide (¬ m = 93))) := Lib.hid (by rw [HS.out, HST.out, if_neg e92]; rfl)
        by_cases e93 : m = 93
        · subst e93
          go_wp2
          go_roundw
          case rel => exact ⟨d, k + 1, false, rfl, rfl, by go_num, hd, by omega, H, hg⟩
          case measure => simp [intOf]; omega
        · have d1 : ((m : Int) != 93) = true := by simp; omega
          have d2 : ((m : Int) == 92) = false := by simp; omega
          rw [decide_eq_true e93] at H
          go_wp2
          go_roundw
          case rel => exact ⟨d, k + 1, true, rfl, by first | rfl | simp [*], by go_num, hd, by omega, H, hg⟩
          case measure => simp [intOf]; omega
      have d2 : ((m : Int) == 92) = false := by simp; omega
      by_cases e91 : m = 91
      · subst e91
        have H : Hid (tdS s.data.toList 0 0 false = tdS (s.data.toList.drop (k + 1)) (k + 1) d true) := Lib.hid (by rw [HS.out, HST.out]; rfl)
        go_wp2
        go_roundw
        case rel => exact ⟨d, k + 1, true, rfl, rfl, by go_num, hd, by omega, H, hg⟩
        case measure => simp [intOf]; omega
      have d3 : ((m : Int) == 91) = false := by simp; omega
      by_cases e40 : m = 40
      · subst e40
        by_cases ed : d = 40
        · subst ed
          have H : Hid (tdS s.data.toList 0 0 false = some k) := Lib.hid (by rw [HS.out, HST.out]; rfl)
          go_wp2
          go_ret2
          exact ⟨by rw [H.out]; rfl, hg⟩
        · have H : Hid (tdS s.data.toList 0 0 false = tdS (s.data.toList.drop (k + 1)) (k + 1) (d + 1) false) := Lib.hid (by rw [HS.out, HST.out, if_neg e92, if_neg (by simp), if_neg e91, if_pos rfl, if_neg ed])
          have d4 : ((d : Int) == 40) = false := by simp; omega
          go_wp2
          go_roundw
          case rel => exact ⟨d + 1, k + 1, false, by go_num, rfl, by go_num, by omega, by omega, H, hg⟩
          case measure => simp [intOf]; omega
      have d5 : ((m : Int) == 40) = false := by simp; omega
      by_cases e41 : m = 41
      · subst e41
        have H : Hid (tdS s.data.toList 0 0 false = tdS (s.data.toList.drop (k + 1)) (k + 1) (d - 1) false) := Lib.hid (by rw [HS.out, HST.out]; rfl)
        have hmx : max ((d : Int) - 1) 0 = ((d - 1 : Nat) : Int) := by omega
        go_wp2
        go_roundw
        case rel => exact ⟨d - 1, k + 1, false, by first | go_num | (rw [hmx]) | (simp; omega), rfl, by go_num, by omega, by omega, H, hg⟩
        case measure => simp [intOf]; omega
      · have d6 : ((m : Int) == 41) = false := by simp; omega
        have H : Hid (tdS s.data.toList 0 0 false = tdS (s.data.toList.drop (k + 1)) (k + 1) d false) := Lib.hid (by rw [HS.out, HST.out, if_neg e92, if_neg (by simp), if_neg e91, if_neg e40, if_neg e41])
        go_wp2
        go_roundw
        case rel => exact ⟨d, k + 1, false, rfl, rfl, by go_num, hd, by omega, H, hg⟩
        case measure => simp [intOf]; omega
    · have H : Hid (tdS s.data.toList 0 0 false = none) := Lib.hid (by rw [HS.out, tdS_nil (by rw [HL.out]; omega)])
      have n4 : ¬ (k : Int) < (s.size : Int) := by omega
      go_wp2
      go_ret2
      exact ⟨by rw [H.out]; rfl, hg⟩
end Go.Proofs.YtikaamonmaohjaaGreatDoor
namespace Go.Proofs.YtikaamonmaohjaaGreatDoor
open Go.RowKit
set_option maxRecDepth 100000
set_option maxHeartbeats 1000000

def mx (L : Nat) : Nat := (L + 2) * (L + 2) + 1
theorem mx_pos (L : Nat) : 2 * L + 5 ≤ mx L := by
  unfold mx
  have : (L + 2) * 2 ≤ (L + 2) * (L + 2) := Nat.mul_le_mul (Nat.le_refl _) (by omega)
  omega
theorem mx_of {L a b : Nat} (ha : a ≤ L) (hb : b ≤ L) : (a + 1) * (b + 1) + 1 ≤ mx L := by
  unfold mx
  have : (a + 1) * (b + 1) ≤ (L + 2) * (L + 2) := Nat.mul_le_mul (by omega) (by omega)
  omega
/-- read from k to k', of a text of L bytes -/
structure TreeOk (L k k' : Nat) (n : Nd) (more : Nat) : Prop where
  w : Wf n
  t : wt n + k ≤ k'
  b : bd n ≤ (k' - k + more) * mx L
structure ListOk (L k k' : Nat) (l : List Nd) (bars more : Nat) : Prop where
  w : WfL l
  t : wts l + bars + k ≤ k'
  b : bdm l ≤ (k' - k + more) * mx L
theorem WfL.snoc {l : List Nd} {n : Nd} (h : WfL l) (g : Wf n) : WfL (l ++ [n]) := by
  induction l with
  | nil => unfold WfL; exact ⟨g, by unfold WfL; trivial⟩
  | cons m r ih =>
    rw [List.cons_append]
    unfold WfL at h ⊢
    exact ⟨h.1, ih h.2⟩
theorem wts_snoc (l : List Nd) (n : Nd) : wts (l ++ [n]) = wts l + wt n := by
  induction l with
  | nil => simp [wts]
  | cons m r ih => rw [List.cons_append]; unfold wts; rw [ih]; omega
theorem bdm_snoc (l : List Nd) (n : Nd) : bdm (l ++ [n]) = max (bdm l) (bd n) := by
  induction l with
  | nil => simp [bdm]
  | cons m r ih => rw [List.cons_append]; unfold bdm; rw [ih]; omega
theorem mul_mono {a b m x : Nat} (h : x ≤ a * m) (hab : a ≤ b) : x ≤ b * m := Nat.le_trans h (Nat.mul_le_mul hab (Nat.le_refl _))
theorem mx_one {L a b : Nat} (h : a = b + 1) : a * mx L = b * mx L + mx L := by rw [h, Nat.add_mul, Nat.one_mul]
theorem one_ok {L k k' : Nat} (p : Nat → Bool) (h : k < k') : TreeOk L k k' (.one p) 0 := by
  refine ⟨by unfold Wf; trivial, by unfold wt; omega, ?_⟩
  have := mx_pos L
  unfold bd
  exact mul_mono (a := 1) (by omega) (by omega)
/-- a repeated one -/
theorem rep_ok {L k k' : Nat} {n : Nd} (j : Nat) (hj : j = 3 ∨ j = 4 ∨ j = 5) (h : TreeOk L k k' n 0) (hL : k' ≤ L) (hk : k < k') : TreeOk L k (k' + 1) (.op j [n]) 0 := by
  have ht := h.t
  have hb := h.b
  refine ⟨by unfold Wf WfL WfL; exact ⟨⟨h.w, trivial⟩, .inr (.inr ⟨hj, rfl⟩)⟩, ?_, ?_⟩
  · unfold wt wts wts
    rw [if_neg (by omega), if_neg (by omega)]
    omega
  · unfold bd wts wts bdm bdm
    have h1 := mx_of (L := L) (a := 1) (b := wt n + 0) (by omega) (by omega)
    simp only [List.length_cons, List.length_nil]
    have h2 : (k' + 1 - k + 0) * mx L = (k' - k + 0) * mx L + mx L := mx_one (by omega)
    rw [h2]
    simp only [Nat.zero_add] at h1 ⊢
    omega
theorem turn_ok {L k k' : Nat} {l : List Nd} (h : ListOk L k k' l 0 0) (hl : l.length + k ≤ k') (hL : k' ≤ L) : TreeOk L k k' (.op 1 l) 1 := by
  have ht := h.t
  have hb := h.b
  refine ⟨by unfold Wf; exact ⟨h.w, .inl rfl⟩, by unfold wt; rw [if_pos rfl]; omega, ?_⟩
  unfold bd
  have h1 := mx_of (L := L) (a := l.length) (b := wts l) (by omega) (by omega)
  rw [mx_one (L := L) (a := k' - k + 1) (b := k' - k + 0) (by omega)]
  omega
theorem alt_ok {L k k' : Nat} {l : List Nd} {m : Nat} (h : ListOk L k k' l (l.length - 1) 1) (h0 : l ≠ []) (hL : k' ≤ L) (hm : l.length ≤ L + 1) (hl : m = 2) : TreeOk L k k' (.op 2 l) m := by
  subst hl
  have ht := h.t
  have hb := h.b
  refine ⟨by unfold Wf; exact ⟨h.w, .inr (.inl ⟨rfl, h0⟩)⟩, by unfold wt; rw [if_neg (by omega), if_pos rfl]; omega, ?_⟩
  unfold bd
  have h1 : (l.length + 1) * (wts l + 1) + 1 ≤ mx L := by
    unfold mx
    have : (l.length + 1) * (wts l + 1) ≤ (L + 2) * (L + 2) := Nat.mul_le_mul (by omega) (by omega)
    omega
  rw [mx_one (L := L) (a := k' - k + 2) (b := k' - k + 1) (by omega)]
  omega
def BrOk (s : List UInt8) (br : Nat → Bool × Nd × Nat) : Prop := ∀ k, k ≤ s.length → (br k).1 = true → TreeOk s.length k (br k).2.2 (br k).2.1 2
theorem atom_ok {s : List UInt8} {br : Nat → Bool × Nd × Nat} {k : Nat} (hb : BrLe s br) (ho : BrOk s br) (hk : k ≤ s.length) (h : (atomS s br k).1 = true) : TreeOk s.length k (atomS s br k).2.2 (atomS s br k).2.1 0 := by
  have hle := atomS_le hb hk
  unfold atomS at h hle ⊢
  cases h1 : isAt s k 46
  · cases h2 : isAt s k 40
    · cases h3 : isAt s k 91
      · simp only [h1, h2, h3, Bool.false_eq_true, if_false] at h hle ⊢
        cases e : (letterS s spL bsL k).1
        · rw [e] at h; simp at h
        · rw [e] at hle
          simp only [if_true] at hle ⊢
          exact one_ok _ (hle.2.2 trivial)
      · simp only [h1, h2, h3, Bool.false_eq_true, if_false, if_true] at h hle ⊢
        exact one_ok _ (hle.2.2 h)
    · simp only [h1, h2, Bool.false_eq_true, if_false, if_true] at h hle ⊢
      cases e : (br (k + 1)).1
      · rw [e] at h; simp at h
      · rw [e] at h hle
        simp only [if_true] at h hle ⊢
        cases e2 : isAt s (br (k + 1)).2.2 41
        · rw [e2] at h; simp at h
        · have hk1 := isAt_len h2
          have hbk := hb (k + 1) (by omega)
          have o := ho (k + 1) (by omega) e
          have ht := o.t
          have hbb := o.b
          simp only [if_true]
          refine ⟨o.w, by omega, ?_⟩
          exact mul_mono hbb (by omega)
  · simp only [h1, if_true] at h hle ⊢
    exact one_ok _ (by omega)
theorem piece_ok {s : List UInt8} {br : Nat → Bool × Nd × Nat} {k : Nat} (hb : BrLe s br) (ho : BrOk s br) (hk : k ≤ s.length) (h : (pieceS s br k).1 = true) : TreeOk s.length k (pieceS s br k).2.2 (pieceS s br k).2.1 0 := by
  have ha := atomS_le hb hk
  have oa := atom_ok hb ho hk
  unfold pieceS at h ⊢
  obtain ⟨r, hr⟩ : ∃ r, atomS s br k = r := ⟨_, rfl⟩
  rw [hr] at ha oa h ⊢
  obtain ⟨ok, n, k1⟩ := r
  simp only at ha oa h ⊢
  cases ok
  · simp at h
  have o := oa rfl
  have hlt := ha.2.2 rfl
  simp only [if_true]
  cases e1 : isAt s k1 42
  · cases e2 : isAt s k1 43
    · cases e3 : isAt s k1 63
      · exact o
      · exact rep_ok 5 (.inr (.inr rfl)) o ha.1 hlt
    · exact rep_ok 4 (.inr (.inl rfl)) o ha.1 hlt
  · exact rep_ok 3 (.inl rfl) o ha.1 hlt
theorem pieces_ok {s : List UInt8} {br : Nat → Bool × Nd × Nat} (hb : BrLe s br) (ho : BrOk s br) (k0 : Nat) : ∀ (f k : Nat) (acc : List Nd), k ≤ s.length → ListOk s.length k0 k acc 0 0 → acc.length + k0 ≤ k → (piecesF s br f k acc).1 = true →
    ListOk s.length k0 (piecesF s br f k acc).2.2 (piecesF s br f k acc).2.1 0 0 ∧ (piecesF s br f k acc).2.1.length + k0 ≤ (piecesF s br f k acc).2.2
  | 0, k, acc, hk, h, hl, e => by simp [piecesF] at e
  | f + 1, k, acc, hk, h, hl, e => by
    have hp := pieceS_le hb hk
    have op := piece_ok hb ho hk
    unfold piecesF at e ⊢
    cases e1 : goesOn s k
    · exact ⟨h, hl⟩
    · rw [e1] at e
      simp only [if_true] at e ⊢
      cases e2 : (pieceS s br k).1
      · rw [e2] at e; simp at e
      · rw [e2] at e
        simp only [if_true] at e ⊢
        have o := op e2
        have hlt := hp.2.2 e2
        refine pieces_ok hb ho k0 f _ _ hp.1 ?_ (by simp; omega) e
        have h1 := h.t
        have h2 := o.t
        have h3 := h.b
        have h4 := o.b
        refine ⟨h.w.snoc o.w, by rw [wts_snoc]; omega, ?_⟩
        rw [bdm_snoc]
        have a1 := mul_mono h3 (b := (pieceS s br k).2.2 - k0 + 0) (by omega)
        have a2 := mul_mono h4 (b := (pieceS s br k).2.2 - k0 + 0) (by omega)
        omega
theorem alts_ok {s : List UInt8} {br : Nat → Bool × Nd × Nat} (hb : BrLe s br) (ho : BrOk s br) (k0 : Nat) : ∀ (f k : Nat) (acc : List Nd), k0 ≤ k → k ≤ s.length → ListOk s.length k0 k acc acc.length 1 → (altF s br f k acc).1 = true →
    TreeOk s.length k0 (altF s br f k acc).2.2 (.op 2 (altF s br f k acc).2.1) 2
  | 0, k, acc, h0, hk, h, e => by simp [altF] at e
  | f + 1, k, acc, h0, hk, h, e => by
    have hp := piecesF_le hb (s.length + 1) k [] hk
    have op := pieces_ok hb ho k (s.length + 1) k [] hk ⟨by unfold WfL; trivial, by simp [wts], by simp [bdm]⟩ (by simp)
    unfold altF at e ⊢
    simp only at e ⊢
    obtain ⟨r, hr⟩ : ∃ r, piecesF s br (s.length + 1) k [] = r := ⟨_, rfl⟩
    rw [hr] at hp op e ⊢
    obtain ⟨ok, ps, k1⟩ := r
    simp only at hp op e ⊢
    cases ok
    · simp at e
    obtain ⟨o1, o2⟩ := op rfl
    have o := turn_ok o1 o2 hp.1
    have h1 := h.t
    have h2 := o.t
    have h3 := h.b
    have h4 := o.b
    have a1 := mul_mono h3 (b := k1 - k0 + 1) (by omega)
    have a2 := mul_mono h4 (b := k1 - k0 + 1) (by omega)
    simp only [if_true] at e ⊢
    cases e2 : isAt s k1 124
    · simp only [e2, Bool.false_eq_true, if_false] at e ⊢
      refine alt_ok ⟨h.w.snoc o.w, by rw [wts_snoc]; simp; omega, by rw [bdm_snoc]; omega⟩ (by simp) hp.1 (by simp; omega) rfl
    · have hk1 := isAt_len e2
      simp only [e2, if_true] at e ⊢
      have a3 := mul_mono a1 (b := k1 + 1 - k0 + 1) (by omega)
      have a4 := mul_mono a2 (b := k1 + 1 - k0 + 1) (by omega)
      exact alts_ok hb ho k0 f (k1 + 1) _ (by omega) (by omega) ⟨h.w.snoc o.w, by rw [wts_snoc]; simp; omega, by rw [bdm_snoc]; omega⟩ e
theorem pat_ok (s : List UInt8) : ∀ d, BrOk s (patS s d)
  | 0 => fun k hk h => by simp [patS] at h
  | d + 1 => fun k hk h => alts_ok (patS_le s d) (pat_ok s d) k (s.length + 1) k [] (Nat.le_refl _) hk ⟨by unfold WfL; trivial, by simp [wts], by simp [bdm]⟩ h
/-- a pattern of no more than 4096 bytes may be built -/
theorem pat_room {s : List UInt8} {d k : Nat} (hs : s.length ≤ 4096) (hk : k ≤ s.length) (h : (patS s d k).1 = true) : Wf (patS s d k).2.1 ∧ 1 + bd (patS s d k).2.1 ≤ 1000000000000 := by
  have o := pat_ok s d k hk h
  have hle := (patS_le s d k hk).1
  refine ⟨o.w, ?_⟩
  have h1 := o.b
  have h2 : mx s.length ≤ 4098 * 4098 + 1 := by
    unfold mx
    have : (s.length + 2) * (s.length + 2) ≤ 4098 * 4098 := Nat.mul_le_mul (by omega) (by omega)
    omega
  have h3 : ((patS s d k).2.2 - k + 2) * mx s.length ≤ 4098 * (4098 * 4098 + 1) := Nat.mul_le_mul (by omega) h2
  omega
end Go.Proofs.YtikaamonmaohjaaGreatDoor
namespace Go.Proofs.YtikaamonmaohjaaGreatDoor
open Go.RowKit
set_option maxRecDepth 100000
set_option maxHeartbeats 4000000

/-- the whole text as a pattern -/
def readS (s : List UInt8) : Bool × Nd × Nat := patS s (s.length + 1) 0
/-- Compile's answer: the states; or the place and the error -/
def compS (s : List UInt8) : (List St × Nat) ⊕ (Nat × Nat) :=
  if 4096 < s.length then .inr (0, 6)
  else match tdS s 0 0 false with
    | some k => .inr (k, 6)
    | none => if (readS s).1 && decide (s.length ≤ (readS s).2.2) then .inl (buildS (readS s).2.1) else .inr ((readS s).2.2, 2)
def CompPost (r : (List St × Nat) ⊕ (Nat × Nat)) (w : World) (e : Ending) (w' : World) : Prop :=
  Gr w w' ∧ match r with
  | .inl r => ∃ P, e = .returned (.tuple #[.pointer (some ⟨P, 0, none⟩), .int .i64 0, .int .i64 0]) ∧ ProgAt w' P r
  | .inr (k, c) => e = .returned (.tuple #[.pointer none, .int .i64 k, .int .i64 c])
theorem compile_any (s : ByteArray) (hs : s.size ≤ 1000000) (w : World) :
    Calls Tryz.prog 110 #[.string s] w (CompPost (compS s.data.toList) w) := by
  have hlen : s.data.toList.length = s.size := by simp
  have hres : Tryz.f110.results = #[.tmp 2, .tmp 3, .tmp 4] := by kernel_rfl
  have CT := Lib.hid (fun W => tooDeep_any s W hs)
  by_cases hl : 4096 < s.size
  · have H : Hid (compS s.data.toList = .inr (0, 6)) := Lib.hid (by unfold compS; rw [hlen, if_pos hl])
    have n1 : (4096 : Int) < (s.size : Int) := by omega
    clear hlen CT
    go_enter Tryz.func110, Tryz.ntmps110
    go_wp2
    refine bodyPost_ret (v := .tuple #[.pointer none, .int .i64 0, .int .i64 6]) ?_ rfl ?_
    · simp only [results, hres]
      go_simp
      try rfl
    unfold CompPost
    rw [H.out]
    exact ⟨Gr.refl w, rfl⟩
  cases htd : tdS s.data.toList 0 0 false with
  | some k =>
    have H : Hid (compS s.data.toList = .inr (k, 6)) := Lib.hid (by unfold compS; rw [hlen, if_neg hl, htd])
    rw [htd] at CT
    have n1 : ¬ (4096 : Int) < (s.size : Int) := by omega
    clear hlen htd
    go_enter Tryz.func110, Tryz.ntmps110
    go_wp2_with fail
    refine (CT.out _).mono ?_
    rintro e w1 ⟨rfl, hg⟩
    have HG := Lib.hid hg
    clear hg CT
    unfold tdV
    go_wp2
    refine bodyPost_ret (v := .tuple #[.pointer none, .int .i64 k, .int .i64 6]) ?_ rfl ?_
    · simp only [results, hres]
      go_simp
      try rfl
    unfold CompPost
    rw [H.out]
    exact ⟨HG.out, rfl⟩
  | none =>
    rw [htd] at CT
    have n1 : ¬ (4096 : Int) < (s.size : Int) := by omega
    have CP := Lib.hid (fun W b (h : Rd W b s 0) => pattern_any b s hs (s.size + 1) 0 (Nat.zero_le _) (by omega) W h)
    have hple := patS_le s.data.toList (s.size + 1) 0 (Nat.zero_le _)
    have hrm := pat_room (s := s.data.toList) (d := s.size + 1) (k := 0) (by rw [hlen]; omega) (Nat.zero_le _)
    have H0 : Hid (compS s.data.toList = if (readS s.data.toList).1 && decide (s.size ≤ (readS s.data.toList).2.2) then .inl (buildS (readS s.data.toList).2.1) else .inr ((readS s.data.toList).2.2, 2)) := Lib.hid (by unfold compS; rw [hlen, if_neg hl, htd])
    unfold readS at H0
    rw [hlen] at hple H0
    obtain ⟨r, hr⟩ : ∃ r, patS s.data.toList (s.size + 1) 0 = r := ⟨_, rfl⟩
    rw [hr] at CP hple hrm H0
    obtain ⟨ok, n, k⟩ := r
    simp only at hple hrm
    have HRM := Lib.hid hrm
    clear hlen htd hr hrm
    go_enter Tryz.func110, Tryz.ntmps110
    go_wp2_with fail
    refine (CT.out _).mono ?_
    rintro e w1 ⟨rfl, hg⟩
    have HG := Lib.hid hg
    clear hg CT
    unfold tdV
    go_wp2_with fail
    refine (CP.out _ _ (heap_alloc_new w1 _)).mono ?_
    rintro e w2 ⟨hr2, ho2, v, rfl, hv, hv0⟩
    obtain ⟨kk, u0, u1, u2, u3, m1, cc1, A1, rfl⟩ := read_form hv hv0
    have HV := Lib.hid hv
    have G2 : Hid (Gr w w2) := Lib.hid (Gr.only (HG.out.alloc _ _) ho2 HG.out.size)
    clear hv hv0 ho2 CP HG
    have hr := hr2.facts
    obtain ⟨c0, c1, -, -⟩ := hr
    have ga : Gr w2 (w2.alloc (.cells #[.int .i64 kk, .int .u64 u0, .int .u64 u1, .int .u64 u2, .int .u64 u3, .slice A1 m1 cc1] 150)) := (Gr.refl w2).alloc _ _
    have d0 := ga.cell c0
    have d1 := ga.cell c1
    have CB := Lib.hid (fun W (q : Gr w2 W) X (hX : ∀ c, X c → c < w2.heap.size) (hn : NodeV w2 X n (.agg #[.int .i64 kk, .int .u64 u0, .int .u64 u1, .int .u64 u2, .int .u64 u3, .slice A1 m1 cc1])) (hw : Wf n) (hb : 1 + bd n ≤ 1000000000000) => build_any n _ X W (fun c hc => Nat.lt_of_lt_of_le (hX c hc) q.size) (hn.gr q) hw hb)
    clear hr2
    cases ok
    · have H : Hid (compS s.data.toList = .inr (k, 2)) := H0
      clear H0 HV HRM CB
      go_wp2_with fail
      go_quiet (fail)
      go_wp2
      refine bodyPost_ret (v := .tuple #[.pointer none, .int .i64 k, .int .i64 2]) ?_ rfl ?_
      · simp only [results, hres]
        go_simp
        try rfl
      unfold CompPost
      rw [H.out]
      exact ⟨(G2.out.alloc _ _).drewN _, rfl⟩
    by_cases hk : s.size ≤ k
    · have H : Hid (compS s.data.toList = .inl (buildS n)) := Lib.hid (by rw [H0.out]; simp [hk])
      have n2 : ¬ (k : Int) < (s.size : Int) := by omega
      obtain ⟨X, hX, hn⟩ := HV.out rfl
      have C := Lib.hid (fun W q => CB.out W q X (fun c hc => (hX c hc).2) hn (HRM.out rfl).1 (HRM.out rfl).2)
      clear H0 HV HRM CB hX hn
      go_wp2_with fail
      refine (C.out _ ga).mono ?_
      rintro e w3 ⟨P, rfl, hP, g3⟩
      have HF := Lib.hid (show CompPost (compS s.data.toList) w (.returned (.tuple #[.pointer (some ⟨P, 0, none⟩), .int .i64 0, .int .i64 0])) w3 by
        unfold CompPost
        rw [H.out]
        exact ⟨(G2.out.trans ga).trans g3, P, rfl, hP⟩)
      clear hP g3 C
      go_wp2
      refine bodyPost_ret (v := .tuple #[.pointer (some ⟨P, 0, none⟩), .int .i64 0, .int .i64 0]) ?_ rfl ?_
      · simp only [results, hres]
        go_simp
        try rfl
      exact HF.out
    · have H : Hid (compS s.data.toList = .inr (k, 2)) := Lib.hid (by rw [H0.out]; simp [hk])
      have n2 : (k : Int) < (s.size : Int) := by omega
      clear H0 HV HRM CB
      go_wp2_with fail
      go_quiet (fail)
      go_wp2
      refine bodyPost_ret (v := .tuple #[.pointer none, .int .i64 k, .int .i64 2]) ?_ rfl ?_
      · simp only [results, hres]
        go_simp
        try rfl
      unfold CompPost
      rw [H.out]
      exact ⟨(G2.out.alloc _ _).drewN _, rfl⟩
end Go.Proofs.YtikaamonmaohjaaGreatDoor
