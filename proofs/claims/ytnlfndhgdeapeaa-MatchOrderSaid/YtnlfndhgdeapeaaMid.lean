/- Between two rounds of a range over a pattern's parts. -/
import Derived.Test.YtnlfndhgdeapeaaAddOpt
namespace Go.Proofs.Ytnlfndhgdeapeaa
open Go.RowKit
set_option maxRecDepth 100000
set_option maxHeartbeats 4000000

theorem flat7_set : ∀ (vs : List (Fin 7 → Value)) (i : Nat) (x y : Fin 7 → Value) (u : Value), vs[i]? = some x → (∀ j : Fin 7, y j = if j = 5 then u else x j) → (vs.flatMap cells7).set (i * 7 + 5) u = (vs.set i y).flatMap cells7
  | [], i, x, y, u, h, hy => by simp at h
  | z :: r, 0, x, y, u, h, hy => by
    obtain rfl : z = x := by simpa using h
    have := hy 0; have := hy 1; have := hy 2; have := hy 3; have := hy 4; have := hy 5; have := hy 6
    simp_all [cells7]
  | z :: r, i + 1, x, y, u, h, hy => by
    have := flat7_set r i x y u (by simpa using h) hy
    rw [List.set_cons_succ, List.flatMap_cons, List.flatMap_cons, ← this, List.set_append_right _ _ (by simp [cells7]; omega)]
    congr 2
    simp [cells7]
    omega
theorem RowSt.setNext {W : World} {B : Nat} {v : Value} {l : List St} {i : Nat} {s : St} (h : RowSt W B v l) (hi : l[i]? = some s) (n : Nat) :
    ∃ pb c, v = .slice (some ⟨pb, 0, none⟩) l.length c ∧ W.cell? ⟨pb, i * 7 + 5, none⟩ = some (.int .i64 s.nx) ∧ W.frozen? ⟨pb, i * 7 + 5, none⟩ = false ∧ RowSt (W.setCell ⟨pb, i * 7 + 5, none⟩ (.int .i64 n)) B v (l.set i ⟨s.p, s.fork, n, s.ot⟩) := by
  obtain ⟨vs, h1, h2, h3⟩ := h
  have hil := (List.getElem?_eq_some_iff.1 hi).1
  rcases h2.2 with ⟨e, e2⟩ | ⟨pb, cap, cur, rfl, e2, e3, e4, e5, e6, e7⟩
  · omega
  have hiv : i < vs.length := by omega
  have hx : vs[i]? = some vs[i] := List.getElem?_eq_getElem hiv
  have hs := h3 i s _ hi hx
  have hc : ∀ j : Fin 7, cur[i * 7 + j.val]? = some (vs[i] j) := fun j => by
    have := cells7_get vs i _ j hx
    rw [← e7, List.getElem?_take_of_lt (by have := j.isLt; omega)] at this
    simpa using this
  have hadd : ∀ j, (⟨pb, 0, none⟩ : Addr).add j = ⟨pb, j, none⟩ := fun j => by unfold Addr.add; split <;> simp_all
  obtain ⟨u0, u1, u2, u3, ex, q⟩ := hs
  have h5 := hc 5
  rw [ex] at h5
  refine ⟨pb, cap, rfl, (cell_of_row W pb _ cur _ (0, 0) e3).trans h5, frozen_of_row W pb _ cur _ e3, ?_⟩
  have hset := heap_setCell_same W pb (i * 7 + 5) cur 78 (.int .i64 n) e3
  refine ⟨vs.set i (stF u0 u1 u2 u3 s.fork n s.ot), by simp [h1], ⟨by rw [cells7_len]; simp [h1], .inr ⟨pb, cap, cur.setIfInBounds (i * 7 + 5) (.int .i64 n), by simp, e2, hset, by simpa using e4, e5, by simpa using e6, ?_⟩⟩, fun j t y hj hy => ?_⟩
  · rw [Array.toList_setIfInBounds, List.length_set, List.take_set, e7]
    refine flat7_set vs i vs[i] _ _ hx fun j => ?_
    rw [ex]
    match j with
    | 0 => rfl
    | 1 => rfl
    | 2 => rfl
    | 3 => rfl
    | 4 => rfl
    | 5 => rfl
    | 6 => rfl
  · by_cases e : i = j
    · subst e
      rw [List.getElem?_set_self (by omega)] at hj
      rw [List.getElem?_set_self (by omega)] at hy
      obtain rfl := Option.some.inj hj
      obtain rfl := Option.some.inj hy
      exact ⟨u0, u1, u2, u3, rfl, q⟩
    · rw [List.getElem?_set_ne e] at hj
      rw [List.getElem?_set_ne e] at hy
      exact h3 j t y hj hy
/-- a state's way on is laid -/
theorem Bld.setNext {B g : Nat} {W : World} {S : List St} {v : Value} {i : Nat} {s : St} (h : Bld B g W S v) (hi : S[i]? = some s) (n : Nat) :
    ∃ pb c, v = .slice (some ⟨pb, 0, none⟩) S.length c ∧ W.cell? ⟨pb, i * 7 + 5, none⟩ = some (.int .i64 s.nx) ∧ W.frozen? ⟨pb, i * 7 + 5, none⟩ = false ∧ Bld B g (W.setCell ⟨pb, i * 7 + 5, none⟩ (.int .i64 n)) (S.set i ⟨s.p, s.fork, n, s.ot⟩) v ∧ BStep g W v (W.setCell ⟨pb, i * 7 + 5, none⟩ (.int .i64 n)) v := by
  obtain ⟨pb, c, e, h1, h2, h3⟩ := h.r.setNext hi n
  have hne : pb ≠ g := fun e2 => h.n (by rw [e, e2]; rfl)
  refine ⟨pb, c, e, h1, h2, ⟨(Below.heap_setCell W _ _ g (by show g ≠ pb; omega)).trans h.c, h3, h.n, h.b⟩, rfl, rfl, rfl, by simp [World.setCell], fun k hk hkg hkv => Below.heap_setCell W _ _ k (by show k ≠ pb; rintro rfl; exact hkv (by rw [e]; rfl)), .inl rfl⟩
theorem addS_keeps : ∀ n, ∀ (b : Nat) (S : List St) (i : Nat), i < S.length → (addS n b S).1[i]? = S[i]? := by
  have hd : ∀ (l : List Nd), (∀ n ∈ l, ∀ (b : Nat) (S : List St) (i : Nat), i < S.length → (addS n b S).1[i]? = S[i]?) → ∀ (b : Nat) (S : List St) (i : Nat), i < S.length → (addHead l b S).1[i]? = S[i]? := fun l hl b S i hi => by
    cases l with
    | nil => unfold addHead; rfl
    | cons n r => unfold addHead; exact hl n (by simp) b S i hi
  refine Nd.all (fun p b S i hi => ?_) (fun k l hl b S i hi => ?_)
  · unfold addS
    rw [List.getElem?_append_left hi]
  · unfold addS
    split
    · clear hd
      induction l generalizing b S with
      | nil => unfold addTurn; rfl
      | cons n r ih =>
        unfold addTurn
        rw [hl n (by simp) _ _ i (by have := (addTurn_len r b S).1; omega), ih (fun m hm => hl m (by simp [hm])) b S hi]
    split
    · clear hd
      induction l generalizing b S with
      | nil => unfold addAlt; rfl
      | cons n r ih =>
        unfold addAlt
        split
        · exact hl n (by simp) b S i hi
        · have h1 := (addAlt_len r b S).1
          have h2 := (addS_len n b (addAlt r b S).1).1
          unfold forkOn
          rw [List.getElem?_append_left (by omega), hl n (by simp) _ _ i (by omega), ih (fun m hm => hl m (by simp [hm])) b S hi]
    split
    · unfold forkOn
      rw [List.getElem?_append_left (by have := (addHead_len l b S).1; omega), hd l hl b S i hi]
    · unfold loopEnd
      rw [List.getElem?_set_ne (by omega), hd l hl _ _ i (by simp; omega), List.getElem?_append_left hi]
end Go.Proofs.Ytnlfndhgdeapeaa
/- addLoop. -/
namespace Go.Proofs.Ytnlfndhgdeapeaa
open Go.RowKit
set_option maxRecDepth 100000
set_option maxHeartbeats 4000000

theorem addLoop_any (k : Nat) (hk : k = 3 ∨ k = 4) (n : Nd) (ih : AddC n) (B g b : Nat) (X : Nat → Prop) (S : List St) (nv v : Value) (w : World) (h : Bld B g w S v) (hB : B ≤ w.heap.size) (hX : ∀ c, X c → c < B) (hn : NodeV w X (.op k [n]) nv) (hwn : Wf n) (hbd : S.length + bd n + 1 ≤ 1000000000000) :
    Calls Try.prog 57 #[.pointer (some ⟨g, 0, none⟩), nv, .int .i64 b] w (AddPost B g (loopEnd k S.length b (addS n S.length (S ++ [⟨noB, true, 0, b⟩]))) w v) := by
  obtain ⟨pb, c, x, rfl, hc1, hXp, hx, hn⟩ := hn.part
  have hpb := hX pb hXp
  have hl := (addS_len n S.length (S ++ [⟨noB, true, 0, b⟩])).1
  have hkeep := addS_keeps n S.length (S ++ [⟨noB, true, 0, b⟩]) S.length (by simp)
  rw [List.getElem?_append_right (Nat.le_refl _), Nat.sub_self] at hkeep
  have hgl := h.lt
  have hbg := h.b
  have hrl := h.r.lt
  obtain ⟨p0, p1, p2, p3, p4, p5⟩ := hx.cells
  have CP := Lib.hid (fun W (k : Gr w W) => put_any B g S ⟨noB, true, 0, b⟩ v 0 0 0 0 W (h.gr k) (Nat.le_trans hB k.size) (by omega) (wd_none 0) (wd_none 1) (wd_none 2) (wd_none 3))
  have CA := Lib.hid (fun W (hb : Below B w W) u (h : Bld B g W (S ++ [⟨noB, true, 0, b⟩]) u) => ih B g S.length X (S ++ [⟨noB, true, 0, b⟩]) (aggOf x) u W h (Nat.le_trans hB hb.size) hX (NodeV.same (fun c hc _ => hb.block c (hX c hc)) _ _ hn) hwn (by simp; omega))
  have HB := Lib.hid h
  clear hX hn hx hwn hbd h
  obtain ⟨r, hr⟩ : ∃ r, addS n S.length (S ++ [⟨noB, true, 0, b⟩]) = r := ⟨_, rfl⟩
  rw [hr] at CA hl hkeep ⊢
  clear hr
  obtain ⟨S1, f1⟩ := r
  simp only at hl hkeep
  simp only [List.length_append, List.length_cons, List.length_nil] at hl
  have HK := Lib.hid hkeep
  clear hkeep
  replace CA : Hid (∀ W, Below B w W → ∀ u, Bld B g W (S ++ [⟨noB, true, 0, b⟩]) u → Calls Try.prog 43 #[.pointer (some ⟨g, 0, none⟩), aggOf x, .int .i64 S.length] W (fun e w' => e = .returned (.int .i64 f1) ∧ ∃ v', Bld B g w' S1 v' ∧ BStep g W u w' v')) := CA
  unfold aggOf at CA
  go_enter Try.func57, Try.ntmps57
  go_wp2_with fail
  have g0 : Gr w (w.alloc (.cells #[.int .i64 k, .int .u64 0, .int .u64 0, .int .u64 0, .int .u64 0, .slice (some ⟨pb, 0, none⟩) 1 c] 57)) := (Gr.refl w).alloc _ _
  have n0 := heap_alloc_new w (.cells #[.int .i64 k, .int .u64 0, .int .u64 0, .int .u64 0, .int .u64 0, .slice (some ⟨pb, 0, none⟩) 1 c] 57)
  have hz0 : (w.alloc (.cells #[.int .i64 k, .int .u64 0, .int .u64 0, .int .u64 0, .int .u64 0, .slice (some ⟨pb, 0, none⟩) 1 c] 57)).heap.size = w.heap.size + 1 := by simp
  refine (CP.out _ g0).mono ?_
  rintro e w1 ⟨rfl, v1, hb1, hs1⟩
  have hv : v.ownBlock ≠ some w.heap.size := fun e => by have := hrl _ e; omega
  have hvp : v.ownBlock ≠ some pb := fun e => by have := hrl _ e; omega
  have hz1 := hs1.size
  rw [hz0] at hz1
  have b0 := hs1.block w.heap.size (by omega) (by omega) hv
  rw [n0] at b0
  have hbl := (g0.bstep hs1).below HB.out hB
  have hp := hs1.block pb (by omega) (by omega) hvp
  have P : ∀ j : Nat, ∀ u, w.cell? ⟨pb, j, none⟩ = some u → w1.cell? ⟨pb, j, none⟩ = some u := fun j u e => (hbl.cell (p := ⟨pb, j, none⟩) hpb).trans e
  have d0 := cell_of_row w1 _ 0 _ _ (0, 0) b0
  have d5 := cell_of_row w1 _ 5 _ _ (0, 0) b0
  have q0 := P 0 _ p0
  have q1 := P 1 _ p1
  have q2 := P 2 _ p2
  have q3 := P 3 _ p3
  have q4 := P 4 _ p4
  have q5 := P 5 _ p5
  have HV1 := Lib.hid (show v1.ownBlock ≠ some w.heap.size from hs1.other (by omega) hv)
  have HS1 := Lib.hid (g0.bstep hs1)
  have C2 := Lib.hid (CA.out w1 hbl v1 hb1)
  have HB1 := Lib.hid hb1
  clear P p0 p1 p2 p3 p4 p5 hp n0 g0 hs1 hb1 CA CP hbl hv hvp
  go_wp2_with fail
  refine C2.out.mono ?_
  rintro e w2 ⟨rfl, v2, hb2, hs2⟩
  have hz2 := hs2.size
  have b2 := hs2.block w.heap.size (by omega) (by omega) HV1.out
  rw [b0] at b2
  have e0' := cell_of_row w2 _ 0 _ _ (0, 0) b2
  obtain ⟨rb, rc, rfl, r1, r2, hb3, hs3⟩ := hb2.setNext (s := ⟨noB, true, 0, b⟩) HK.out f1
  obtain ⟨cg, -⟩ := hb2.cell
  have HF := Lib.hid (show AddPost B g (loopEnd k S.length b (S1, f1)) w v (.returned (.int .i64 (loopEnd k S.length b (S1, f1)).2)) _ from ⟨rfl, _, hb3, (HS1.out.trans hs2).trans hs3⟩)
  have hlt : (S.length : Int) < (S1.length : Int) := by omega
  have hlt2 : S.length < S1.length := by omega
  have hne : w.heap.size ≠ rb := fun e => (hs2.other (by omega) HV1.out) (by rw [← e]; rfl)
  clear hb3 hs3 hb2 hs2 q0 q1 q2 q3 q4 q5 d0 d5 HB1 C2 b0 b2 hn
  have e0 : (w2.setCell ⟨rb, S.length * 7 + 5, none⟩ (.int .i64 f1)).cell? ⟨w.heap.size, 0, none⟩ = some (.int .i64 k) := (World.cell?_setCell_far w2 ⟨rb, S.length * 7 + 5, none⟩ ⟨w.heap.size, 0, none⟩ _ (by show rb ≠ w.heap.size; omega)).trans e0'
  clear e0'
  rcases hk with rfl | rfl
  · simp only at *
    go_wp2
    go_ret
    exact HF.out
  · simp only at *
    go_wp2
    go_ret
    exact HF.out
end Go.Proofs.Ytnlfndhgdeapeaa
namespace Go.Proofs.Ytnlfndhgdeapeaa
open Go.RowKit
set_option maxRecDepth 100000
set_option maxHeartbeats 1000000

/-- the builder's block, its row, and a variable N alone have turned -/
structure BMid (g N : Nat) (W : World) (v : Value) (W' : World) (v' : Value) : Prop where
  os : W'.os = W.os
  tape : W'.tape = W.tape
  output : W'.output = W.output
  size : W.heap.size ≤ W'.heap.size
  block : ∀ c, c < W.heap.size → c ≠ g → c ≠ N → v.ownBlock ≠ some c → W'.heap[c]? = W.heap[c]?
  own : v'.ownBlock = v.ownBlock ∨ ∃ k, v'.ownBlock = some k ∧ W.heap.size ≤ k
theorem BMid.refl (g N : Nat) (W : World) (v : Value) : BMid g N W v W v := ⟨rfl, rfl, rfl, Nat.le_refl _, fun _ _ _ _ _ => rfl, .inl rfl⟩
theorem BMid.step {g N : Nat} {W W' W'' : World} {v v' v'' : Value} (h : BMid g N W v W' v') (k : BStep g W' v' W'' v'') : BMid g N W v W'' v'' :=
  ⟨k.os.trans h.os, k.tape.trans h.tape, k.output.trans h.output, Nat.le_trans h.size k.size, fun c hc hg hN hv => (k.block c (Nat.lt_of_lt_of_le hc h.size) hg (by
      rcases h.own with e | ⟨j, e, hj⟩
      · rw [e]; exact hv
      · rw [e]; intro e2; have := Option.some.inj e2; omega)).trans (h.block c hc hg hN hv), by
    rcases k.own with e | ⟨j, e, hj⟩
    · rw [e]; exact h.own
    · exact .inr ⟨j, e, Nat.le_trans h.size hj⟩⟩
theorem BMid.set {g N : Nat} {W W' : World} {v v' : Value} (h : BMid g N W v W' v') (u : Value) : BMid g N W v (W'.setCell ⟨N, 0, none⟩ u) v' :=
  ⟨h.os, h.tape, h.output, by simpa [World.setCell] using h.size, fun c hc hg hN hv => (Below.heap_setCell W' _ _ c (by show c ≠ N; exact hN)).trans (h.block c hc hg hN hv), h.own⟩
theorem BMid.gr {g N : Nat} {W W' W'' : World} {v v' : Value} (h : BMid g N W v W' v') (k : Gr W' W'') : BMid g N W v W'' v' :=
  ⟨k.b.os.trans h.os, k.b.tape.trans h.tape, k.b.output.trans h.output, Nat.le_trans h.size k.size, fun c hc hg hN hv => (k.b.block c (Nat.lt_of_lt_of_le hc h.size)).trans (h.block c hc hg hN hv), h.own⟩
/-- a block that is no cells is turned -/
theorem BMid.turn {g N : Nat} {W X Y : World} {v v' : Value} {row : Option Nat} (h : BMid g N W v X v') (hg : X.grownBy Y row) (hr : ∀ r, row = some r → W.heap.size ≤ r) : BMid g N W v Y v' :=
  ⟨hg.os.trans h.os, hg.tape.trans h.tape, hg.output.trans h.output, Nat.le_trans h.size hg.size, fun c hc h1 h2 hv => (hg.block c (Nat.lt_of_lt_of_le hc h.size) (fun e => by have := hr c e.symm; omega)).trans (h.block c hc h1 h2 hv), h.own⟩
theorem BMid.bstep {g N : Nat} {w W W' : World} {v v' : Value} (h : BMid g N W v W' v') (k : Gr w W) (hN : w.heap.size ≤ N) : BStep g w v W' v' :=
  ⟨h.os.trans k.b.os, h.tape.trans k.b.tape, h.output.trans k.b.output, Nat.le_trans k.size h.size, fun c hc hg hv => (h.block c (Nat.lt_of_lt_of_le hc k.size) hg (by omega) hv).trans (k.b.block c hc), by
    rcases h.own with e | ⟨j, e, hj⟩
    · exact .inl e
    · exact .inr ⟨j, e, Nat.le_trans k.size hj⟩⟩
theorem BMid.blk {g N : Nat} {W W' : World} {v v' : Value} (h : BMid g N W v W' v') {c : Nat} (hc : c < W.heap.size) (hg : c ≠ g) (hN : c ≠ N) (hv : v.ownBlock ≠ some c) {o : Obj} (ho : W.heap[c]? = some o) : W'.heap[c]? = some o := (h.block c hc hg hN hv).trans ho
theorem BMid.below {B g N : Nat} {W W' : World} {v v' : Value} (h : BMid g N W v W' v') (hg : B ≤ g) (hN : B ≤ N) (hv : ∀ k, v.ownBlock = some k → B ≤ k) (hB : B ≤ W.heap.size) : Below B W W' :=
  ⟨h.os, h.tape, h.output, h.size, fun c hc => h.block c (by omega) (by omega) (by omega) (fun e => by have := hv c e; omega)⟩
theorem BMid.other {g N : Nat} {W W' : World} {v v' : Value} (k : BMid g N W v W' v') {c : Nat} (hc : c < W.heap.size) (hv : v.ownBlock ≠ some c) : v'.ownBlock ≠ some c := by
  rcases k.own with e | ⟨j, e, hj⟩
  · rw [e]; exact hv
  · rw [e]; intro e2; have := Option.some.inj e2; omega
theorem RowSt.cellsOf {W : World} {B : Nat} {v : Value} {l : List St} (h : RowSt W B v l) {k : Nat} (e : v.ownBlock = some k) : ∃ o : Obj, W.heap[k]? = some o ∧ o.isCells = true := by
  obtain ⟨vs, h1, h2, h3⟩ := h
  rcases h2.2 with ⟨rfl, -⟩ | ⟨g, cap, cur, rfl, e2, e3, -⟩
  · cases e
  · have : g = k := by simpa [Value.ownBlock] using e
    subst this
    exact ⟨_, e3, rfl⟩
theorem Bld.turn {B g : Nat} {X Y : World} {S : List St} {v : Value} {row : Option Nat} (h : Bld B g X S v) (hg : X.grownBy Y row) (hr : ∀ r, row = some r → ∃ o : Obj, X.heap[r]? = some o ∧ o.isCells = false) : Bld B g Y S v := by
  have key : ∀ (k : Nat) (o : Obj), X.heap[k]? = some o → o.isCells = true → Y.heap[k]? = X.heap[k]? := fun k o ho hc => hg.block k (Array.getElem?_eq_some_iff.1 ho).1 (fun e => by
    obtain ⟨o', ho', hc'⟩ := hr k e.symm
    rw [ho] at ho'
    obtain rfl := Option.some.inj ho'
    rw [hc] at hc'
    cases hc')
  refine ⟨(key g _ h.c rfl).trans h.c, h.r.keep fun c e => ?_, h.n, h.b⟩
  obtain ⟨o, ho, hc⟩ := h.r.cellsOf e
  exact key c o ho hc
theorem cells_turn {X Y : World} {row : Option Nat} (hg : X.grownBy Y row) (hr : ∀ r, row = some r → ∃ o : Obj, X.heap[r]? = some o ∧ o.isCells = false) {k : Nat} {c : Array Value} {t : TypeId} {fz : Nat × Nat} (h : X.heap[k]? = some (.cells c t fz)) : Y.heap[k]? = some (.cells c t fz) :=
  (hg.block k (Array.getElem?_eq_some_iff.1 h).1 (fun e => by
    obtain ⟨o', ho', hc'⟩ := hr k e.symm
    rw [h] at ho'
    obtain rfl := Option.some.inj ho'
    cases hc')).trans h
/-- whatever is no cells stays over a step of the builder's -/
theorem BStep.keepsFrom {B g : Nat} {W W' : World} {S : List St} {v v' : Value} (k : BStep g W v W' v') (h : Bld B g W S v) (D : Nat) : KeepsFrom D W W' :=
  ⟨k.size, fun c o _ ho hc => (k.block c (Array.getElem?_eq_some_iff.1 ho).1 (fun e => by
      subst e
      rw [h.c] at ho
      obtain rfl := Option.some.inj ho
      cases hc) (fun e => by
      obtain ⟨o', ho', hc'⟩ := h.r.cellsOf e
      rw [ho] at ho'
      obtain rfl := Option.some.inj ho'
      rw [hc] at hc'
      cases hc')).trans ho⟩
theorem two_t {a b : Nat} {A B C : World} (h : Two a b A B) (k : Two a b B C) : Two a b A C := h.trans k
theorem two_b {a b : Nat} {w : World} (ha : a < w.heap.size) (hb : b < w.heap.size) (W : World) (l : Nat) (o o' : Obj) (hl : w.heap.size ≤ l) (_ : W.heap[l]? = some o) (_ : o.isCells = false) (_ : o.isWalk = false) : Two a b W (W.putObj l o') :=
  ⟨World.putObj_heap_other (by omega), World.putObj_heap_other (by omega)⟩
theorem Bld.setFar {B g : Nat} {W : World} {S : List St} {v : Value} (h : Bld B g W S v) {N o : Nat} (u : Value) (hN : N ≠ g) (hv : v.ownBlock ≠ some N) : Bld B g (W.setCell ⟨N, o, none⟩ u) S v :=
  ⟨(Below.heap_setCell W _ _ g (by show g ≠ N; omega)).trans h.c, h.r.keep (fun c e => Below.heap_setCell W _ _ c (by show c ≠ N; rintro rfl; exact hv e)), h.n, h.b⟩
end Go.Proofs.Ytnlfndhgdeapeaa
