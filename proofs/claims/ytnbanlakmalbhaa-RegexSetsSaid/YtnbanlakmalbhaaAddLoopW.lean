/- addLoop. -/
import Derived.Test.YtnbanlakmalbhaaAddLoop
namespace Go.Proofs.Ytnbanlakmalbhaa
open Go.RowKit
set_option maxRecDepth 100000
set_option maxHeartbeats 4000000

theorem addLoop_any (k : Nat) (hk : k = 3 ∨ k = 4) (n : Nd) (ih : AddC n) (B g b : Nat) (X : Nat → Prop) (S : List St) (nv v : Value) (w : World) (h : Bld B g w S v) (hB : B ≤ w.heap.size) (hX : ∀ c, X c → c < B) (hn : NodeV w X (.op k [n]) nv) (hwn : Wf n) (hbd : S.length + bd n + 1 ≤ 1000000000000) :
    Calls Try.prog 38 #[.pointer (some ⟨g, 0, none⟩), nv, .int .i64 b] w (AddPost B g (loopEnd k S.length b (addS n S.length (S ++ [⟨noB, true, 0, b⟩]))) w v) := by
  obtain ⟨pb, c, x, rfl, hc1, hXp, hx, hn⟩ := hn.part
  have hpb := hX pb hXp
  have hl := (addS_len n S.length (S ++ [⟨noB, true, 0, b⟩])).1
  have hkeep := addS_keeps n S.length (S ++ [⟨noB, true, 0, b⟩]) S.length (by simp)
  rw [List.getElem?_append_right (Nat.le_refl _), Nat.sub_self] at hkeep
  have hgl := h.lt
  have hbg := h.b
  have hrl := h.r.lt
  obtain ⟨p0, p1, p2, p3, p4, p5⟩ := hx.cells
  have CP := Lib.hid (fun W (k : Gr w W) => put_any B g S ⟨noB, true, 0, b⟩ v 0 0 0 0 W (h.gr k) (Nat.le_trans hB k.size) (by omega) (wd_none 0) (wd_none 1) (wd_none 2) (wd_none 3))
  have CA := Lib.hid (fun W (hb : Below B w W) u (h : Bld B g W (S ++ [⟨noB, true, 0, b⟩]) u) => ih B g S.length X (S ++ [⟨noB, true, 0, b⟩]) (aggOf x) u W h (Nat.le_trans hB hb.size) hX (NodeV.same (fun c hc _ => hb.block c (hX c hc)) _ _ hn) hwn (by simp; omega))
  have HB := Lib.hid h
  clear hX hn hx hwn hbd h
  obtain ⟨r, hr⟩ : ∃ r, addS n S.length (S ++ [⟨noB, true, 0, b⟩]) = r := ⟨_, rfl⟩
  rw [hr] at CA hl hkeep ⊢
  clear hr
  obtain ⟨S1, f1⟩ := r
  simp only at hl hkeep
  simp only [List.length_append, List.length_cons, List.length_nil] at hl
  have HK := Lib.hid hkeep
  clear hkeep
  replace CA : Hid (∀ W, Below B w W → ∀ u, Bld B g W (S ++ [⟨noB, true, 0, b⟩]) u → Calls Try.prog 28 #[.pointer (some ⟨g, 0, none⟩), aggOf x, .int .i64 S.length] W (fun e w' => e = .returned (.int .i64 f1) ∧ ∃ v', Bld B g w' S1 v' ∧ BStep g W u w' v')) := CA
  unfold aggOf at CA
  go_enter Try.func38, Try.ntmps38
  go_wp2_with fail
  have g0 : Gr w (w.alloc (.cells #[.int .i64 k, .int .u64 0, .int .u64 0, .int .u64 0, .int .u64 0, .slice (some ⟨pb, 0, none⟩) 1 c] 48)) := (Gr.refl w).alloc _ _
  have n0 := heap_alloc_new w (.cells #[.int .i64 k, .int .u64 0, .int .u64 0, .int .u64 0, .int .u64 0, .slice (some ⟨pb, 0, none⟩) 1 c] 48)
  have hz0 : (w.alloc (.cells #[.int .i64 k, .int .u64 0, .int .u64 0, .int .u64 0, .int .u64 0, .slice (some ⟨pb, 0, none⟩) 1 c] 48)).heap.size = w.heap.size + 1 := by simp
  refine (CP.out _ g0).mono ?_
  rintro e w1 ⟨rfl, v1, hb1, hs1⟩
  have hv : v.ownBlock ≠ some w.heap.size := fun e => by have := hrl _ e; omega
  have hvp : v.ownBlock ≠ some pb := fun e => by have := hrl _ e; omega
  have hz1 := hs1.size
  rw [hz0] at hz1
  have b0 := hs1.block w.heap.size (by omega) (by omega) hv
  rw [n0] at b0
  have hbl := (g0.bstep hs1).below HB.out hB
  have hp := hs1.block pb (by omega) (by omega) hvp
  have P : ∀ j : Nat, ∀ u, w.cell? ⟨pb, j, none⟩ = some u → w1.cell? ⟨pb, j, none⟩ = some u := fun j u e => (hbl.cell (p := ⟨pb, j, none⟩) hpb).trans e
  have d0 := cell_of_row w1 _ 0 _ _ (0, 0) b0
  have d5 := cell_of_row w1 _ 5 _ _ (0, 0) b0
  have q0 := P 0 _ p0
  have q1 := P 1 _ p1
  have q2 := P 2 _ p2
  have q3 := P 3 _ p3
  have q4 := P 4 _ p4
  have q5 := P 5 _ p5
  have HV1 := Lib.hid (show v1.ownBlock ≠ some w.heap.size from hs1.other (by omega) hv)
  have HS1 := Lib.hid (g0.bstep hs1)
  have C2 := Lib.hid (CA.out w1 hbl v1 hb1)
  have HB1 := Lib.hid hb1
  clear P p0 p1 p2 p3 p4 p5 hp n0 g0 hs1 hb1 CA CP hbl hv hvp
  go_wp2_with fail
  refine C2.out.mono ?_
  rintro e w2 ⟨rfl, v2, hb2, hs2⟩
  have hz2 := hs2.size
  have b2 := hs2.block w.heap.size (by omega) (by omega) HV1.out
  rw [b0] at b2
  have e0' := cell_of_row w2 _ 0 _ _ (0, 0) b2
  obtain ⟨rb, rc, rfl, r1, r2, hb3, hs3⟩ := hb2.setNext (s := ⟨noB, true, 0, b⟩) HK.out f1
  obtain ⟨cg, -⟩ := hb2.cell
  have HF := Lib.hid (show AddPost B g (loopEnd k S.length b (S1, f1)) w v (.returned (.int .i64 (loopEnd k S.length b (S1, f1)).2)) _ from ⟨rfl, _, hb3, (HS1.out.trans hs2).trans hs3⟩)
  have hlt : (S.length : Int) < (S1.length : Int) := by omega
  have hlt2 : S.length < S1.length := by omega
  have hne : w.heap.size ≠ rb := fun e => (hs2.other (by omega) HV1.out) (by rw [← e]; rfl)
  clear hb3 hs3 hb2 hs2 q0 q1 q2 q3 q4 q5 d0 d5 HB1 C2 b0 b2 hn
  have e0 : (w2.setCell ⟨rb, S.length * 7 + 5, none⟩ (.int .i64 f1)).cell? ⟨w.heap.size, 0, none⟩ = some (.int .i64 k) := (World.cell?_setCell_far w2 ⟨rb, S.length * 7 + 5, none⟩ ⟨w.heap.size, 0, none⟩ _ (by show rb ≠ w.heap.size; omega)).trans e0'
  clear e0'
  rcases hk with rfl | rfl
  · simp only at *
    go_wp2
    go_ret
    exact HF.out
  · simp only at *
    go_wp2
    go_ret
    exact HF.out
end Go.Proofs.Ytnbanlakmalbhaa
