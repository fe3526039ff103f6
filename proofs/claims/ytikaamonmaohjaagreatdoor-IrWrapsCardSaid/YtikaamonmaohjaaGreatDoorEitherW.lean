/- addEither. -/
import Derived.Test.YtikaamonmaohjaaGreatDoorEither
namespace Go.Proofs.YtikaamonmaohjaaGreatDoor
open Go.RowKit
set_option maxRecDepth 100000
set_option maxHeartbeats 4000000
attribute [local go_sem] Oper.semAt_some

theorem addEither_any (l : List Nd) (n : Nd) (ih : ∀ m ∈ l ++ [n], AddC m) (B g b : Nat) (X : Nat → Prop) (S : List St) (A : Option Addr) (c : Nat) (v : Value) (w : World) (h : Bld B g w S v) (hB : B ≤ w.heap.size) (hX : ∀ c, X c → c < B) (pb : Nat) (val : Nat → Fin 6 → Value)
    (hP : PartsAt w A pb (l ++ [n]).length val) (hXp : 0 < (l ++ [n]).length → X pb) (hc1 : (l ++ [n]).length ≤ c) (_hc2 : c ≤ maxLen) (hns : ∀ (i : Nat) (hi : i < (l ++ [n]).length), NodeV w X (l ++ [n])[i] (aggOf (val i))) (hw : WfL (l ++ [n]))
    (hbd : S.length + (((l ++ [n]).length + 1) * (wts (l ++ [n]) + 1) + 1 + bdm (l ++ [n])) ≤ 1000000000000) :
    Calls Tryz.prog 155 #[.pointer (some ⟨g, 0, none⟩), .slice A (l ++ [n]).length c, .int .i64 b] w (AddPost B g (addAlt (l ++ [n]) b S) w v) := by
  have hlen : (l ++ [n]).length = l.length + 1 := by simp
  rw [hlen] at hP hXp hc1 ⊢
  obtain ⟨rfl, hcs⟩ := hP (by omega)
  have hpb := hX pb (hXp (by omega))
  have hgl := h.lt
  have hbg := h.b
  have hrl := h.r.lt
  have hbm := bdm_app l n
  have hnd : NodeV w X n (aggOf (val l.length)) := by
    have := hns l.length (by simp)
    simpa using this
  have hnl : ∀ x : Fin l.length, NodeV w X l[x.val] (aggOf (val x.val)) := fun x => by
    have := hns x.val (by have := x.isLt; simp; omega)
    rwa [List.getElem_append_left x.isLt] at this
  have CL := Lib.hid (fun W (k : Gr w W) => ih n (by simp) B g b X S (aggOf (val l.length)) v W (h.gr k) (Nat.le_trans hB k.size) hX (hnd.gr k) hw.app.2 (by omega))
  have CA := Lib.hid (fun (x : Fin l.length) W (hb : Below B w W) (S' : List St) u (h : Bld B g W S' u) (hl : S'.length + bd l[x.val] ≤ 1000000000000) => ih l[x.val] (by simp) B g b X S' (aggOf (val x.val)) u W h (Nat.le_trans hB hb.size) hX (NodeV.same (fun c hc _ => hb.block c (hX c hc)) _ _ (hnl x)) (hw.app.1.mem _ (List.getElem_mem _)) hl)
  have hlst := (addS_len n b S).2 hw.app.2
  have HL := Lib.hid (fun (pre : List (Fin l.length)) (x : Fin l.length) (hp : pre.length < l.length) => show (eitF l b (addS n b S) pre).1.length + bd l[x.val] ≤ 1000000000000 by
    have h1 := eitF_len l hw.app.1 b (addS n b S) pre
    have h2 := room_alt hbd hp
    have h3 := bdm_mem (List.getElem_mem x.isLt : l[x.val] ∈ l)
    omega)
  have HL2 := Lib.hid (fun (pre : List (Fin l.length)) (x : Fin l.length) (hp : pre.length < l.length) => show (addS l[x.val] b (eitF l b (addS n b S) pre).1).1.length ≤ 1000000000000 by
    have h1 := HL.out pre x hp
    have h2 := (addS_len l[x.val] b (eitF l b (addS n b S) pre).1).2 (hw.app.1.mem _ (List.getElem_mem _))
    have h3 := wt_bd l[x.val]
    omega)
  have HNS := Lib.hid hnl
  have HB := Lib.hid h
  have hml : l.length ≤ 1000000000000 := by
    have : ((l ++ [n]).length + 1) * 1 ≤ ((l ++ [n]).length + 1) * (wts (l ++ [n]) + 1) := Nat.mul_le_mul (Nat.le_refl _) (by omega)
    omega
  have hx := hcs l.length (by omega)
  have key : ∀ i : Fin 6, w.cell? ⟨pb, l.length * 6 + i.val, none⟩ = some (val l.length i) := hx
  have q0 : w.cell? ⟨pb, l.length * 6, none⟩ = some (val l.length 0) := key 0
  have q1 : w.cell? ⟨pb, l.length * 6 + 1, none⟩ = some (val l.length 1) := key 1
  have q2 : w.cell? ⟨pb, l.length * 6 + 2, none⟩ = some (val l.length 2) := key 2
  have q3 : w.cell? ⟨pb, l.length * 6 + 3, none⟩ = some (val l.length 3) := key 3
  have q4 : w.cell? ⟨pb, l.length * 6 + 4, none⟩ = some (val l.length 4) := key 4
  have q5 : w.cell? ⟨pb, l.length * 6 + 5, none⟩ = some (val l.length 5) := key 5
  have hPl : PartsAt w (some ⟨pb, 0, none⟩) pb l.length val := fun _ => ⟨rfl, fun j hj => hcs j (by omega)⟩
  have HP := Lib.hid hPl
  rw [← eitF_all]
  obtain ⟨r0, hr0⟩ : ∃ r0, addS n b S = r0 := ⟨_, rfl⟩
  rw [hr0] at CL HL HL2 ⊢
  clear hr0 key hx hcs hPl hP hbd hlst hns hnl hnd hw ih h hbm
  obtain ⟨S0, f0⟩ := r0
  replace CL : Hid (∀ W, Gr w W → Calls Tryz.prog 133 #[.pointer (some ⟨g, 0, none⟩), aggOf (val l.length), .int .i64 b] W (fun e w' => e = .returned (.int .i64 f0) ∧ ∃ v', Bld B g w' S0 v' ∧ BStep g W v w' v')) := CL
  unfold aggOf at CL
  refine (callsIn_wide (n := 9)).1 ?_
  refine callsIn_of_wp_marks Tryz.func155 rfl trivial ?_ rfl
  simp only [Tryz.ntmps155, List.size_toArray, List.length_cons, List.length_nil, Nat.reduceAdd, Nat.reduceSub, Array.replicate_succ, Array.replicate_zero, List.push_toArray, List.append_toArray, List.nil_append, List.cons_append]
  have hi1 : ((l.length : Int) + 1) - 1 = (l.length : Int) := by omega
  gi_wp2
  refine wpIn_wide.2 ?_
  have k0 : Gr w ((w.alloc (.cells #[.pointer (some ⟨g, 0, none⟩)] 192)).alloc (.cells #[.int .i64 b] 3)) := ((Gr.refl w).alloc _ _).alloc _ _
  have n0 : ((w.alloc (.cells #[.pointer (some ⟨g, 0, none⟩)] 192)).alloc (.cells #[.int .i64 b] 3)).heap[w.heap.size]? = some (.cells #[.pointer (some ⟨g, 0, none⟩)] 192 (0, 0)) := (((Gr.refl (w.alloc (.cells #[.pointer (some ⟨g, 0, none⟩)] 192))).alloc #[.int .i64 b] 3).b.block _ (by simp)).trans (heap_alloc_new w _)
  have n1 := heap_alloc_new (w.alloc (.cells #[.pointer (some ⟨g, 0, none⟩)] 192)) (.cells #[.int .i64 b] 3)
  rw [show (w.alloc (.cells #[.pointer (some ⟨g, 0, none⟩)] 192)).heap.size = w.heap.size + 1 by simp] at n1
  have hsz : ((w.alloc (.cells #[.pointer (some ⟨g, 0, none⟩)] 192)).alloc (.cells #[.int .i64 b] 3)).heap.size = w.heap.size + 2 := by simp
  obtain ⟨W0, hW0⟩ : ∃ W0, (w.alloc (.cells #[.pointer (some ⟨g, 0, none⟩)] 192)).alloc (.cells #[.int .i64 b] 3) = W0 := ⟨_, rfl⟩
  rw [hW0] at k0 n0 n1 hsz ⊢
  clear hW0
  have HS : Hid (Eit8 W0.drew w.heap.size pb (l.length * 6) g b (val l.length)) := Lib.hid ⟨cell_of_row W0 _ 0 _ _ (0, 0) n0, cell_of_row W0 _ 0 _ _ (0, 0) n1, k0.cell q0, k0.cell q1, k0.cell q2, k0.cell q3, k0.cell q4, k0.cell q5⟩
  have K0 := Lib.hid k0
  have hv0 : ∀ k, w.heap.size ≤ k → v.ownBlock ≠ some k := fun k hk e => by have := hrl _ e; omega
  have hvp : v.ownBlock ≠ some pb := fun e => by have := hrl _ e; omega
  have HV := Lib.hid hv0
  have hsz1 : W0.heap.size ≤ w.heap.size + 2 := by omega
  have hsz2 : w.heap.size + 2 ≤ W0.heap.size := by omega
  clear hsz
  have hix : (l.length : Int) < (l.length : Int) + 1 := by omega
  have hix0 : (0 : Int) ≤ (l.length : Int) := by omega
  have hgB : g < W0.heap.size := by omega
  clear k0 n0 n1 q0 q1 q2 q3 q4 q5 hv0
  go_region_held3 (fun w' => w'.cell? ⟨w.heap.size, 0, none⟩ = some (.pointer (some ⟨g, 0, none⟩)) ∧ w'.cell? ⟨w.heap.size + 1, 0, none⟩ = some (.int .i64 b) ∧ w'.cell? ⟨pb, l.length * 6, none⟩ = some (val l.length 0) ∧ w'.cell? ⟨pb, l.length * 6 + 1, none⟩ = some (val l.length 1) ∧ w'.cell? ⟨pb, l.length * 6 + 2, none⟩ = some (val l.length 2) ∧ w'.cell? ⟨pb, l.length * 6 + 3, none⟩ = some (val l.length 3) ∧ w'.cell? ⟨pb, l.length * 6 + 4, none⟩ = some (val l.length 4) ∧ w'.cell? ⟨pb, l.length * 6 + 5, none⟩ = some (val l.length 5))
    (first
     | exact HS1.out
     | exact HS1.out.gr ((Gr.refl _).alloc _ _)
     | exact HS1.out.set _ (by omega) (by omega) (by omega)
     | exact HS.out
     | exact HS.out.gr ((Gr.refl _).alloc _ _)
     | exact (HS1.out.gr ((Gr.refl _).alloc _ _)).set _ (by omega) (by omega) (by omega))
    (first
     | (go_at_call 133
        refine (CL.out _ K0.out.drew).mono ?_
        rintro e w1 ⟨rfl, v1, hb1, hs1⟩
        have hz1 : W0.heap.size ≤ w1.heap.size := hs1.size
        have HS1 : Hid (Eit8 w1 w.heap.size pb (l.length * 6) g b (val l.length)) := Lib.hid (HS.out.step hs1 ⟨by omega, HV.out _ (by omega)⟩ ⟨by omega, HV.out _ (by omega)⟩ ⟨by omega, hvp⟩)
        have HM := Lib.hid (show BStep g w v w1 v1 from K0.out.drew.bstep hs1))
     | (go_at_call 133
        refine (CL.out _ (K0.out.drew.alloc _ _)).mono ?_
        rintro e w1 ⟨rfl, v1, hb1, hs1⟩
        have hz1 : W0.heap.size + 1 ≤ w1.heap.size := by
          have := hs1.size
          simp at this
          exact this
        have HS1 : Hid (Eit8 w1 w.heap.size pb (l.length * 6) g b (val l.length)) := Lib.hid ((HS.out.gr ((Gr.refl _).alloc _ _)).step hs1 ⟨by omega, HV.out _ (by omega)⟩ ⟨by omega, HV.out _ (by omega)⟩ ⟨by omega, hvp⟩)
        have HM := Lib.hid (show BStep g w v w1 v1 from (K0.out.drew.alloc _ _).bstep hs1)
        have hN1 : w1.heap[W0.heap.size]? = some (.cells #[.int .i64 0] 3 (0, 0)) := (hs1.block _ (by simp) (by omega) (HV.out _ (by omega))).trans (heap_alloc_new W0.drew _)
        have c1 := cell_of_row w1 _ 0 _ _ (0, 0) hN1
        have f1 := frozen_of_row w1 _ 0 _ _ hN1
        simp only [List.getElem?_toArray, List.getElem?_cons_zero] at c1))
  all_goals
    first
    | (have HE := Lib.hid (eitSt_late (f0 := f0) hb1 HM.out HS1.out (by omega) (hs1.other (by first | (show _ < W0.heap.size; omega) | (simp <;> omega)) (HV.out _ (by omega))) (hs1.other (by first | (show _ < W0.heap.size; omega) | (simp <;> omega)) (HV.out _ (by omega))))
       obtain ⟨N2, hN2⟩ : ∃ N2, w1.heap.size = N2 := ⟨_, rfl⟩
       obtain ⟨Wb, hWb⟩ : ∃ Wb, w1.alloc (.cells #[.int .i64 f0] 3) = Wb := ⟨_, rfl⟩
       rw [hN2, hWb] at HE
       rw [hN2, hWb])
    | (have HE := Lib.hid (eitSt_early (f0 := f0) hb1 HM.out HS1.out (by omega) hgl (by omega) (hs1.other (by first | (show _ < W0.heap.size; omega) | (simp <;> omega)) (HV.out _ (by omega))) (hs1.other (by first | (show _ < W0.heap.size; omega) | (simp <;> omega)) (HV.out _ (by omega))) (hs1.other (by first | (show _ < W0.heap.size; omega) | (simp <;> omega)) (HV.out _ (by omega))) _ hN1)
       obtain ⟨N2, hN2⟩ : ∃ N2, W0.heap.size = N2 := ⟨_, rfl⟩
       rw [hN2] at HE
       rw [hN2]
       obtain ⟨Wb, hWb⟩ : ∃ Wb, w1.setCell ⟨N2, 0, none⟩ (.int .i64 f0) = Wb := ⟨_, rfl⟩
       rw [hWb] at HE
       rw [hWb]
       clear hN1 c1 f1)
    clear HM hs1 hb1 HS1 hN2 hWb HS K0 CL HV hsz1 hsz2 hz1 hgB hvp
    gi_wp2_with (refine ⟨trivial, ?_⟩; gi_at_call 154; refine (backward_in Fence.wide _ trivial rfl _ _ _ _).mono ?_; rintro e w' ⟨rfl, rfl⟩)
    have k2 : Gr Wb (Wb.alloc (.cells #[.slice (some ⟨pb, 0, none⟩) l.length c] 148)) := (Gr.refl Wb).alloc _ _
    have n3 := heap_alloc_new Wb (.cells #[.slice (some ⟨pb, 0, none⟩) l.length c] 148)
    have hz2 : (Wb.alloc (.cells #[.slice (some ⟨pb, 0, none⟩) l.length c] 148)).heap.size = Wb.heap.size + 1 := by simp
    obtain ⟨W2, hW2⟩ : ∃ W2, Wb.alloc (.cells #[.slice (some ⟨pb, 0, none⟩) l.length c] 148) = W2 := ⟨_, rfl⟩
    rw [hW2] at k2 n3 hz2 ⊢
    clear hW2
    have n2 := (k2.b.block _ (Array.getElem?_eq_some_iff.1 HE.out.c2).1).trans HE.out.c2
    have hN2 : N2 < Wb.heap.size := (Array.getElem?_eq_some_iff.1 HE.out.c2).1
    have hN2l := HE.out.lo
    have hbW := HE.out.step.below HB.out hB
    have hwb := HE.out.step.size
    have hgb := HE.out.bld.lt
    have hown := HE.out.own
    have hol := HE.out.bld.r.lt
    have HOWN := Lib.hid hown
    have HOL := Lib.hid hol
    clear hown hol
    have hP2 : PartsAt W2 (some ⟨pb, 0, none⟩) pb l.length val := fun h0 => by
      obtain ⟨e, hs⟩ := HP.out h0
      exact ⟨e, fun j hj i => k2.cell ((hbW.cell (p := ⟨pb, j * 6 + i.val, none⟩) hpb).trans (hs j hj i))⟩
    refine wpIn_rangeFunc_ownH rfl (by omega) (gf := 180) (lb := #[.pointer (some ⟨Wb.heap.size, 0, none⟩)]) rfl trivial (enters_of Tryz.func180 (by kernel_rfl) rfl)
      (backward_stops Fence.wide _ trivial rfl (by omega) Wb.heap.size pb l.length c (some ⟨pb, 0, none⟩) val hml W2 (by omega) (cell_of_row W2 _ 0 _ _ (0, 0) n3) hP2) two_t (two_b (by omega) (by omega)) (Below.refl _ _) (fun _ => rfl)
      (fun pre W => TurnI B g N2 W2 v1 (eitF l b (S0, f0) pre) W)
      (fun _ _ _ => False)
      (turnI_own B g N2 W2 v1 (eitF l b (S0, f0)))
      (fun _ _ _ _ _ hs _ _ => hs)
      ⟨v1, HE.out.bld.gr k2, BMid.refl _ _ _ _, n2⟩
      (fun x a' W => ∃ Bx, W2.heap.size ≤ Bx ∧ W.heap[Bx]? = some (.cells #[val x.val 0, val x.val 1, val x.val 2, val x.val 3, val x.val 4, val x.val 5] 150 (0, 0)) ∧ a' = { tmps := #[.pointer (some ⟨g, 0, none⟩), .slice (some ⟨pb, 0, none⟩) (l.length + 1) c, .int .i64 b, .pointer (some ⟨w.heap.size, 0, none⟩), undef, .pointer (some ⟨w.heap.size + 1, 0, none⟩), .int .i64 0, .int .i64 l.length, .pointer (some ⟨N2, 0, none⟩), undef, .pointer (some ⟨Bx, 0, none⟩), .slice (some ⟨pb, 0, none⟩) (l.length + 1) c, .int .i64 (l.length + 1), .int .i64 l.length, .pointer (some ⟨g, 0, none⟩), .slice (some ⟨pb, 0, none⟩) (l.length + 1) c, .int .i64 l.length, .pointer (some ⟨pb, l.length * 6, none⟩), .agg #[val l.length 0, val l.length 1, val l.length 2, val l.length 3, val l.length 4, val l.length 5], .int .i64 b, .int .i64 f0, .slice (some ⟨pb, 0, none⟩) (l.length + 1) c, .int .i64 l.length, .slice (some ⟨pb, 0, none⟩) l.length c, .func (.func 180) #[] #[.pointer (some ⟨Wb.heap.size, 0, none⟩)], .int .i64 (x.val : Int), aggOf (val x.val), undef, undef, undef, undef, undef, undef, undef, undef, undef], defers := [] })
      (fun x a' _ X Y row hs hg hr => by obtain ⟨Bx, h1, h2, h3⟩ := hs; exact ⟨Bx, h1, cells_turn hg (fun r e => (hr r e).2) h2, h3⟩)
      ?assign ?body ?done ?stop
    case assign =>
      rintro l1 pre x W K hI hK
      obtain ⟨k, u0, u1, u2, u3, m, cc, A2, y0, y1, y2, y3, y4, y5⟩ := six_form (HNS.out x)
      unfold aggOf at hK ⊢
      simp only [y0, y1, y2, y3, y4, y5] at hK ⊢
      obtain ⟨v', hbld, hmid, hN⟩ := hI
      have hWs := hmid.size
      have ga : Gr W (W.alloc (.cells #[.int .i64 k, .int .u64 u0, .int .u64 u1, .int .u64 u2, .int .u64 u3, .slice A2 m cc] 150)) := (Gr.refl W).alloc _ _
      gi_wp2
      exact hK _ _ ((KeepsOthers.alloc _ _).from _) ⟨ga.b.block _ (by omega), ga.b.block _ (by omega)⟩ ⟨v', hbld.gr ga, hmid.gr ga, (ga.b.block _ (by omega)).trans hN⟩ ⟨W.heap.size, hWs, heap_alloc_new W _, rfl⟩
    case body =>
      rintro l1 pre x a' W hl1 - ⟨v', hbld, hmid, hN⟩ ⟨Bx, hBx, bX, rfl⟩ hlt
      have hbelow : Below B w W := (hbW.trans (k2.b.mono (by omega))).trans (hmid.below hbg (by omega) (fun k e => (HOL.out k e).1) (by omega))
      have hlb := HL.out pre x hlt
      have hWs := hmid.size
      have m0 := (World.cell?_of_block (a := ⟨w.heap.size, 0, none⟩) (hmid.block w.heap.size (by omega) (by omega) (by omega) (HOWN.out _ (by omega)))).trans (k2.cell HE.out.c0)
      have m1 := (World.cell?_of_block (a := ⟨w.heap.size + 1, 0, none⟩) (hmid.block (w.heap.size + 1) (by omega) (by omega) (by omega) (HOWN.out _ (by omega)))).trans (k2.cell HE.out.c1)
      have hv0 : v'.ownBlock ≠ some w.heap.size := hmid.other (by omega) (HOWN.out _ (by omega))
      have hv1 : v'.ownBlock ≠ some (w.heap.size + 1) := hmid.other (by omega) (HOWN.out _ (by omega))
      have hv2 : v'.ownBlock ≠ some N2 := hmid.other (by omega) (HOWN.out _ (by omega))
      have hv3 : v'.ownBlock ≠ some Wb.heap.size := hmid.other (by omega) (fun e => by have := (HOL.out _ e).2; omega)
      have hvp : v'.ownBlock ≠ some pb := fun e => by have := (hbld.r.lt _ e).1; omega
      have hBxl : Bx < W.heap.size := (Array.getElem?_eq_some_iff.1 bX).1
      have hvx : v'.ownBlock ≠ some Bx := fun e => by
        obtain ⟨cur, hcur⟩ := hbld.r.typeOf e
        rw [bX] at hcur
        simp at hcur
      have C1 := Lib.hid (CA.out x W.drew ⟨hbelow.os, hbelow.tape, hbelow.output, hbelow.size, hbelow.block⟩ (eitF l b (S0, f0) pre).1 v' (hbld.gr (Gr.refl W).drew) hlb)
      have HS : Hid (Eit8 W.drew w.heap.size Bx 0 g b (val x.val)) := Lib.hid ⟨m0, m1, cell_of_row W _ 0 _ _ (0, 0) bX, cell_of_row W _ 1 _ _ (0, 0) bX, cell_of_row W _ 2 _ _ (0, 0) bX, cell_of_row W _ 3 _ _ (0, 0) bX, cell_of_row W _ 4 _ _ (0, 0) bX, cell_of_row W _ 5 _ _ (0, 0) bX⟩
      have hstep := eitF_snoc l b (S0, f0) pre x
      have hln : (addS l[x.val] b (eitF l b (S0, f0) pre).1).1.length ≤ 1000000000000 := HL2.out pre x hlt
      obtain ⟨r, hr⟩ : ∃ r, eitF l b (S0, f0) pre = r := ⟨_, rfl⟩
      rw [hr] at hN hstep C1 hbld hln
      have HB1 := Lib.hid hbld
      have HM := Lib.hid hmid
      clear hr hlb hbelow
      obtain ⟨S1, f1⟩ := r
      obtain ⟨q, hq⟩ : ∃ q, addS l[x.val] b S1 = q := ⟨_, rfl⟩
      simp only at hstep hN C1 hln
      rw [hq] at C1 hstep hln
      obtain ⟨S3, f3⟩ := q
      have HST := Lib.hid hstep
      clear hq hstep hbld hmid
      replace C1 : Hid (Calls Tryz.prog 133 #[.pointer (some ⟨g, 0, none⟩), aggOf (val x.val), .int .i64 b] W.drew (fun e w' => e = .returned (.int .i64 f3) ∧ ∃ v'', Bld B g w' S3 v'' ∧ BStep g W.drew v' w' v'')) := C1
      have c2 := cell_of_row W _ 0 _ _ (0, 0) hN
      have hg0 : w.heap.size ≠ g ∧ w.heap.size + 1 ≠ g ∧ Bx ≠ g ∧ N2 ≠ g ∧ Wb.heap.size ≠ g ∧ pb ≠ g := by omega
      obtain ⟨g0, g1, g2, g3, g4, g5⟩ := hg0
      unfold aggOf at C1 ⊢
      gi_wp2
      refine region_in_round (S := fun w' => Eit8 w' w.heap.size Bx 0 g b (val x.val)) (by kernel_rfl) ?hQ ?hd ?_
      case hQ => rintro ⟨a, w, h⟩; exact h
      case hd => simp
      refine wpAnyH_take (i := 0) (oi := _) (v := .pointer (some ⟨g, 0, none⟩)) rfl (by kernel_rfl) (by kernel_rfl) (by kernel_rfl) (fun _ _ _ h => h) (Or.inl ⟨by rfl, ?_⟩) HS.out ?_
      · intro w' hS
        obtain ⟨s0, s1, s2, s3, s4, s5, s6, s7⟩ := hS
        go_simp
      simp only [Act.put, List.setIfInBounds_toArray]
      refine wpAnyH_take (i := 1) (oi := _) (v := .pointer (some ⟨g, 0, none⟩)) rfl (by kernel_rfl) (by kernel_rfl) (by kernel_rfl) (fun _ _ _ h => h) (Or.inl ⟨by rfl, ?_⟩) HS.out ?_
      · intro w' hS
        obtain ⟨s0, s1, s2, s3, s4, s5, s6, s7⟩ := hS
        go_simp
      simp only [Act.put]
      refine wpAnyH_take (i := 2) (oi := _) (v := .agg #[val x.val 0, val x.val 1, val x.val 2, val x.val 3, val x.val 4, val x.val 5]) rfl (by kernel_rfl) (by kernel_rfl) (by kernel_rfl) (fun _ _ _ h => h) (Or.inl ⟨by rfl, ?_⟩) HS.out ?_
      · intro w' hS
        obtain ⟨s0, s1, s2, s3, s4, s5, s6, s7⟩ := hS
        go_simp
      simp only [Act.put]
      refine wpAnyH_take (i := 3) (oi := _) (v := .int .i64 b) rfl (by kernel_rfl) (by kernel_rfl) (by kernel_rfl) (fun _ _ _ h => h) (Or.inl ⟨by rfl, ?_⟩) HS.out ?_
      · intro w' hS
        obtain ⟨s0, s1, s2, s3, s4, s5, s6, s7⟩ := hS
        go_simp
      simp only [Act.put]
      refine wpAnyH_ready (rs := [4, 5]) (by kernel_rfl) (by simp) ?_
      refine AllReadyH.cons rfl (fun K hK => ?_) (AllReadyH.cons rfl (fun K hK => ?_) AllReadyH.nil)
      · go_simp
        refine C1.out.mono ?_
        rintro e w1 ⟨rfl, v3, hb3, hs3⟩
        have HB3 := Lib.hid hb3
        have HM3 := Lib.hid (show BStep g W v' w1 v3 from (Gr.refl W).drew.bstep hs3)
        have z3 : W.heap.size ≤ w1.heap.size := hs3.size
        have o0 : v3.ownBlock ≠ some w.heap.size := hs3.other (by show _ < W.heap.size; omega) hv0
        have o1 : v3.ownBlock ≠ some (w.heap.size + 1) := hs3.other (by show _ < W.heap.size; omega) hv1
        have o2 : v3.ownBlock ≠ some N2 := hs3.other (by show _ < W.heap.size; omega) hv2
        have ox : v3.ownBlock ≠ some Bx := hs3.other (by show _ < W.heap.size; omega) hvx
        have hN3 := (hs3.block N2 (by show _ < W.heap.size; omega) g3 hv2).trans hN
        have d2 := cell_of_row w1 _ 0 _ _ (0, 0) hN3
        have HS3 := Lib.hid (HS.out.step hs3 ⟨g0, hv0⟩ ⟨g1, hv1⟩ ⟨g2, hvx⟩)
        clear hb3 hs3
        dsimp only
        refine hK.out _ _ HS3.out (fun _ => ?_)
        clear hK K
        refine wpAnyH_ready (rs := [5]) (by kernel_rfl) (by simp) ?_
        refine AllReadyH.cons rfl (fun K hK => ?_) AllReadyH.nil
        go_simp
        refine hK.out _ _ HS3.out (fun _ => ?_)
        clear hK K
        refine wpAnyH_ready (rs := [6]) (by kernel_rfl) (by simp) ?_
        refine AllReadyH.cons rfl (fun K hK => ?_) AllReadyH.nil
        go_simp
        refine hK.out _ _ HS3.out (fun _ => ?_)
        clear hK K
        refine wpAnyH_ready (rs := [7]) (by kernel_rfl) (by simp) ?_
        refine AllReadyH.cons rfl (fun K hK => ?_) AllReadyH.nil
        go_simp
        refine (put_rx B g S3 ⟨noB, true, f3, f1⟩ v3 0 0 0 0 w1 HB3.out (by omega) hln (wd_none 0) (wd_none 1) (wd_none 2) (wd_none 3)).mono ?_
        rintro e w2 ⟨rfl, v4, hb4, hs4⟩
        have z4 := hs4.size
        have hN4 := (hs4.block N2 (by omega) g3 o2).trans hN3
        have d4 := cell_of_row w2 _ 0 _ _ (0, 0) hN4
        have e4 := frozen_of_row w2 _ 0 _ _ hN4
        have HS4 := Lib.hid (HS3.out.step hs4 ⟨g0, o0⟩ ⟨g1, o1⟩ ⟨g2, ox⟩)
        have HF := Lib.hid (show KeepsFrom W2.heap.size W (w2.setCell ⟨N2, 0, none⟩ (.int .i64 S3.length)) from ((HM3.out.keepsFrom HB1.out _).trans (hs4.keepsFrom HB3.out _)).trans ((KeepsOthers.setCell _ _ _).from _))
        have HT := Lib.hid (show Two Wb.heap.size pb W (w2.setCell ⟨N2, 0, none⟩ (.int .i64 S3.length)) from ⟨(Below.heap_setCell w2 _ _ _ (by show Wb.heap.size ≠ N2; omega)).trans ((HM3.out.trans hs4).block _ (by omega) g4 hv3), (Below.heap_setCell w2 _ _ _ (by show pb ≠ N2; omega)).trans ((HM3.out.trans hs4).block _ (by omega) g5 hvp)⟩)
        have HI := Lib.hid (show TurnI B g N2 W2 v1 (eitF l b (S0, f0) (pre ++ [x])) (w2.setCell ⟨N2, 0, none⟩ (.int .i64 S3.length)) by
          rw [HST.out]
          refine ⟨v4, hb4.setFar _ (by omega) (hs4.other (by omega) o2), ((HM.out.step HM3.out).step hs4).set _, ?_⟩
          have := heap_setCell_same w2 N2 0 _ _ (.int .i64 S3.length) hN4
          simpa [forkOn] using this)
        clear hb4 hs4 HST
        dsimp only
        refine hK.out _ _ HS4.out (fun _ => ?_)
        clear hK K
        refine wpAnyH_ready (rs := [8]) (by kernel_rfl) (by simp) ?_
        refine AllReadyH.cons rfl (fun K hK => ?_) AllReadyH.nil
        go_simp
        refine hK.out _ _ (HS4.out.set _ (by omega) (by omega) (by omega)) (fun _ => ?_)
        clear hK K
        refine wpAnyH_done (by kernel_rfl) ?_ _
        exact ⟨HF.out, HT.out, HI.out⟩
      · go_simp
        refine hK.out _ _ HS.out (fun _ => ?_)
        clear hK K
        refine wpAnyH_ready (rs := [4]) (by kernel_rfl) (by simp) ?_
        refine AllReadyH.cons rfl (fun K hK => ?_) AllReadyH.nil
        go_simp
        refine C1.out.mono ?_
        rintro e w1 ⟨rfl, v3, hb3, hs3⟩
        have HB3 := Lib.hid hb3
        have HM3 := Lib.hid (show BStep g W v' w1 v3 from (Gr.refl W).drew.bstep hs3)
        have z3 : W.heap.size ≤ w1.heap.size := hs3.size
        have o0 : v3.ownBlock ≠ some w.heap.size := hs3.other (by show _ < W.heap.size; omega) hv0
        have o1 : v3.ownBlock ≠ some (w.heap.size + 1) := hs3.other (by show _ < W.heap.size; omega) hv1
        have o2 : v3.ownBlock ≠ some N2 := hs3.other (by show _ < W.heap.size; omega) hv2
        have ox : v3.ownBlock ≠ some Bx := hs3.other (by show _ < W.heap.size; omega) hvx
        have hN3 := (hs3.block N2 (by show _ < W.heap.size; omega) g3 hv2).trans hN
        have d2 := cell_of_row w1 _ 0 _ _ (0, 0) hN3
        have HS3 := Lib.hid (HS.out.step hs3 ⟨g0, hv0⟩ ⟨g1, hv1⟩ ⟨g2, hvx⟩)
        clear hb3 hs3
        dsimp only
        refine hK.out _ _ HS3.out (fun _ => ?_)
        clear hK K
        refine wpAnyH_ready (rs := [6]) (by kernel_rfl) (by simp) ?_
        refine AllReadyH.cons rfl (fun K hK => ?_) AllReadyH.nil
        go_simp
        refine hK.out _ _ HS3.out (fun _ => ?_)
        clear hK K
        refine wpAnyH_ready (rs := [7]) (by kernel_rfl) (by simp) ?_
        refine AllReadyH.cons rfl (fun K hK => ?_) AllReadyH.nil
        go_simp
        refine (put_rx B g S3 ⟨noB, true, f3, f1⟩ v3 0 0 0 0 w1 HB3.out (by omega) hln (wd_none 0) (wd_none 1) (wd_none 2) (wd_none 3)).mono ?_
        rintro e w2 ⟨rfl, v4, hb4, hs4⟩
        have z4 := hs4.size
        have hN4 := (hs4.block N2 (by omega) g3 o2).trans hN3
        have d4 := cell_of_row w2 _ 0 _ _ (0, 0) hN4
        have e4 := frozen_of_row w2 _ 0 _ _ hN4
        have HS4 := Lib.hid (HS3.out.step hs4 ⟨g0, o0⟩ ⟨g1, o1⟩ ⟨g2, ox⟩)
        have HF := Lib.hid (show KeepsFrom W2.heap.size W (w2.setCell ⟨N2, 0, none⟩ (.int .i64 S3.length)) from ((HM3.out.keepsFrom HB1.out _).trans (hs4.keepsFrom HB3.out _)).trans ((KeepsOthers.setCell _ _ _).from _))
        have HT := Lib.hid (show Two Wb.heap.size pb W (w2.setCell ⟨N2, 0, none⟩ (.int .i64 S3.length)) from ⟨(Below.heap_setCell w2 _ _ _ (by show Wb.heap.size ≠ N2; omega)).trans ((HM3.out.trans hs4).block _ (by omega) g4 hv3), (Below.heap_setCell w2 _ _ _ (by show pb ≠ N2; omega)).trans ((HM3.out.trans hs4).block _ (by omega) g5 hvp)⟩)
        have HI := Lib.hid (show TurnI B g N2 W2 v1 (eitF l b (S0, f0) (pre ++ [x])) (w2.setCell ⟨N2, 0, none⟩ (.int .i64 S3.length)) by
          rw [HST.out]
          refine ⟨v4, hb4.setFar _ (by omega) (hs4.other (by omega) o2), ((HM.out.step HM3.out).step hs4).set _, ?_⟩
          have := heap_setCell_same w2 N2 0 _ _ (.int .i64 S3.length) hN4
          simpa [forkOn] using this)
        clear hb4 hs4 HST
        dsimp only
        refine hK.out _ _ HS4.out (fun _ => ?_)
        clear hK K
        refine wpAnyH_ready (rs := [8]) (by kernel_rfl) (by simp) ?_
        refine AllReadyH.cons rfl (fun K hK => ?_) AllReadyH.nil
        go_simp
        refine hK.out _ _ (HS4.out.set _ (by omega) (by omega) (by omega)) (fun _ => ?_)
        clear hK K
        refine wpAnyH_done (by kernel_rfl) ?_ _
        exact ⟨HF.out, HT.out, HI.out⟩
    case done =>
      rintro D ys W hD rfl ⟨v', hbld, hmid, hN⟩ hK
      have c2 := cell_of_row W _ 0 _ _ (0, 0) hN
      gi_wp2
      refine ⟨by simp, .inl ⟨_, _, rfl, run_takeDeferred hK, ?_⟩⟩
      have hk : W.grownBy (W.putObj D (.deferred none)) (some D) := grownBy_putObj' W D _
      have hkr : ∀ r, some D = some r → ∃ o : Obj, W.heap[r]? = some o ∧ o.isCells = false := fun r e => by cases e; exact ⟨_, hK, rfl⟩
      have h1 := hmid.turn hk (fun r e => by cases e; exact hD)
      exact ⟨_, results_tmp rfl _ _ _, rfl, v', hbld.turn hk hkr, (HE.out.step.gr k2).mid h1 (by omega)⟩
    case stop =>
      rintro D c pre W _ _ h _
      exact h.elim
end Go.Proofs.YtikaamonmaohjaaGreatDoor
