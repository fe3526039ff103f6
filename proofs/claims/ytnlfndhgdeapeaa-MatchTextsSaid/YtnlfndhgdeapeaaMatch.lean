/- Match. -/
import Derived.Test.YtnlfndhgdeapeaaMSt
import Derived.Test.YtnlfndhgdeapeaaShelf
namespace Go.Proofs.Ytnlfndhgdeapeaa
open Go.RowKit
set_option maxRecDepth 100000
set_option maxHeartbeats 4000000

theorem make_ints (n : Nat) (hn : n ≤ 1000000000000) (W : World) : (Instr.makeSlice 73 (.int .i64 (n : Int)) (.int .i64 (n : Int))).run Try.prog W = .ok (.slice (some ⟨W.heap.size, 0, none⟩) n n) (W.alloc (.cells (intC (List.replicate n 0)).toArray 3)) := by
  obtain ⟨i0, hi, hz0, hz1, hz2⟩ := info_parts int_info
  have h := run_make (P := Try.prog) W 73 3 i0 (.int .i64 0) Try.underlying73 hi hz0 .i64 .i64 (n : Int) (n : Int) (by omega) (Int.le_refl _) (by rw [hz2]; omega) (by omega)
  rw [h, hz1]
  have e : madeCells (Value.int .i64 0).cells (n * 1) = (intC (List.replicate n 0)).toArray := by
    apply Array.ext
    · simp [madeCells, intC]
    · intro i h1 h2
      have : i % 1 = 0 := Nat.mod_one i
      simp [madeCells, intC, Value.cells, this]
  simp only [Int.toNat_natCast, e]
theorem enSt_A (w : World) (S : List St) (sv : Value) (hr : RowSt w 0 sv S) : EnSt w.heap.size (w.heap.size + 1) w.heap.size ((w.alloc (.cells (intC (List.replicate S.length 0)).toArray 3)).alloc (.cells #[sv, .slice (some ⟨w.heap.size, 0, none⟩) S.length S.length, .slice none 0 0, .int .i64 0] 75)).drew S 0 (List.replicate S.length 0) [] [] sv (.slice none 0 0) (.slice none 0 0) := by
  have a1 := heap_alloc_new w (.cells (intC (List.replicate S.length 0)).toArray 3)
  have a2 := heap_alloc_new (w.alloc (.cells (intC (List.replicate S.length 0)).toArray 3)) (.cells #[sv, .slice (some ⟨w.heap.size, 0, none⟩) S.length S.length, .slice none 0 0, .int .i64 0] 75)
  rw [show (w.alloc (.cells (intC (List.replicate S.length 0)).toArray 3)).heap.size = w.heap.size + 1 by simp] at a2
  have k1 : Gr w (w.alloc (.cells (intC (List.replicate S.length 0)).toArray 3)) := (Gr.refl w).alloc _ _
  have k2 : Gr (w.alloc (.cells (intC (List.replicate S.length 0)).toArray 3)) ((w.alloc (.cells (intC (List.replicate S.length 0)).toArray 3)).alloc (.cells #[sv, .slice (some ⟨w.heap.size, 0, none⟩) S.length S.length, .slice none 0 0, .int .i64 0] 75)) := (Gr.refl _).alloc _ _
  have hs := fun c e => (hr.lt c e).2
  exact ⟨a2, hr.keep (fun c e => ((k1.trans k2).drew).b.block c (hs c e)), (k2.b.block _ (by simp)).trans a1, by simp, RowI.nil _ _, RowI.nil _ _, by omega, fun e => by have := hs _ e; omega, fun e => by have := hs _ e; omega, hs, by simp [Value.ownBlock], by simp [Value.ownBlock], by simp [Value.ownBlock], by simp [Value.ownBlock], fun k e => (by cases e), by omega, Nat.le_refl _⟩
theorem enSt_B (w : World) (S : List St) (sv : Value) (hr : RowSt w 0 sv S) : EnSt w.heap.size w.heap.size (w.heap.size + 1) ((w.alloc (.cells #[sv, .slice (some ⟨w.heap.size + 1, 0, none⟩) S.length S.length, .slice none 0 0, .int .i64 0] 75)).alloc (.cells (intC (List.replicate S.length 0)).toArray 3)).drew S 0 (List.replicate S.length 0) [] [] sv (.slice none 0 0) (.slice none 0 0) := by
  have a1 := heap_alloc_new w (.cells #[sv, .slice (some ⟨w.heap.size + 1, 0, none⟩) S.length S.length, .slice none 0 0, .int .i64 0] 75)
  have a2 := heap_alloc_new (w.alloc (.cells #[sv, .slice (some ⟨w.heap.size + 1, 0, none⟩) S.length S.length, .slice none 0 0, .int .i64 0] 75)) (.cells (intC (List.replicate S.length 0)).toArray 3)
  rw [show (w.alloc (.cells #[sv, .slice (some ⟨w.heap.size + 1, 0, none⟩) S.length S.length, .slice none 0 0, .int .i64 0] 75)).heap.size = w.heap.size + 1 by simp] at a2
  have k1 : Gr w (w.alloc (.cells #[sv, .slice (some ⟨w.heap.size + 1, 0, none⟩) S.length S.length, .slice none 0 0, .int .i64 0] 75)) := (Gr.refl w).alloc _ _
  have k2 : Gr (w.alloc (.cells #[sv, .slice (some ⟨w.heap.size + 1, 0, none⟩) S.length S.length, .slice none 0 0, .int .i64 0] 75)) ((w.alloc (.cells #[sv, .slice (some ⟨w.heap.size + 1, 0, none⟩) S.length S.length, .slice none 0 0, .int .i64 0] 75)).alloc (.cells (intC (List.replicate S.length 0)).toArray 3)) := (Gr.refl _).alloc _ _
  have hs := fun c e => (hr.lt c e).2
  exact ⟨(k2.b.block _ (by simp)).trans a1, hr.keep (fun c e => ((k1.trans k2).drew).b.block c (hs c e)), a2, by simp, RowI.nil _ _, RowI.nil _ _, by omega, fun e => by have := hs _ e; omega, fun e => by have := hs _ e; omega, hs, by simp [Value.ownBlock], by simp [Value.ownBlock], by simp [Value.ownBlock], by simp [Value.ownBlock], fun k e => (by cases e), Nat.le_refl _, by omega⟩
theorem contains_any (W : World) (B : Nat) (v : Value) (l : List Nat) (h : RowI W B v l) (hl : l.length ≤ 1000000000000) :
    Calls Try.prog 30 #[v, .int .i64 0] W fun e w' => e = .returned (.bool (l.contains 0)) ∧ W = w' := by
  obtain ⟨A, c, rfl⟩ := h.form
  cases l with
  | nil => exact (Try.slices_Contains_int_empty A c 0 W).mono fun e w' ⟨h1, h2⟩ => ⟨h1, h2.symm⟩
  | cons x r =>
    obtain ⟨g, rfl, -⟩ := h.cells (i := 0) (by simp)
    refine (Try.slices_Contains_int g 0 (x :: r).length c ((x :: r).map fun x : Nat => (x : Int)) 0 W (by simp) (by omega) (fun j hj => ?_)).mono fun e w' ⟨h1, h2⟩ => ⟨?_, h2.symm⟩
    · obtain ⟨g', e, hc⟩ := h.cells (i := j) (by simpa using hj)
      obtain rfl : g = g' := by simpa using e
      rw [Nat.zero_add, hc]
      rw [List.getD_eq_getElem?_getD, List.getElem?_map, List.getElem?_eq_getElem (by simpa using hj)]
      rfl
    · rw [h1]
      congr 2
      rw [List.take_of_length_le (by simp)]
      rw [Bool.eq_iff_iff]
      simp only [List.contains_iff_mem, List.mem_map]
      constructor
      · rintro ⟨a, ha, e⟩
        obtain rfl : a = 0 := by omega
        exact ha
      · intro ha
        exact ⟨0, ha, rfl⟩
theorem match_any (P : Nat) (r : List St × Nat) (b : ByteArray) (w : World) (h : ProgAt w P r) (hok : StOk r.1) (hf : r.2 < r.1.length) (hS : r.1.length ≤ 1000000000000) (hb : b.size ≤ 1000000000000) :
    Calls Try.prog 12 #[.pointer (some ⟨P, 0, none⟩), .string b] w fun e w' => e = .returned (.bool (matchS r b.data.toList)) ∧ Gr w w' := by
  obtain ⟨sv, hP, hr⟩ := h
  obtain ⟨S, f0⟩ := r
  simp only at hr hok hf hS hP
  have hm : matchS (S, f0) b.data.toList = (goS S b.data.toList 0 (enterS S 0 (List.replicate S.length 0) [] f0).1 (enterS S 0 (List.replicate S.length 0) [] f0).2).contains 0 := by
    unfold matchS
    cases S with
    | nil => simp at hf
    | cons => rfl
  rw [hm]
  obtain ⟨sb, sc, rfl, -⟩ := hr.cellsAt hf
  have c0 := cell_of_row w _ 0 _ _ (0, 0) hP
  have c1 := cell_of_row w _ 1 _ _ (0, 0) hP
  have HR := Lib.hid hr
  have HOK := Lib.hid hok
  have hmk := make_ints S.length hS
  have n0 : ((S.length : Int) == 0) = false := by simp; rintro rfl; simp at hf
  have n1 : ¬ S.length = 0 := by omega
  have n2 : (0 : Int) ≤ (S.length : Int) := by omega
  have hun0 : ([] : List Nat).length + unent 0 (List.replicate S.length 0) ≤ S.length := by have := unent_le 0 (List.replicate S.length 0); simpa using this
  have t0 : TurnOk S 0 (enterS S 0 (List.replicate S.length 0) [] f0) := enterS_ok hok (turn0_ok (by simp)) hf
  obtain ⟨r0, hr0⟩ : ∃ r0, enterS S 0 (List.replicate S.length 0) [] f0 = r0 := ⟨_, rfl⟩
  rw [hr0] at t0
  rw [hr0]
  have HR0 := Lib.hid hr0
  obtain ⟨E0, now0⟩ := r0
  obtain ⟨Q, hQ⟩ : ∃ Q, goS S b.data.toList 0 E0 now0 = Q := ⟨_, rfl⟩
  have HQ : Hid (goS S (b.data.toList.drop 0) 0 E0 now0 = Q) := Lib.hid hQ
  simp only
  rw [hQ]
  have T0 := Lib.hid t0
  clear hm hP hr hok hQ hr0 t0
  go_enter Try.func12, Try.ntmps12
  go_wp2
  go_region_held3 (fun w' => w'.cell? ⟨P, 0, none⟩ = some (.slice (some ⟨sb, 0, none⟩) S.length sc)) (go_keep) (fail)
  all_goals
    first
    | (have HE := Lib.hid (enSt_A w S _ HR.out)
       have HG : Hid (Gr w _) := Lib.hid (((Gr.refl w).alloc (intC (List.replicate S.length 0)).toArray 3).alloc #[.slice (some ⟨sb, 0, none⟩) S.length sc, .slice (some ⟨w.heap.size, 0, none⟩) S.length S.length, .slice none 0 0, .int .i64 0] 75).drew
       obtain ⟨W0, hW0⟩ : ∃ W0, ((w.alloc (.cells (intC (List.replicate S.length 0)).toArray 3)).alloc (.cells #[.slice (some ⟨sb, 0, none⟩) S.length sc, .slice (some ⟨w.heap.size, 0, none⟩) S.length S.length, .slice none 0 0, .int .i64 0] 75)).drew = W0 := ⟨_, rfl⟩
       rw [hW0] at HE HG
       rw [hW0]
       obtain ⟨R, hR⟩ : ∃ R, R = w.heap.size + 1 := ⟨_, rfl⟩
       rw [← hR] at HE
       rw [← hR]
       obtain ⟨B, eb, hB1, hB2, HE2⟩ : ∃ B eb, w.heap.size ≤ B ∧ B ≤ W0.heap.size ∧ Hid (EnSt B R eb W0 S 0 (List.replicate S.length 0) [] [] (.slice (some ⟨sb, 0, none⟩) S.length sc) (.slice none 0 0) (.slice none 0 0)) := ⟨_, _, Nat.le_refl _, HG.out.size, HE⟩)
    | (have HE := Lib.hid (enSt_B w S _ HR.out)
       have HG : Hid (Gr w _) := Lib.hid (((Gr.refl w).alloc #[.slice (some ⟨sb, 0, none⟩) S.length sc, .slice (some ⟨w.heap.size + 1, 0, none⟩) S.length S.length, .slice none 0 0, .int .i64 0] 75).alloc (intC (List.replicate S.length 0)).toArray 3).drew
       obtain ⟨W0, hW0⟩ : ∃ W0, ((w.alloc (.cells #[.slice (some ⟨sb, 0, none⟩) S.length sc, .slice (some ⟨w.heap.size + 1, 0, none⟩) S.length S.length, .slice none 0 0, .int .i64 0] 75)).alloc (.cells (intC (List.replicate S.length 0)).toArray 3)).drew = W0 := ⟨_, rfl⟩
       rw [hW0] at HE HG
       rw [hW0]
       obtain ⟨R, hR⟩ : ∃ R, R = w.heap.size := ⟨_, rfl⟩
       obtain ⟨B, eb, hB1, hB2, HE2⟩ : ∃ B eb, w.heap.size ≤ B ∧ B ≤ W0.heap.size ∧ Hid (EnSt B R eb W0 S 0 (List.replicate S.length 0) [] [] (.slice (some ⟨sb, 0, none⟩) S.length sc) (.slice none 0 0) (.slice none 0 0)) := ⟨_, _, Nat.le_refl _, HG.out.size, by rw [hR]; exact HE⟩
       rw [← hR])
    clear hW0 hR HE hmk
    have CE := Lib.hid (enter_any B R eb S 0 (List.replicate S.length 0) [] _ _ _ f0 W0 HE2.out HOK.out hf hS (by omega) hun0)
    have d1 := HG.out.cell c1
    have d0 := HG.out.cell c0
    have hr1 := HR0.out
    unfold enterS at hr1
    rw [hr1] at CE
    clear hr1
    go_wp2_with fail
    refine CE.out.mono ?_
    rintro e w1 ⟨lv1, tv1, rfl, hst1, hch1⟩
    have hBW := hch1.below HE2.out.br HE2.out.be (fun j e => by cases e) (fun j e => by cases e) hB2
    have HG1 : Hid (Gr w w1) := Lib.hid ⟨HG.out.b.trans (hBW.mono hB1)⟩
    have HM1 : Hid (MSt B R eb w1 S 0 E0 [] now0 (.slice (some ⟨sb, 0, none⟩) S.length sc) lv1 (.slice none 0 0) tv1) := Lib.hid (MSt.of hst1)
    clear hst1 hch1 hBW d0 d1 CE HE2
    go_wp2
    go_loopw [6, 7, 8] (fun vn vt va wr => ∃ (k : Nat) (E now old : List Nat) (lv : Value), va = .int .i64 k ∧ k ≤ b.size ∧ Hid (MSt B R eb wr S k E old now (.slice (some ⟨sb, 0, none⟩) S.length sc) lv vt vn) ∧ Hid (E.length = S.length ∧ (∀ x ∈ now, x < S.length) ∧ now.length ≤ S.length) ∧ Hid (goS S (b.data.toList.drop k) k E now = Q) ∧ Hid (Gr w wr)) (fun _ _ va _ => b.size - (intOf va).toNat)
    case atStart => exact ⟨0, E0, now0, [], lv1, rfl, Nat.zero_le _, HM1, Lib.hid ⟨T0.out.e, T0.out.s, by have := T0.out.u; simp only at this; omega⟩, HQ, HG1⟩
    case round =>
      clear HM1 HQ HG1 HR HR0 T0
      obtain ⟨k, E1, now, old, lv2, rfl, hk, HM, HT, HQ2, HG2⟩ := hrel
      obtain ⟨An, cn, rfl⟩ := HM.out.nw.form
      obtain ⟨At, ct, rfl⟩ := HM.out.en.t.form
      have c0r := HG2.out.cell c0
      by_cases hgo : k < b.size ∧ now ≠ []
      · obtain ⟨hlt, hne⟩ := hgo
        have hl0 : 0 < now.length := by cases now with | nil => exact absurd rfl hne | cons => simp
        have hdr : b.data.toList.drop k = b[k] :: b.data.toList.drop (k + 1) := by
          rw [List.drop_eq_getElem_cons (by simpa using hlt)]
          rfl
        have hq := HQ2.out
        rw [hdr, goS_step S _ _ _ _ _ hne] at hq
        obtain ⟨c, hc⟩ : ∃ c, b[k].toNat = c := ⟨_, rfl⟩
        have hc2 : c < 256 := by rw [← hc]; exact b[k].toNat_lt
        rw [hc] at hq
        obtain ⟨Q2, hq2⟩ : ∃ Q2, turnS S (k + 1) c E1 now = Q2 := ⟨_, rfl⟩
        rw [hq2] at hq
        have HQ3 := Lib.hid hq
        have HQ4 : Hid ((now.drop 0).foldl (byteS S (k + 1) c) (E1, []) = Q2) := Lib.hid (by rw [← hq2]; rfl)
        have HM2 := Lib.hid ((HM.out.turn (k + 1)).empty)
        obtain ⟨-, -, -, c3, -, f3⟩ := HM.out.en.cells
        have HBl := HM.out.en.br
        have HT0 : Hid (TurnOk S (k + 1) (E1, [])) := Lib.hid (turn0_ok HT.out.1)
        have i1 : (k : Int) < (b.size : Int) := by omega
        have i2 : (0 : Int) < (now.length : Int) := by omega
        have hG3 : Hid (∀ u, Gr w (wr.setCell ⟨R, 3, none⟩ u)) := Lib.hid fun u => ⟨HG2.out.b.setCell (by show w.heap.size ≤ R; omega) u⟩
        have d0 : ∀ u, (wr.setCell ⟨R, 3, none⟩ u).cell? ⟨P, 0, none⟩ = some (.slice (some ⟨sb, 0, none⟩) S.length sc) := fun u => (hG3.out u).cell c0
        clear hq hq2 hdr HM
        go_wp2
        have W1e : wr.setCell ⟨R, 3, none⟩ (.int .i64 ((k + 1 : Nat) : Int)) = wr.setCell ⟨R, 3, none⟩ (.int .i64 ((k : Int) + 1)) := rfl
        rw [W1e] at HM2
        have HG4 := Lib.hid (hG3.out (.int .i64 ((k : Int) + 1)))
        obtain ⟨W1, hW1⟩ : ∃ W1, wr.setCell ⟨R, 3, none⟩ (.int .i64 ((k : Int) + 1)) = W1 := ⟨_, rfl⟩
        rw [hW1] at HM2 HG4
        rw [hW1]
        clear hW1 W1e d0 hG3 c3 f3 c0r HG2 HQ2
        go_loopw [7, 52] (fun vt vi wq => ∃ (i : Nat) (E' set' : List Nat) (lv' : Value), vi = .int .i64 i ∧ i ≤ now.length ∧ Hid (MSt B R eb wq S (k + 1) E' set' now (.slice (some ⟨sb, 0, none⟩) S.length sc) lv' vt (.slice An now.length cn)) ∧ Hid (TurnOk S (k + 1) (E', set')) ∧ Hid ((now.drop i).foldl (byteS S (k + 1) c) (E', set') = Q2) ∧ Hid (Gr w wq)) (fun _ vi _ => now.length - (intOf vi).toNat)
        case atStart => exact ⟨0, E1, [], lv2, rfl, Nat.zero_le _, HM2, HT0, HQ4, HG4⟩
        case round =>
          clear HM2 HT0 HQ4 HG4
          obtain ⟨i, E2, set2, lv3, rfl, hi, HMi, HTi, HFi, HGi⟩ := hrel
          obtain ⟨At2, ct2, rfl⟩ := HMi.out.en.t.form
          have d0 := HGi.out.cell c0
          have hnb : now.length ≤ 1000000000000 := by have := HT.out.2.2; omega
          by_cases hlt2 : i < now.length
          · obtain ⟨gn, rfl, hcn⟩ := HMi.out.nw.cells (i := i) hlt2
            obtain ⟨s, hs⟩ : ∃ s, now[i] = s := ⟨_, rfl⟩
            have hsl : s < S.length := by rw [← hs]; exact HT.out.2.1 _ (List.getElem_mem hlt2)
            rw [hs] at hcn
            have hfi := HFi.out
            rw [List.drop_eq_getElem_cons hlt2, List.foldl_cons, hs] at hfi
            obtain ⟨sb', sc', e', -, k5, -, hbs⟩ := HMi.out.en.s.cellsAt hsl
            obtain ⟨rfl, rfl⟩ : sb = sb' ∧ sc = sc' := by simpa using e'
            have hokS := HOK.out.at hsl
            have CH := Lib.hid (fun n => has_any sb (s * 7) (stAt S s).p c (wr.drewN n) hbs hc2)
            have i5 : (i : Int) < (now.length : Int) := by omega
            have i6 : (0 : Int) ≤ (i : Int) := by omega
            have i7 : (s : Int) < (S.length : Int) := by omega
            have i8 : (0 : Int) ≤ (s : Int) := by omega
            unfold byteS at hfi
            clear e' hbs HFi hs
            cases hp : (stAt S s).p c with
            | false =>
              rw [hp] at CH hfi
              have HF5 : Hid ((now.drop (i + 1)).foldl (byteS S (k + 1) c) (E2, set2) = Q2) := Lib.hid hfi
              clear hfi hp
              go_wp2_with fail
              go_quiet ((go_at_call 29; exact quiet_left (CH.out _)))
              go_wp2
              go_roundw
              case rel => exact ⟨i + 1, E2, set2, lv3, rfl, by omega, Lib.hid (HMi.out.gr ((Gr.refl wr).drewN _)), HTi, HF5, Lib.hid (HGi.out.drewN _)⟩
              case measure => simp [intOf]; omega
            | true =>
              rw [hp] at CH hfi
              simp only [if_true] at hfi
              obtain ⟨nx, hnx⟩ : ∃ nx, (stAt S s).nx = nx := ⟨_, rfl⟩
              rw [hnx] at hfi hokS k5
              have TE := Lib.hid (enterS_ok HOK.out HTi.out hokS.1)
              unfold enterS at TE hfi
              have CE := Lib.hid (fun W (q : Gr wr W) => enter_any B R eb S (k + 1) E2 set2 _ _ _ nx W (HMi.out.en.gr q) HOK.out hokS.1 hS (by omega) (HTi.out.u))
              obtain ⟨r2, hr2⟩ : ∃ r2, runF S (k + 1) (4 * S.length + 3) E2 [] set2 (some nx) = r2 := ⟨_, rfl⟩
              try simp only at hfi
              rw [hr2] at TE hfi CE
              obtain ⟨E3, set3⟩ := r2
              have HF5 : Hid ((now.drop (i + 1)).foldl (byteS S (k + 1) c) (E3, set3) = Q2) := Lib.hid hfi
              clear hfi hp hr2 hnx
              go_wp2_with fail
              go_quiet ((go_at_call 29; exact quiet_left (CH.out _)))
              have q0 : Gr wr (wr.drewN nq) := (Gr.refl wr).drewN nq
              have C2 := Lib.hid (CE.out _ q0)
              have d1 := q0.cell d0
              have d5 := q0.cell k5
              have HM3 := Lib.hid (HMi.out.gr q0)
              have HG3 := Lib.hid (HGi.out.trans q0)
              obtain ⟨Wd, hWd⟩ : ∃ Wd, wr.drewN nq = Wd := ⟨_, rfl⟩
              rw [hWd] at C2 d1 d5 HM3 HG3
              rw [hWd]
              clear hWd CE q0 HMi HGi d0 k5 hcn
              go_wp2_with fail
              refine C2.out.mono ?_
              rintro e w3 ⟨lv4, tv4, rfl, hst4, hch4⟩
              have HM4 := Lib.hid (HM3.out.step hst4 hch4)
              have hwb : w.heap.size ≤ Wd.heap.size := HG3.out.size
              have HG4 : Hid (Gr w w3) := Lib.hid ⟨HG3.out.b.trans (hch4.below (B := w.heap.size) (by have := HM3.out.en.br; omega) (by have := HM3.out.en.be; omega) (fun j e => by have := (HM3.out.en.l.lt j e).1; omega) (fun j e => by have := (HM3.out.en.t.lt j e).1; omega) hwb)⟩
              clear hst4 hch4 C2 HM3 HG3
              go_wp2
              go_roundw
              case rel => exact ⟨i + 1, E3, set3, lv4, rfl, by omega, HM4, TE, HF5, HG4⟩
              case measure => simp [intOf]; omega
          · obtain rfl : i = now.length := by omega
            have hf2 := HFi.out
            rw [List.drop_of_length_le (Nat.le_refl _)] at hf2
            obtain rfl : (E2, set2) = Q2 := hf2
            have HMs := Lib.hid HMi.out.swap
            have HQ5 := Lib.hid HQ3.out
            have i4 : ¬ (now.length : Int) < (now.length : Int) := by omega
            clear HMi HFi
            go_wp2
            go_roundw
            case rel => exact ⟨k + 1, E2, set2, now, lv3, rfl, by omega, HMs, Lib.hid ⟨HTi.out.e, HTi.out.s, by have := HTi.out.u; simp only at this; omega⟩, HQ5, HGi⟩
            case measure => simp [intOf]; omega
      · have hend : Q = now := by
          rw [← HQ2.out]
          refine goS_end S _ k E1 now ?_
          by_cases h1 : k < b.size
          · exact .inr (Decidable.byContradiction fun h => hgo ⟨h1, h⟩)
          · exact .inl (List.drop_of_length_le (by simp; omega))
        have HEND := Lib.hid hend
        have CC := Lib.hid (contains_any wr B _ now HM.out.nw (by have := HT.out.2.2; omega))
        by_cases h1 : k < b.size
        · obtain rfl : now = [] := Decidable.byContradiction fun h => hgo ⟨h1, h⟩
          have i1 : (k : Int) < (b.size : Int) := by omega
          clear hend HM HT HQ2 hgo
          go_wp2_with (go_at_call 30; refine CC.out.mono ?_; rintro e w2 ⟨rfl, rfl⟩)
          go_ret
          exact ⟨by rw [HEND.out]; simp, HG2.out⟩
        · have i1 : ¬ (k : Int) < (b.size : Int) := by omega
          clear hend HM HT HQ2 hgo
          go_wp2_with (go_at_call 30; refine CC.out.mono ?_; rintro e w2 ⟨rfl, rfl⟩)
          go_ret
          exact ⟨by rw [HEND.out]; simp, HG2.out⟩
end Go.Proofs.Ytnlfndhgdeapeaa
