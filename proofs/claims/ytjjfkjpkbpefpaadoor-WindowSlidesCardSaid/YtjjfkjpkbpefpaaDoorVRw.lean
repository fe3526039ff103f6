/- The reference's Fn, one way. -/
import Derived.Test.YtjjfkjpkbpefpaaDoorVRfh
namespace Go.Proofs.YtjjfkjpkbpefpaaDoor.Vn
open Go.RowKit
set_option maxRecDepth 100000
set_option maxHeartbeats 4000000
attribute [local irreducible] wpQuiet

theorem rFnW1 (A : Option Addr) (c : Nat) (l : List Sm) (f t : Int) (x : Nat) (r : List Nat) (w : World) (h : RFnH A c l f t x r w) (_hm : leastN 1 ≤ r.length + 1) : RFnC 1 A c l f t x r w := by
  have CC := Lib.hid (rcut_any A c l f t w h.at_ h.hl)
  unfold RCutPost at CC
  have hLl := strL_len l f t
  have HLL : Hid ((strL l f t).length ≤ 1000000) := Lib.hid (by have := h.hl; omega)
  have HV := Lib.hid h.hv
  have hft := h.hft
  have hb1 := h.b1
  have hb2 := h.b2
  have q2 : decide (f ≥ t) = false := decide_eq_false (by omega)
  have hww : IntKind.i64.wrap (t - f) = t - f := by rw [IntKind.wrap_i64]; omega
  obtain ⟨L, hL⟩ : ∃ L, strL l f t = L := ⟨_, rfl⟩
  rw [hL] at CC HLL HV
  have hrl : r.length + 1 = L.length := by
    have := congrArg List.length HV.out
    rw [vals_len] at this
    simpa using this.symm
  have hrb : r.length < 1000000 := by have := HLL.out; omega
  clear hrl
  have HX : Hid (canon (floatOfInt .f64 ((r.length : Int) + 1)) = valF 1 (x :: r) (Flo.ofI (t - f))) := Lib.hid (by rw [foi, ofI_cn _ (by omega)]; unfold valF; simp)
  obtain ⟨s1, hs1⟩ : ∃ s, (sumF (seqOf (x :: r)) (r.length + 1)).1 = s := ⟨_, rfl⟩
  obtain ⟨s2, hs2⟩ : ∃ s, (sumF (seqOf (x :: r)) (r.length + 1)).2 = s := ⟨_, rfl⟩
  have CWW : Hid (∀ A' c' W, FlL W A' (x :: r) → Calls Tryd.prog 30 #[.slice A' (r.length + 1) c'] W fun e w' => e = .returned (.tuple #[.float .f64 s1, .float .f64 s2]) ∧ ∃ m, w' = W.drewN m) := Lib.hid fun A' c' W h => by
    have := rsum_any A' (r.length + 1) c' (seqOf (x :: r)) W (FlL.seq h) (by unfold maxLen; omega)
    rwa [hs1, hs2] at this
  obtain ⟨V, hV⟩ : ∃ V, valF 1 (x :: r) (Flo.ofI (t - f)) = V := ⟨_, rfl⟩
  unfold RFnC
  rw [hV] at HX ⊢
  clear hs1 hs2 hV hL h hLl
  go_enter Tryd.func13, Tryd.ntmps13
  go_wp2_with fail
  refine CC.out.mono ?_
  rintro e w2 ⟨g2, A2, c2, rfl, hat2, hc2⟩
  have HAT := Lib.hid hat2
  have HG2 := Lib.hid g2
  clear hat2 hc2 g2 CC
  go_wp2_with fail
  go_loopw [11, 12] (fun v9 i9 wr => ∃ k : Nat, k ≤ L.length ∧ i9 = .int .i64 k ∧ Hid (OwnF wr w2.heap.size v9 (vals (L.take k))) ∧ Hid (Gr w2 wr)) (fun _ i9 _ => L.length - (intOf i9).toNat)
  case atStart => exact ⟨0, Nat.zero_le _, rfl, Lib.hid (by simpa [vals] using Own1.nil _ _), Lib.hid (Gr.refl _)⟩
  case round =>
    obtain ⟨k, hk, rfl, HO, HG⟩ := hrel
    by_cases hlt : k < L.length
    · obtain ⟨q, hq⟩ : ∃ q, L[k]? = some q := ⟨_, List.getElem?_eq_getElem hlt⟩
      obtain ⟨b, o, rfl, hcells⟩ := (HAT.out.gr HG.out) (by omega)
      obtain ⟨e1, e2⟩ := hcells k q hq _ _ rfl
      have HLS : Hid (vals (L.take (k + 1)) = vals (L.take k) ++ [q.2]) := Lib.hid (by rw [take_s hq]; simp [vals])
      have hk1 : (vals (L.take k)).length ≤ 1000000 := by rw [vals_len, List.length_take]; have := HLL.out; omega
      obtain ⟨qt, qv⟩ := q
      simp only at e1 e2 HLS
      have m1 : (k : Int) < (L.length : Int) := by omega
      have m2 : (0 : Int) ≤ (k : Int) := by omega
      have hll := HLL.out
      clear hq hcells
      have HO4 := Lib.hid (HO.out.gr ((Gr.refl wr).alloc #[.float .f64 qv] 26))
      have HG4 := Lib.hid (HG.out.trans ((Gr.refl wr).alloc #[.float .f64 qv] 26))
      go_wp2_with (first
        | (at_builtin
           refine wpList_app2 rfl (.tmp 39) (.tmp 45) (by rfl) (by rfl) (by rfl) (by rfl) (run_appF (c := 1) (m := [qv]) HO4.out (at1_one (enc := encF) _ qv _) (by simp; omega) HG4.out.size) ?_
           rintro v5 w5 ⟨ho5, hg5, -⟩
           have HO5 : Hid (OwnF w5 w2.heap.size v5 (vals (L.take (k + 1)))) := Lib.hid (by rw [HLS.out]; exact ho5)
           have HG5 : Hid (Gr w2 w5) := Lib.hid (HG4.out.grown hg5 (fun k hk => (HO.out.lt hk).1))
           clear ho5 hg5)
        | fail)
      go_roundw
      case rel => exact ⟨k + 1, by omega, by go_num, HO5, HG5⟩
      case measure => simp [intOf]; omega
    · obtain rfl : k = L.length := by omega
      obtain ⟨A3, c3, rfl, hat3, -, -, -, -⟩ := HO.out.form
      rw [List.take_length, HV.out] at hat3
      have HLN : Hid ((vals (L.take L.length)).length = r.length + 1) := Lib.hid (by rw [List.take_length, HV.out]; rfl)
      rw [HLN.out]
      have HAT3 := Lib.hid hat3
      have HGW := Lib.hid (HG2.out.trans HG.out)
      have CW3 := Lib.hid (CWW.out A3 c3 wr HAT3.out)
      have m3 : ¬ (L.length : Int) < (L.length : Int) := by omega
      have m4 : ((r.length : Int) + 1 == 0) = false := by simp; omega
      have m5 : ¬ (r.length : Int) + 1 = 0 := by omega
      clear hat3
      clear HO HLN
      by_cases m7 : (r.length : Int) + 1 < 2
      all_goals
        go_wp2_with (first
        | (go_at_call 30; refine CW3.out.mono ?_; rintro e w' ⟨rfl, n4, rfl⟩)
        | (go_at_call 37; refine (rcanon_any _ _).mono ?_; rintro e w' ⟨rfl, rfl⟩)
        | fail)
        go_ret2
        exact ⟨by rw [HX.out]; rfl, by first | exact HGW.out | exact HGW.out.drewN _ | exact (HGW.out.drewN _).drewN _ | exact ((HGW.out.drewN _).drewN _).drewN _⟩
end Go.Proofs.YtjjfkjpkbpefpaaDoor.Vn
/- The reference's Fn, one way. -/
namespace Go.Proofs.YtjjfkjpkbpefpaaDoor.Vn
open Go.RowKit
set_option maxRecDepth 100000
set_option maxHeartbeats 4000000
attribute [local irreducible] wpQuiet

theorem rFnW2 (A : Option Addr) (c : Nat) (l : List Sm) (f t : Int) (x : Nat) (r : List Nat) (w : World) (h : RFnH A c l f t x r w) (_hm : leastN 2 ≤ r.length + 1) : RFnC 2 A c l f t x r w := by
  have CC := Lib.hid (rcut_any A c l f t w h.at_ h.hl)
  unfold RCutPost at CC
  have hLl := strL_len l f t
  have HLL : Hid ((strL l f t).length ≤ 1000000) := Lib.hid (by have := h.hl; omega)
  have HV := Lib.hid h.hv
  have hft := h.hft
  have hb1 := h.b1
  have hb2 := h.b2
  have q2 : decide (f ≥ t) = false := decide_eq_false (by omega)
  have hww : IntKind.i64.wrap (t - f) = t - f := by rw [IntKind.wrap_i64]; omega
  obtain ⟨L, hL⟩ : ∃ L, strL l f t = L := ⟨_, rfl⟩
  rw [hL] at CC HLL HV
  have hrl : r.length + 1 = L.length := by
    have := congrArg List.length HV.out
    rw [vals_len] at this
    simpa using this.symm
  have hrb : r.length < 1000000 := by have := HLL.out; omega
  clear hrl
  have HX : Hid (canon (sumL (x :: r)) = valF 2 (x :: r) (Flo.ofI (t - f))) := Lib.hid (sumL_cn _)
  obtain ⟨s1, hs1⟩ : ∃ s, (sumF (seqOf (x :: r)) (r.length + 1)).1 = s := ⟨_, rfl⟩
  obtain ⟨s2, hs2⟩ : ∃ s, (sumF (seqOf (x :: r)) (r.length + 1)).2 = s := ⟨_, rfl⟩
  have CWW : Hid (∀ A' c' W, FlL W A' (x :: r) → Calls Tryd.prog 30 #[.slice A' (r.length + 1) c'] W fun e w' => e = .returned (.tuple #[.float .f64 s1, .float .f64 s2]) ∧ ∃ m, w' = W.drewN m) := Lib.hid fun A' c' W h => by
    have := rsum_any A' (r.length + 1) c' (seqOf (x :: r)) W (FlL.seq h) (by unfold maxLen; omega)
    rwa [hs1, hs2] at this
  obtain ⟨V, hV⟩ : ∃ V, valF 2 (x :: r) (Flo.ofI (t - f)) = V := ⟨_, rfl⟩
  unfold RFnC
  rw [hV] at HX ⊢
  clear hs1 hs2 hV hL h hLl
  go_enter Tryd.func13, Tryd.ntmps13
  go_wp2_with fail
  refine CC.out.mono ?_
  rintro e w2 ⟨g2, A2, c2, rfl, hat2, hc2⟩
  have HAT := Lib.hid hat2
  have HG2 := Lib.hid g2
  clear hat2 hc2 g2 CC
  go_wp2_with fail
  go_loopw [11, 12] (fun v9 i9 wr => ∃ k : Nat, k ≤ L.length ∧ i9 = .int .i64 k ∧ Hid (OwnF wr w2.heap.size v9 (vals (L.take k))) ∧ Hid (Gr w2 wr)) (fun _ i9 _ => L.length - (intOf i9).toNat)
  case atStart => exact ⟨0, Nat.zero_le _, rfl, Lib.hid (by simpa [vals] using Own1.nil _ _), Lib.hid (Gr.refl _)⟩
  case round =>
    obtain ⟨k, hk, rfl, HO, HG⟩ := hrel
    by_cases hlt : k < L.length
    · obtain ⟨q, hq⟩ : ∃ q, L[k]? = some q := ⟨_, List.getElem?_eq_getElem hlt⟩
      obtain ⟨b, o, rfl, hcells⟩ := (HAT.out.gr HG.out) (by omega)
      obtain ⟨e1, e2⟩ := hcells k q hq _ _ rfl
      have HLS : Hid (vals (L.take (k + 1)) = vals (L.take k) ++ [q.2]) := Lib.hid (by rw [take_s hq]; simp [vals])
      have hk1 : (vals (L.take k)).length ≤ 1000000 := by rw [vals_len, List.length_take]; have := HLL.out; omega
      obtain ⟨qt, qv⟩ := q
      simp only at e1 e2 HLS
      have m1 : (k : Int) < (L.length : Int) := by omega
      have m2 : (0 : Int) ≤ (k : Int) := by omega
      have hll := HLL.out
      clear hq hcells
      have HO4 := Lib.hid (HO.out.gr ((Gr.refl wr).alloc #[.float .f64 qv] 26))
      have HG4 := Lib.hid (HG.out.trans ((Gr.refl wr).alloc #[.float .f64 qv] 26))
      go_wp2_with (first
        | (at_builtin
           refine wpList_app2 rfl (.tmp 39) (.tmp 45) (by rfl) (by rfl) (by rfl) (by rfl) (run_appF (c := 1) (m := [qv]) HO4.out (at1_one (enc := encF) _ qv _) (by simp; omega) HG4.out.size) ?_
           rintro v5 w5 ⟨ho5, hg5, -⟩
           have HO5 : Hid (OwnF w5 w2.heap.size v5 (vals (L.take (k + 1)))) := Lib.hid (by rw [HLS.out]; exact ho5)
           have HG5 : Hid (Gr w2 w5) := Lib.hid (HG4.out.grown hg5 (fun k hk => (HO.out.lt hk).1))
           clear ho5 hg5)
        | fail)
      go_roundw
      case rel => exact ⟨k + 1, by omega, by go_num, HO5, HG5⟩
      case measure => simp [intOf]; omega
    · obtain rfl : k = L.length := by omega
      obtain ⟨A3, c3, rfl, hat3, -, -, -, -⟩ := HO.out.form
      rw [List.take_length, HV.out] at hat3
      have HLN : Hid ((vals (L.take L.length)).length = r.length + 1) := Lib.hid (by rw [List.take_length, HV.out]; rfl)
      rw [HLN.out]
      have HAT3 := Lib.hid hat3
      have HGW := Lib.hid (HG2.out.trans HG.out)
      have CW3 := Lib.hid (CWW.out A3 c3 wr HAT3.out)
      have m3 : ¬ (L.length : Int) < (L.length : Int) := by omega
      have m4 : ((r.length : Int) + 1 == 0) = false := by simp; omega
      have m5 : ¬ (r.length : Int) + 1 = 0 := by omega
      have CS := Lib.hid (fun n => rsumL_any A3 c3 (x :: r) (wr.drewN n) (HAT3.out.gr ((Gr.refl wr).drewN n)) (by simp; omega))
      simp only [List.length_cons] at CS
      clear hat3
      clear HO HLN
      by_cases m7 : (r.length : Int) + 1 < 2
      all_goals
        go_wp2_with (first
        | (go_at_call 30; refine CW3.out.mono ?_; rintro e w' ⟨rfl, n4, rfl⟩)
        | (go_at_call 31; refine (CS.out _).mono ?_; rintro e w' ⟨rfl, n5, rfl⟩)
        | (go_at_call 37; refine (rcanon_any _ _).mono ?_; rintro e w' ⟨rfl, rfl⟩)
        | fail)
        go_ret2
        exact ⟨by rw [HX.out]; rfl, by first | exact HGW.out | exact HGW.out.drewN _ | exact (HGW.out.drewN _).drewN _ | exact ((HGW.out.drewN _).drewN _).drewN _⟩
end Go.Proofs.YtjjfkjpkbpefpaaDoor.Vn
/- The reference's Fn, one way. -/
namespace Go.Proofs.YtjjfkjpkbpefpaaDoor.Vn
open Go.RowKit
set_option maxRecDepth 100000
set_option maxHeartbeats 4000000
attribute [local irreducible] wpQuiet

theorem rFnW3 (A : Option Addr) (c : Nat) (l : List Sm) (f t : Int) (x : Nat) (r : List Nat) (w : World) (h : RFnH A c l f t x r w) (_hm : leastN 3 ≤ r.length + 1) : RFnC 3 A c l f t x r w := by
  have CC := Lib.hid (rcut_any A c l f t w h.at_ h.hl)
  unfold RCutPost at CC
  have hLl := strL_len l f t
  have HLL : Hid ((strL l f t).length ≤ 1000000) := Lib.hid (by have := h.hl; omega)
  have HV := Lib.hid h.hv
  have hft := h.hft
  have hb1 := h.b1
  have hb2 := h.b2
  have q2 : decide (f ≥ t) = false := decide_eq_false (by omega)
  have hww : IntKind.i64.wrap (t - f) = t - f := by rw [IntKind.wrap_i64]; omega
  obtain ⟨L, hL⟩ : ∃ L, strL l f t = L := ⟨_, rfl⟩
  rw [hL] at CC HLL HV
  have hrl : r.length + 1 = L.length := by
    have := congrArg List.length HV.out
    rw [vals_len] at this
    simpa using this.symm
  have hrb : r.length < 1000000 := by have := HLL.out; omega
  clear hrl
  have HX : Hid (∀ W, canon (divV W (sumL (x :: r)) (floatOfInt .f64 ((r.length : Int) + 1))) = valF 3 (x :: r) (Flo.ofI (t - f))) := Lib.hid fun W => (divV_c ..).trans (by rw [foi]; unfold valF; simp)
  obtain ⟨s1, hs1⟩ : ∃ s, (sumF (seqOf (x :: r)) (r.length + 1)).1 = s := ⟨_, rfl⟩
  obtain ⟨s2, hs2⟩ : ∃ s, (sumF (seqOf (x :: r)) (r.length + 1)).2 = s := ⟨_, rfl⟩
  have CWW : Hid (∀ A' c' W, FlL W A' (x :: r) → Calls Tryd.prog 30 #[.slice A' (r.length + 1) c'] W fun e w' => e = .returned (.tuple #[.float .f64 s1, .float .f64 s2]) ∧ ∃ m, w' = W.drewN m) := Lib.hid fun A' c' W h => by
    have := rsum_any A' (r.length + 1) c' (seqOf (x :: r)) W (FlL.seq h) (by unfold maxLen; omega)
    rwa [hs1, hs2] at this
  obtain ⟨V, hV⟩ : ∃ V, valF 3 (x :: r) (Flo.ofI (t - f)) = V := ⟨_, rfl⟩
  unfold RFnC
  rw [hV] at HX ⊢
  clear hs1 hs2 hV hL h hLl
  go_enter Tryd.func13, Tryd.ntmps13
  go_wp2_with fail
  refine CC.out.mono ?_
  rintro e w2 ⟨g2, A2, c2, rfl, hat2, hc2⟩
  have HAT := Lib.hid hat2
  have HG2 := Lib.hid g2
  clear hat2 hc2 g2 CC
  go_wp2_with fail
  go_loopw [11, 12] (fun v9 i9 wr => ∃ k : Nat, k ≤ L.length ∧ i9 = .int .i64 k ∧ Hid (OwnF wr w2.heap.size v9 (vals (L.take k))) ∧ Hid (Gr w2 wr)) (fun _ i9 _ => L.length - (intOf i9).toNat)
  case atStart => exact ⟨0, Nat.zero_le _, rfl, Lib.hid (by simpa [vals] using Own1.nil _ _), Lib.hid (Gr.refl _)⟩
  case round =>
    obtain ⟨k, hk, rfl, HO, HG⟩ := hrel
    by_cases hlt : k < L.length
    · obtain ⟨q, hq⟩ : ∃ q, L[k]? = some q := ⟨_, List.getElem?_eq_getElem hlt⟩
      obtain ⟨b, o, rfl, hcells⟩ := (HAT.out.gr HG.out) (by omega)
      obtain ⟨e1, e2⟩ := hcells k q hq _ _ rfl
      have HLS : Hid (vals (L.take (k + 1)) = vals (L.take k) ++ [q.2]) := Lib.hid (by rw [take_s hq]; simp [vals])
      have hk1 : (vals (L.take k)).length ≤ 1000000 := by rw [vals_len, List.length_take]; have := HLL.out; omega
      obtain ⟨qt, qv⟩ := q
      simp only at e1 e2 HLS
      have m1 : (k : Int) < (L.length : Int) := by omega
      have m2 : (0 : Int) ≤ (k : Int) := by omega
      have hll := HLL.out
      clear hq hcells
      have HO4 := Lib.hid (HO.out.gr ((Gr.refl wr).alloc #[.float .f64 qv] 26))
      have HG4 := Lib.hid (HG.out.trans ((Gr.refl wr).alloc #[.float .f64 qv] 26))
      go_wp2_with (first
        | (at_builtin
           refine wpList_app2 rfl (.tmp 39) (.tmp 45) (by rfl) (by rfl) (by rfl) (by rfl) (run_appF (c := 1) (m := [qv]) HO4.out (at1_one (enc := encF) _ qv _) (by simp; omega) HG4.out.size) ?_
           rintro v5 w5 ⟨ho5, hg5, -⟩
           have HO5 : Hid (OwnF w5 w2.heap.size v5 (vals (L.take (k + 1)))) := Lib.hid (by rw [HLS.out]; exact ho5)
           have HG5 : Hid (Gr w2 w5) := Lib.hid (HG4.out.grown hg5 (fun k hk => (HO.out.lt hk).1))
           clear ho5 hg5)
        | fail)
      go_roundw
      case rel => exact ⟨k + 1, by omega, by go_num, HO5, HG5⟩
      case measure => simp [intOf]; omega
    · obtain rfl : k = L.length := by omega
      obtain ⟨A3, c3, rfl, hat3, -, -, -, -⟩ := HO.out.form
      rw [List.take_length, HV.out] at hat3
      have HLN : Hid ((vals (L.take L.length)).length = r.length + 1) := Lib.hid (by rw [List.take_length, HV.out]; rfl)
      rw [HLN.out]
      have HAT3 := Lib.hid hat3
      have HGW := Lib.hid (HG2.out.trans HG.out)
      have CW3 := Lib.hid (CWW.out A3 c3 wr HAT3.out)
      have m3 : ¬ (L.length : Int) < (L.length : Int) := by omega
      have m4 : ((r.length : Int) + 1 == 0) = false := by simp; omega
      have m5 : ¬ (r.length : Int) + 1 = 0 := by omega
      have CS := Lib.hid (fun n => rsumL_any A3 c3 (x :: r) (wr.drewN n) (HAT3.out.gr ((Gr.refl wr).drewN n)) (by simp; omega))
      simp only [List.length_cons] at CS
      clear hat3
      clear HO HLN
      by_cases m7 : (r.length : Int) + 1 < 2
      all_goals
        go_wp2_with (first
        | (go_at_call 30; refine CW3.out.mono ?_; rintro e w' ⟨rfl, n4, rfl⟩)
        | (go_at_call 31; refine (CS.out _).mono ?_; rintro e w' ⟨rfl, n5, rfl⟩)
        | (go_at_call 37; refine (rcanon_any _ _).mono ?_; rintro e w' ⟨rfl, rfl⟩)
        | fail)
        go_ret2
        exact ⟨by rw [HX.out]; rfl, by first | exact HGW.out | exact HGW.out.drewN _ | exact (HGW.out.drewN _).drewN _ | exact ((HGW.out.drewN _).drewN _).drewN _⟩
end Go.Proofs.YtjjfkjpkbpefpaaDoor.Vn
/- The reference's Fn, one way. -/
namespace Go.Proofs.YtjjfkjpkbpefpaaDoor.Vn
open Go.RowKit
set_option maxRecDepth 100000
set_option maxHeartbeats 4000000
attribute [local irreducible] wpQuiet

theorem rFnW4 (A : Option Addr) (c : Nat) (l : List Sm) (f t : Int) (x : Nat) (r : List Nat) (w : World) (h : RFnH A c l f t x r w) (_hm : leastN 4 ≤ r.length + 1) : RFnC 4 A c l f t x r w := by
  have CC := Lib.hid (rcut_any A c l f t w h.at_ h.hl)
  unfold RCutPost at CC
  have hLl := strL_len l f t
  have HLL : Hid ((strL l f t).length ≤ 1000000) := Lib.hid (by have := h.hl; omega)
  have HV := Lib.hid h.hv
  have hft := h.hft
  have hb1 := h.b1
  have hb2 := h.b2
  have q2 : decide (f ≥ t) = false := decide_eq_false (by omega)
  have hww : IntKind.i64.wrap (t - f) = t - f := by rw [IntKind.wrap_i64]; omega
  obtain ⟨L, hL⟩ : ∃ L, strL l f t = L := ⟨_, rfl⟩
  rw [hL] at CC HLL HV
  have hrl : r.length + 1 = L.length := by
    have := congrArg List.length HV.out
    rw [vals_len] at this
    simpa using this.symm
  have hrb : r.length < 1000000 := by have := HLL.out; omega
  clear hrl
  have HX : Hid (canon (extL false (x :: r)) = valF 4 (x :: r) (Flo.ofI (t - f))) := Lib.hid (rfl)
  obtain ⟨s1, hs1⟩ : ∃ s, (sumF (seqOf (x :: r)) (r.length + 1)).1 = s := ⟨_, rfl⟩
  obtain ⟨s2, hs2⟩ : ∃ s, (sumF (seqOf (x :: r)) (r.length + 1)).2 = s := ⟨_, rfl⟩
  have CWW : Hid (∀ A' c' W, FlL W A' (x :: r) → Calls Tryd.prog 30 #[.slice A' (r.length + 1) c'] W fun e w' => e = .returned (.tuple #[.float .f64 s1, .float .f64 s2]) ∧ ∃ m, w' = W.drewN m) := Lib.hid fun A' c' W h => by
    have := rsum_any A' (r.length + 1) c' (seqOf (x :: r)) W (FlL.seq h) (by unfold maxLen; omega)
    rwa [hs1, hs2] at this
  obtain ⟨V, hV⟩ : ∃ V, valF 4 (x :: r) (Flo.ofI (t - f)) = V := ⟨_, rfl⟩
  unfold RFnC
  rw [hV] at HX ⊢
  clear hs1 hs2 hV hL h hLl
  go_enter Tryd.func13, Tryd.ntmps13
  go_wp2_with fail
  refine CC.out.mono ?_
  rintro e w2 ⟨g2, A2, c2, rfl, hat2, hc2⟩
  have HAT := Lib.hid hat2
  have HG2 := Lib.hid g2
  clear hat2 hc2 g2 CC
  go_wp2_with fail
  go_loopw [11, 12] (fun v9 i9 wr => ∃ k : Nat, k ≤ L.length ∧ i9 = .int .i64 k ∧ Hid (OwnF wr w2.heap.size v9 (vals (L.take k))) ∧ Hid (Gr w2 wr)) (fun _ i9 _ => L.length - (intOf i9).toNat)
  case atStart => exact ⟨0, Nat.zero_le _, rfl, Lib.hid (by simpa [vals] using Own1.nil _ _), Lib.hid (Gr.refl _)⟩
  case round =>
    obtain ⟨k, hk, rfl, HO, HG⟩ := hrel
    by_cases hlt : k < L.length
    · obtain ⟨q, hq⟩ : ∃ q, L[k]? = some q := ⟨_, List.getElem?_eq_getElem hlt⟩
      obtain ⟨b, o, rfl, hcells⟩ := (HAT.out.gr HG.out) (by omega)
      obtain ⟨e1, e2⟩ := hcells k q hq _ _ rfl
      have HLS : Hid (vals (L.take (k + 1)) = vals (L.take k) ++ [q.2]) := Lib.hid (by rw [take_s hq]; simp [vals])
      have hk1 : (vals (L.take k)).length ≤ 1000000 := by rw [vals_len, List.length_take]; have := HLL.out; omega
      obtain ⟨qt, qv⟩ := q
      simp only at e1 e2 HLS
      have m1 : (k : Int) < (L.length : Int) := by omega
      have m2 : (0 : Int) ≤ (k : Int) := by omega
      have hll := HLL.out
      clear hq hcells
      have HO4 := Lib.hid (HO.out.gr ((Gr.refl wr).alloc #[.float .f64 qv] 26))
      have HG4 := Lib.hid (HG.out.trans ((Gr.refl wr).alloc #[.float .f64 qv] 26))
      go_wp2_with (first
        | (at_builtin
           refine wpList_app2 rfl (.tmp 39) (.tmp 45) (by rfl) (by rfl) (by rfl) (by rfl) (run_appF (c := 1) (m := [qv]) HO4.out (at1_one (enc := encF) _ qv _) (by simp; omega) HG4.out.size) ?_
           rintro v5 w5 ⟨ho5, hg5, -⟩
           have HO5 : Hid (OwnF w5 w2.heap.size v5 (vals (L.take (k + 1)))) := Lib.hid (by rw [HLS.out]; exact ho5)
           have HG5 : Hid (Gr w2 w5) := Lib.hid (HG4.out.grown hg5 (fun k hk => (HO.out.lt hk).1))
           clear ho5 hg5)
        | fail)
      go_roundw
      case rel => exact ⟨k + 1, by omega, by go_num, HO5, HG5⟩
      case measure => simp [intOf]; omega
    · obtain rfl : k = L.length := by omega
      obtain ⟨A3, c3, rfl, hat3, -, -, -, -⟩ := HO.out.form
      rw [List.take_length, HV.out] at hat3
      have HLN : Hid ((vals (L.take L.length)).length = r.length + 1) := Lib.hid (by rw [List.take_length, HV.out]; rfl)
      rw [HLN.out]
      have HAT3 := Lib.hid hat3
      have HGW := Lib.hid (HG2.out.trans HG.out)
      have CW3 := Lib.hid (CWW.out A3 c3 wr HAT3.out)
      have m3 : ¬ (L.length : Int) < (L.length : Int) := by omega
      have m4 : ((r.length : Int) + 1 == 0) = false := by simp; omega
      have m5 : ¬ (r.length : Int) + 1 = 0 := by omega
      have CX := Lib.hid (fun n => rleast_any false A3 c3 x r (wr.drewN n) (HAT3.out.gr ((Gr.refl wr).drewN n)) (by omega))
      clear hat3
      clear HO HLN
      by_cases m7 : (r.length : Int) + 1 < 2
      all_goals
        go_wp2_with (first
        | (go_at_call 30; refine CW3.out.mono ?_; rintro e w' ⟨rfl, n4, rfl⟩)
        | (go_at_call 32; refine (CX.out _).mono ?_; rintro e w' ⟨rfl, rfl⟩)
        | (go_at_call 37; refine (rcanon_any _ _).mono ?_; rintro e w' ⟨rfl, rfl⟩)
        | fail)
        go_ret2
        exact ⟨by rw [HX.out]; rfl, by first | exact HGW.out | exact HGW.out.drewN _ | exact (HGW.out.drewN _).drewN _ | exact ((HGW.out.drewN _).drewN _).drewN _⟩
end Go.Proofs.YtjjfkjpkbpefpaaDoor.Vn
/- The reference's Fn, one way. -/
namespace Go.Proofs.YtjjfkjpkbpefpaaDoor.Vn
open Go.RowKit
set_option maxRecDepth 100000
set_option maxHeartbeats 4000000
attribute [local irreducible] wpQuiet

theorem rFnW5 (A : Option Addr) (c : Nat) (l : List Sm) (f t : Int) (x : Nat) (r : List Nat) (w : World) (h : RFnH A c l f t x r w) (_hm : leastN 5 ≤ r.length + 1) : RFnC 5 A c l f t x r w := by
  have CC := Lib.hid (rcut_any A c l f t w h.at_ h.hl)
  unfold RCutPost at CC
  have hLl := strL_len l f t
  have HLL : Hid ((strL l f t).length ≤ 1000000) := Lib.hid (by have := h.hl; omega)
  have HV := Lib.hid h.hv
  have hft := h.hft
  have hb1 := h.b1
  have hb2 := h.b2
  have q2 : decide (f ≥ t) = false := decide_eq_false (by omega)
  have hww : IntKind.i64.wrap (t - f) = t - f := by rw [IntKind.wrap_i64]; omega
  obtain ⟨L, hL⟩ : ∃ L, strL l f t = L := ⟨_, rfl⟩
  rw [hL] at CC HLL HV
  have hrl : r.length + 1 = L.length := by
    have := congrArg List.length HV.out
    rw [vals_len] at this
    simpa using this.symm
  have hrb : r.length < 1000000 := by have := HLL.out; omega
  clear hrl
  have HX : Hid (canon (extL true (x :: r)) = valF 5 (x :: r) (Flo.ofI (t - f))) := Lib.hid (rfl)
  obtain ⟨s1, hs1⟩ : ∃ s, (sumF (seqOf (x :: r)) (r.length + 1)).1 = s := ⟨_, rfl⟩
  obtain ⟨s2, hs2⟩ : ∃ s, (sumF (seqOf (x :: r)) (r.length + 1)).2 = s := ⟨_, rfl⟩
  have CWW : Hid (∀ A' c' W, FlL W A' (x :: r) → Calls Tryd.prog 30 #[.slice A' (r.length + 1) c'] W fun e w' => e = .returned (.tuple #[.float .f64 s1, .float .f64 s2]) ∧ ∃ m, w' = W.drewN m) := Lib.hid fun A' c' W h => by
    have := rsum_any A' (r.length + 1) c' (seqOf (x :: r)) W (FlL.seq h) (by unfold maxLen; omega)
    rwa [hs1, hs2] at this
  obtain ⟨V, hV⟩ : ∃ V, valF 5 (x :: r) (Flo.ofI (t - f)) = V := ⟨_, rfl⟩
  unfold RFnC
  rw [hV] at HX ⊢
  clear hs1 hs2 hV hL h hLl
  go_enter Tryd.func13, Tryd.ntmps13
  go_wp2_with fail
  refine CC.out.mono ?_
  rintro e w2 ⟨g2, A2, c2, rfl, hat2, hc2⟩
  have HAT := Lib.hid hat2
  have HG2 := Lib.hid g2
  clear hat2 hc2 g2 CC
  go_wp2_with fail
  go_loopw [11, 12] (fun v9 i9 wr => ∃ k : Nat, k ≤ L.length ∧ i9 = .int .i64 k ∧ Hid (OwnF wr w2.heap.size v9 (vals (L.take k))) ∧ Hid (Gr w2 wr)) (fun _ i9 _ => L.length - (intOf i9).toNat)
  case atStart => exact ⟨0, Nat.zero_le _, rfl, Lib.hid (by simpa [vals] using Own1.nil _ _), Lib.hid (Gr.refl _)⟩
  case round =>
    obtain ⟨k, hk, rfl, HO, HG⟩ := hrel
    by_cases hlt : k < L.length
    · obtain ⟨q, hq⟩ : ∃ q, L[k]? = some q := ⟨_, List.getElem?_eq_getElem hlt⟩
      obtain ⟨b, o, rfl, hcells⟩ := (HAT.out.gr HG.out) (by omega)
      obtain ⟨e1, e2⟩ := hcells k q hq _ _ rfl
      have HLS : Hid (vals (L.take (k + 1)) = vals (L.take k) ++ [q.2]) := Lib.hid (by rw [take_s hq]; simp [vals])
      have hk1 : (vals (L.take k)).length ≤ 1000000 := by rw [vals_len, List.length_take]; have := HLL.out; omega
      obtain ⟨qt, qv⟩ := q
      simp only at e1 e2 HLS
      have m1 : (k : Int) < (L.length : Int) := by omega
      have m2 : (0 : Int) ≤ (k : Int) := by omega
      have hll := HLL.out
      clear hq hcells
      have HO4 := Lib.hid (HO.out.gr ((Gr.refl wr).alloc #[.float .f64 qv] 26))
      have HG4 := Lib.hid (HG.out.trans ((Gr.refl wr).alloc #[.float .f64 qv] 26))
      go_wp2_with (first
        | (at_builtin
           refine wpList_app2 rfl (.tmp 39) (.tmp 45) (by rfl) (by rfl) (by rfl) (by rfl) (run_appF (c := 1) (m := [qv]) HO4.out (at1_one (enc := encF) _ qv _) (by simp; omega) HG4.out.size) ?_
           rintro v5 w5 ⟨ho5, hg5, -⟩
           have HO5 : Hid (OwnF w5 w2.heap.size v5 (vals (L.take (k + 1)))) := Lib.hid (by rw [HLS.out]; exact ho5)
           have HG5 : Hid (Gr w2 w5) := Lib.hid (HG4.out.grown hg5 (fun k hk => (HO.out.lt hk).1))
           clear ho5 hg5)
        | fail)
      go_roundw
      case rel => exact ⟨k + 1, by omega, by go_num, HO5, HG5⟩
      case measure => simp [intOf]; omega
    · obtain rfl : k = L.length := by omega
      obtain ⟨A3, c3, rfl, hat3, -, -, -, -⟩ := HO.out.form
      rw [List.take_length, HV.out] at hat3
      have HLN : Hid ((vals (L.take L.length)).length = r.length + 1) := Lib.hid (by rw [List.take_length, HV.out]; rfl)
      rw [HLN.out]
      have HAT3 := Lib.hid hat3
      have HGW := Lib.hid (HG2.out.trans HG.out)
      have CW3 := Lib.hid (CWW.out A3 c3 wr HAT3.out)
      have m3 : ¬ (L.length : Int) < (L.length : Int) := by omega
      have m4 : ((r.length : Int) + 1 == 0) = false := by simp; omega
      have m5 : ¬ (r.length : Int) + 1 = 0 := by omega
      have CX := Lib.hid (fun n => rleast_any true A3 c3 x r (wr.drewN n) (HAT3.out.gr ((Gr.refl wr).drewN n)) (by omega))
      clear hat3
      clear HO HLN
      by_cases m7 : (r.length : Int) + 1 < 2
      all_goals
        go_wp2_with (first
        | (go_at_call 30; refine CW3.out.mono ?_; rintro e w' ⟨rfl, n4, rfl⟩)
        | (go_at_call 32; refine (CX.out _).mono ?_; rintro e w' ⟨rfl, rfl⟩)
        | (go_at_call 37; refine (rcanon_any _ _).mono ?_; rintro e w' ⟨rfl, rfl⟩)
        | fail)
        go_ret2
        exact ⟨by rw [HX.out]; rfl, by first | exact HGW.out | exact HGW.out.drewN _ | exact (HGW.out.drewN _).drewN _ | exact ((HGW.out.drewN _).drewN _).drewN _⟩
end Go.Proofs.YtjjfkjpkbpefpaaDoor.Vn
/- The reference's Fn, one way. -/
namespace Go.Proofs.YtjjfkjpkbpefpaaDoor.Vn
open Go.RowKit
set_option maxRecDepth 100000
set_option maxHeartbeats 4000000
attribute [local irreducible] wpQuiet

theorem rFnW6 (A : Option Addr) (c : Nat) (l : List Sm) (f t : Int) (x : Nat) (r : List Nat) (w : World) (h : RFnH A c l f t x r w) (_hm : leastN 6 ≤ r.length + 1) : RFnC 6 A c l f t x r w := by
  have CC := Lib.hid (rcut_any A c l f t w h.at_ h.hl)
  unfold RCutPost at CC
  have hLl := strL_len l f t
  have HLL : Hid ((strL l f t).length ≤ 1000000) := Lib.hid (by have := h.hl; omega)
  have HV := Lib.hid h.hv
  have hft := h.hft
  have hb1 := h.b1
  have hb2 := h.b2
  have q2 : decide (f ≥ t) = false := decide_eq_false (by omega)
  have hww : IntKind.i64.wrap (t - f) = t - f := by rw [IntKind.wrap_i64]; omega
  obtain ⟨L, hL⟩ : ∃ L, strL l f t = L := ⟨_, rfl⟩
  rw [hL] at CC HLL HV
  have hrl : r.length + 1 = L.length := by
    have := congrArg List.length HV.out
    rw [vals_len] at this
    simpa using this.symm
  have hrb : r.length < 1000000 := by have := HLL.out; omega
  clear hrl
  obtain ⟨z, hz⟩ : ∃ z, (x :: r).getLastD 0 = z := ⟨_, rfl⟩
  have HLAST := Lib.hid (last_get x r)
  rw [hz] at HLAST
  have HX : Hid (canon z = valF 6 (x :: r) (Flo.ofI (t - f))) := Lib.hid (by rw [← hz]; rfl)
  clear hz
  obtain ⟨s1, hs1⟩ : ∃ s, (sumF (seqOf (x :: r)) (r.length + 1)).1 = s := ⟨_, rfl⟩
  obtain ⟨s2, hs2⟩ : ∃ s, (sumF (seqOf (x :: r)) (r.length + 1)).2 = s := ⟨_, rfl⟩
  have CWW : Hid (∀ A' c' W, FlL W A' (x :: r) → Calls Tryd.prog 30 #[.slice A' (r.length + 1) c'] W fun e w' => e = .returned (.tuple #[.float .f64 s1, .float .f64 s2]) ∧ ∃ m, w' = W.drewN m) := Lib.hid fun A' c' W h => by
    have := rsum_any A' (r.length + 1) c' (seqOf (x :: r)) W (FlL.seq h) (by unfold maxLen; omega)
    rwa [hs1, hs2] at this
  obtain ⟨V, hV⟩ : ∃ V, valF 6 (x :: r) (Flo.ofI (t - f)) = V := ⟨_, rfl⟩
  unfold RFnC
  rw [hV] at HX ⊢
  clear hs1 hs2 hV hL h hLl
  go_enter Tryd.func13, Tryd.ntmps13
  go_wp2_with fail
  refine CC.out.mono ?_
  rintro e w2 ⟨g2, A2, c2, rfl, hat2, hc2⟩
  have HAT := Lib.hid hat2
  have HG2 := Lib.hid g2
  clear hat2 hc2 g2 CC
  go_wp2_with fail
  go_loopw [11, 12] (fun v9 i9 wr => ∃ k : Nat, k ≤ L.length ∧ i9 = .int .i64 k ∧ Hid (OwnF wr w2.heap.size v9 (vals (L.take k))) ∧ Hid (Gr w2 wr)) (fun _ i9 _ => L.length - (intOf i9).toNat)
  case atStart => exact ⟨0, Nat.zero_le _, rfl, Lib.hid (by simpa [vals] using Own1.nil _ _), Lib.hid (Gr.refl _)⟩
  case round =>
    obtain ⟨k, hk, rfl, HO, HG⟩ := hrel
    by_cases hlt : k < L.length
    · obtain ⟨q, hq⟩ : ∃ q, L[k]? = some q := ⟨_, List.getElem?_eq_getElem hlt⟩
      obtain ⟨b, o, rfl, hcells⟩ := (HAT.out.gr HG.out) (by omega)
      obtain ⟨e1, e2⟩ := hcells k q hq _ _ rfl
      have HLS : Hid (vals (L.take (k + 1)) = vals (L.take k) ++ [q.2]) := Lib.hid (by rw [take_s hq]; simp [vals])
      have hk1 : (vals (L.take k)).length ≤ 1000000 := by rw [vals_len, List.length_take]; have := HLL.out; omega
      obtain ⟨qt, qv⟩ := q
      simp only at e1 e2 HLS
      have m1 : (k : Int) < (L.length : Int) := by omega
      have m2 : (0 : Int) ≤ (k : Int) := by omega
      have hll := HLL.out
      clear hq hcells
      have HO4 := Lib.hid (HO.out.gr ((Gr.refl wr).alloc #[.float .f64 qv] 26))
      have HG4 := Lib.hid (HG.out.trans ((Gr.refl wr).alloc #[.float .f64 qv] 26))
      go_wp2_with (first
        | (at_builtin
           refine wpList_app2 rfl (.tmp 39) (.tmp 45) (by rfl) (by rfl) (by rfl) (by rfl) (run_appF (c := 1) (m := [qv]) HO4.out (at1_one (enc := encF) _ qv _) (by simp; omega) HG4.out.size) ?_
           rintro v5 w5 ⟨ho5, hg5, -⟩
           have HO5 : Hid (OwnF w5 w2.heap.size v5 (vals (L.take (k + 1)))) := Lib.hid (by rw [HLS.out]; exact ho5)
           have HG5 : Hid (Gr w2 w5) := Lib.hid (HG4.out.grown hg5 (fun k hk => (HO.out.lt hk).1))
           clear ho5 hg5)
        | fail)
      go_roundw
      case rel => exact ⟨k + 1, by omega, by go_num, HO5, HG5⟩
      case measure => simp [intOf]; omega
    · obtain rfl : k = L.length := by omega
      obtain ⟨A3, c3, rfl, hat3, -, -, -, -⟩ := HO.out.form
      rw [List.take_length, HV.out] at hat3
      have HLN : Hid ((vals (L.take L.length)).length = r.length + 1) := Lib.hid (by rw [List.take_length, HV.out]; rfl)
      rw [HLN.out]
      have HAT3 := Lib.hid hat3
      have HGW := Lib.hid (HG2.out.trans HG.out)
      have CW3 := Lib.hid (CWW.out A3 c3 wr HAT3.out)
      have m3 : ¬ (L.length : Int) < (L.length : Int) := by omega
      have m4 : ((r.length : Int) + 1 == 0) = false := by simp; omega
      have m5 : ¬ (r.length : Int) + 1 = 0 := by omega
      obtain ⟨b3, o3, rfl, hc3⟩ := hat3 (by simp)
      have d0 : wr.cell? ⟨b3, o3, none⟩ = some (.float .f64 x) := hc3 0 x rfl
      have d1 : wr.cell? ⟨b3, o3 + r.length, none⟩ = some (.float .f64 z) := hc3 _ z HLAST.out
      clear hc3
      obtain ⟨m, hmm⟩ : ∃ m, r.length = m := ⟨_, rfl⟩
      rw [hmm] at d1 hrb _hm CW3 m4 m5 ⊢
      have f1 : (0 : Int) ≤ (m : Int) := by omega
      have f2 : (m : Int) < (m : Int) + 1 := by omega
      have f3 : (0 : Int) < (m : Int) + 1 := by omega
      have w3 : IntKind.i64.wrap (m : Int) = (m : Int) := by rw [IntKind.wrap_i64]; omega
      clear hmm
      clear HO HLN
      by_cases m7 : (m : Int) + 1 < 2
      all_goals
        go_wp2_with (first
        | (go_at_call 30; refine CW3.out.mono ?_; rintro e w' ⟨rfl, n4, rfl⟩)
        | (go_at_call 37; refine (rcanon_any _ _).mono ?_; rintro e w' ⟨rfl, rfl⟩)
        | fail)
        go_ret2
        exact ⟨by rw [HX.out]; rfl, by first | exact HGW.out | exact HGW.out.drewN _ | exact (HGW.out.drewN _).drewN _ | exact ((HGW.out.drewN _).drewN _).drewN _⟩
end Go.Proofs.YtjjfkjpkbpefpaaDoor.Vn
/- The reference's Fn, one way. -/
namespace Go.Proofs.YtjjfkjpkbpefpaaDoor.Vn
open Go.RowKit
set_option maxRecDepth 100000
set_option maxHeartbeats 4000000
attribute [local irreducible] wpQuiet

theorem rFnW7 (A : Option Addr) (c : Nat) (l : List Sm) (f t : Int) (x : Nat) (r : List Nat) (w : World) (h : RFnH A c l f t x r w) (_hm : leastN 7 ≤ r.length + 1) : RFnC 7 A c l f t x r w := by
  have CC := Lib.hid (rcut_any A c l f t w h.at_ h.hl)
  unfold RCutPost at CC
  have hLl := strL_len l f t
  have HLL : Hid ((strL l f t).length ≤ 1000000) := Lib.hid (by have := h.hl; omega)
  have HV := Lib.hid h.hv
  have hft := h.hft
  have hb1 := h.b1
  have hb2 := h.b2
  have q2 : decide (f ≥ t) = false := decide_eq_false (by omega)
  have hww : IntKind.i64.wrap (t - f) = t - f := by rw [IntKind.wrap_i64]; omega
  obtain ⟨L, hL⟩ : ∃ L, strL l f t = L := ⟨_, rfl⟩
  rw [hL] at CC HLL HV
  have hrl : r.length + 1 = L.length := by
    have := congrArg List.length HV.out
    rw [vals_len] at this
    simpa using this.symm
  have hrb : r.length < 1000000 := by have := HLL.out; omega
  clear hrl
  obtain ⟨z, hz⟩ : ∃ z, (x :: r).getLastD 0 = z := ⟨_, rfl⟩
  have HLAST := Lib.hid (last_get x r)
  rw [hz] at HLAST
  have HX : Hid (canon x = valF 7 (x :: r) (Flo.ofI (t - f))) := Lib.hid (rfl)
  clear hz
  obtain ⟨s1, hs1⟩ : ∃ s, (sumF (seqOf (x :: r)) (r.length + 1)).1 = s := ⟨_, rfl⟩
  obtain ⟨s2, hs2⟩ : ∃ s, (sumF (seqOf (x :: r)) (r.length + 1)).2 = s := ⟨_, rfl⟩
  have CWW : Hid (∀ A' c' W, FlL W A' (x :: r) → Calls Tryd.prog 30 #[.slice A' (r.length + 1) c'] W fun e w' => e = .returned (.tuple #[.float .f64 s1, .float .f64 s2]) ∧ ∃ m, w' = W.drewN m) := Lib.hid fun A' c' W h => by
    have := rsum_any A' (r.length + 1) c' (seqOf (x :: r)) W (FlL.seq h) (by unfold maxLen; omega)
    rwa [hs1, hs2] at this
  obtain ⟨V, hV⟩ : ∃ V, valF 7 (x :: r) (Flo.ofI (t - f)) = V := ⟨_, rfl⟩
  unfold RFnC
  rw [hV] at HX ⊢
  clear hs1 hs2 hV hL h hLl
  go_enter Tryd.func13, Tryd.ntmps13
  go_wp2_with fail
  refine CC.out.mono ?_
  rintro e w2 ⟨g2, A2, c2, rfl, hat2, hc2⟩
  have HAT := Lib.hid hat2
  have HG2 := Lib.hid g2
  clear hat2 hc2 g2 CC
  go_wp2_with fail
  go_loopw [11, 12] (fun v9 i9 wr => ∃ k : Nat, k ≤ L.length ∧ i9 = .int .i64 k ∧ Hid (OwnF wr w2.heap.size v9 (vals (L.take k))) ∧ Hid (Gr w2 wr)) (fun _ i9 _ => L.length - (intOf i9).toNat)
  case atStart => exact ⟨0, Nat.zero_le _, rfl, Lib.hid (by simpa [vals] using Own1.nil _ _), Lib.hid (Gr.refl _)⟩
  case round =>
    obtain ⟨k, hk, rfl, HO, HG⟩ := hrel
    by_cases hlt : k < L.length
    · obtain ⟨q, hq⟩ : ∃ q, L[k]? = some q := ⟨_, List.getElem?_eq_getElem hlt⟩
      obtain ⟨b, o, rfl, hcells⟩ := (HAT.out.gr HG.out) (by omega)
      obtain ⟨e1, e2⟩ := hcells k q hq _ _ rfl
      have HLS : Hid (vals (L.take (k + 1)) = vals (L.take k) ++ [q.2]) := Lib.hid (by rw [take_s hq]; simp [vals])
      have hk1 : (vals (L.take k)).length ≤ 1000000 := by rw [vals_len, List.length_take]; have := HLL.out; omega
      obtain ⟨qt, qv⟩ := q
      simp only at e1 e2 HLS
      have m1 : (k : Int) < (L.length : Int) := by omega
      have m2 : (0 : Int) ≤ (k : Int) := by omega
      have hll := HLL.out
      clear hq hcells
      have HO4 := Lib.hid (HO.out.gr ((Gr.refl wr).alloc #[.float .f64 qv] 26))
      have HG4 := Lib.hid (HG.out.trans ((Gr.refl wr).alloc #[.float .f64 qv] 26))
      go_wp2_with (first
        | (at_builtin
           refine wpList_app2 rfl (.tmp 39) (.tmp 45) (by rfl) (by rfl) (by rfl) (by rfl) (run_appF (c := 1) (m := [qv]) HO4.out (at1_one (enc := encF) _ qv _) (by simp; omega) HG4.out.size) ?_
           rintro v5 w5 ⟨ho5, hg5, -⟩
           have HO5 : Hid (OwnF w5 w2.heap.size v5 (vals (L.take (k + 1)))) := Lib.hid (by rw [HLS.out]; exact ho5)
           have HG5 : Hid (Gr w2 w5) := Lib.hid (HG4.out.grown hg5 (fun k hk => (HO.out.lt hk).1))
           clear ho5 hg5)
        | fail)
      go_roundw
      case rel => exact ⟨k + 1, by omega, by go_num, HO5, HG5⟩
      case measure => simp [intOf]; omega
    · obtain rfl : k = L.length := by omega
      obtain ⟨A3, c3, rfl, hat3, -, -, -, -⟩ := HO.out.form
      rw [List.take_length, HV.out] at hat3
      have HLN : Hid ((vals (L.take L.length)).length = r.length + 1) := Lib.hid (by rw [List.take_length, HV.out]; rfl)
      rw [HLN.out]
      have HAT3 := Lib.hid hat3
      have HGW := Lib.hid (HG2.out.trans HG.out)
      have CW3 := Lib.hid (CWW.out A3 c3 wr HAT3.out)
      have m3 : ¬ (L.length : Int) < (L.length : Int) := by omega
      have m4 : ((r.length : Int) + 1 == 0) = false := by simp; omega
      have m5 : ¬ (r.length : Int) + 1 = 0 := by omega
      obtain ⟨b3, o3, rfl, hc3⟩ := hat3 (by simp)
      have d0 : wr.cell? ⟨b3, o3, none⟩ = some (.float .f64 x) := hc3 0 x rfl
      have d1 : wr.cell? ⟨b3, o3 + r.length, none⟩ = some (.float .f64 z) := hc3 _ z HLAST.out
      clear hc3
      obtain ⟨m, hmm⟩ : ∃ m, r.length = m := ⟨_, rfl⟩
      rw [hmm] at d1 hrb _hm CW3 m4 m5 ⊢
      have f1 : (0 : Int) ≤ (m : Int) := by omega
      have f2 : (m : Int) < (m : Int) + 1 := by omega
      have f3 : (0 : Int) < (m : Int) + 1 := by omega
      have w3 : IntKind.i64.wrap (m : Int) = (m : Int) := by rw [IntKind.wrap_i64]; omega
      clear hmm
      clear HO HLN
      by_cases m7 : (m : Int) + 1 < 2
      all_goals
        go_wp2_with (first
        | (go_at_call 30; refine CW3.out.mono ?_; rintro e w' ⟨rfl, n4, rfl⟩)
        | (go_at_call 37; refine (rcanon_any _ _).mono ?_; rintro e w' ⟨rfl, rfl⟩)
        | fail)
        go_ret2
        exact ⟨by rw [HX.out]; rfl, by first | exact HGW.out | exact HGW.out.drewN _ | exact (HGW.out.drewN _).drewN _ | exact ((HGW.out.drewN _).drewN _).drewN _⟩
end Go.Proofs.YtjjfkjpkbpefpaaDoor.Vn
/- The reference's Fn, one way. -/
namespace Go.Proofs.YtjjfkjpkbpefpaaDoor.Vn
open Go.RowKit
set_option maxRecDepth 100000
set_option maxHeartbeats 4000000
attribute [local irreducible] wpQuiet

theorem rFnW8 (A : Option Addr) (c : Nat) (l : List Sm) (f t : Int) (x : Nat) (r : List Nat) (w : World) (h : RFnH A c l f t x r w) (hm : leastN 8 ≤ r.length + 1) : RFnC 8 A c l f t x r w := by
  have CC := Lib.hid (rcut_any A c l f t w h.at_ h.hl)
  unfold RCutPost at CC
  have hLl := strL_len l f t
  have HLL : Hid ((strL l f t).length ≤ 1000000) := Lib.hid (by have := h.hl; omega)
  have HV := Lib.hid h.hv
  have hft := h.hft
  have hb1 := h.b1
  have hb2 := h.b2
  have q2 : decide (f ≥ t) = false := decide_eq_false (by omega)
  have hww : IntKind.i64.wrap (t - f) = t - f := by rw [IntKind.wrap_i64]; omega
  obtain ⟨L, hL⟩ : ∃ L, strL l f t = L := ⟨_, rfl⟩
  rw [hL] at CC HLL HV
  have hrl : r.length + 1 = L.length := by
    have := congrArg List.length HV.out
    rw [vals_len] at this
    simpa using this.symm
  have hrb : r.length < 1000000 := by have := HLL.out; omega
  clear hrl
  have HX : Hid (canon (incL (x :: r)) = valF 8 (x :: r) (Flo.ofI (t - f))) := Lib.hid (incL_cn _)
  obtain ⟨s1, hs1⟩ : ∃ s, (sumF (seqOf (x :: r)) (r.length + 1)).1 = s := ⟨_, rfl⟩
  obtain ⟨s2, hs2⟩ : ∃ s, (sumF (seqOf (x :: r)) (r.length + 1)).2 = s := ⟨_, rfl⟩
  have CWW : Hid (∀ A' c' W, FlL W A' (x :: r) → Calls Tryd.prog 30 #[.slice A' (r.length + 1) c'] W fun e w' => e = .returned (.tuple #[.float .f64 s1, .float .f64 s2]) ∧ ∃ m, w' = W.drewN m) := Lib.hid fun A' c' W h => by
    have := rsum_any A' (r.length + 1) c' (seqOf (x :: r)) W (FlL.seq h) (by unfold maxLen; omega)
    rwa [hs1, hs2] at this
  obtain ⟨V, hV⟩ : ∃ V, valF 8 (x :: r) (Flo.ofI (t - f)) = V := ⟨_, rfl⟩
  unfold RFnC
  rw [hV] at HX ⊢
  clear hs1 hs2 hV hL h hLl
  go_enter Tryd.func13, Tryd.ntmps13
  go_wp2_with fail
  refine CC.out.mono ?_
  rintro e w2 ⟨g2, A2, c2, rfl, hat2, hc2⟩
  have HAT := Lib.hid hat2
  have HG2 := Lib.hid g2
  clear hat2 hc2 g2 CC
  go_wp2_with fail
  go_loopw [11, 12] (fun v9 i9 wr => ∃ k : Nat, k ≤ L.length ∧ i9 = .int .i64 k ∧ Hid (OwnF wr w2.heap.size v9 (vals (L.take k))) ∧ Hid (Gr w2 wr)) (fun _ i9 _ => L.length - (intOf i9).toNat)
  case atStart => exact ⟨0, Nat.zero_le _, rfl, Lib.hid (by simpa [vals] using Own1.nil _ _), Lib.hid (Gr.refl _)⟩
  case round =>
    obtain ⟨k, hk, rfl, HO, HG⟩ := hrel
    by_cases hlt : k < L.length
    · obtain ⟨q, hq⟩ : ∃ q, L[k]? = some q := ⟨_, List.getElem?_eq_getElem hlt⟩
      obtain ⟨b, o, rfl, hcells⟩ := (HAT.out.gr HG.out) (by omega)
      obtain ⟨e1, e2⟩ := hcells k q hq _ _ rfl
      have HLS : Hid (vals (L.take (k + 1)) = vals (L.take k) ++ [q.2]) := Lib.hid (by rw [take_s hq]; simp [vals])
      have hk1 : (vals (L.take k)).length ≤ 1000000 := by rw [vals_len, List.length_take]; have := HLL.out; omega
      obtain ⟨qt, qv⟩ := q
      simp only at e1 e2 HLS
      have m1 : (k : Int) < (L.length : Int) := by omega
      have m2 : (0 : Int) ≤ (k : Int) := by omega
      have hll := HLL.out
      clear hq hcells
      have HO4 := Lib.hid (HO.out.gr ((Gr.refl wr).alloc #[.float .f64 qv] 26))
      have HG4 := Lib.hid (HG.out.trans ((Gr.refl wr).alloc #[.float .f64 qv] 26))
      go_wp2_with (first
        | (at_builtin
           refine wpList_app2 rfl (.tmp 39) (.tmp 45) (by rfl) (by rfl) (by rfl) (by rfl) (run_appF (c := 1) (m := [qv]) HO4.out (at1_one (enc := encF) _ qv _) (by simp; omega) HG4.out.size) ?_
           rintro v5 w5 ⟨ho5, hg5, -⟩
           have HO5 : Hid (OwnF w5 w2.heap.size v5 (vals (L.take (k + 1)))) := Lib.hid (by rw [HLS.out]; exact ho5)
           have HG5 : Hid (Gr w2 w5) := Lib.hid (HG4.out.grown hg5 (fun k hk => (HO.out.lt hk).1))
           clear ho5 hg5)
        | fail)
      go_roundw
      case rel => exact ⟨k + 1, by omega, by go_num, HO5, HG5⟩
      case measure => simp [intOf]; omega
    · obtain rfl : k = L.length := by omega
      obtain ⟨A3, c3, rfl, hat3, -, -, -, -⟩ := HO.out.form
      rw [List.take_length, HV.out] at hat3
      have HLN : Hid ((vals (L.take L.length)).length = r.length + 1) := Lib.hid (by rw [List.take_length, HV.out]; rfl)
      rw [HLN.out]
      have HAT3 := Lib.hid hat3
      have HGW := Lib.hid (HG2.out.trans HG.out)
      have CW3 := Lib.hid (CWW.out A3 c3 wr HAT3.out)
      have m3 : ¬ (L.length : Int) < (L.length : Int) := by omega
      have m4 : ((r.length : Int) + 1 == 0) = false := by simp; omega
      have m5 : ¬ (r.length : Int) + 1 = 0 := by omega
      have CI := Lib.hid (fun n => rinc_any A3 c3 x r (wr.drewN n) (HAT3.out.gr ((Gr.refl wr).drewN n)) (by omega))
      clear hat3
      clear HO HLN
      have m6 : decide ((r.length : Int) + 1 < 2) = false := decide_eq_false (by unfold leastN at hm; simp at hm; omega)
      have m7 : ¬ (r.length : Int) + 1 < 2 := by unfold leastN at hm; simp at hm; omega
      go_wp2_with (first
        | (go_at_call 30; refine CW3.out.mono ?_; rintro e w' ⟨rfl, n4, rfl⟩)
        | (go_at_call 33; refine (CI.out _).mono ?_; rintro e w5 ⟨rfl, g5⟩; have HG5 := Lib.hid g5; clear g5)
        | (go_at_call 37; refine (rcanon_any _ _).mono ?_; rintro e w' ⟨rfl, rfl⟩)
        | fail)
      go_ret2
      exact ⟨by rw [HX.out]; rfl, by first | exact (HGW.out.drewN _).trans HG5.out | exact ((HGW.out.drewN _).trans HG5.out).drewN _ | exact ((HGW.out.drewN _).drewN _).trans HG5.out | exact (((HGW.out.drewN _).drewN _).trans HG5.out).drewN _⟩
end Go.Proofs.YtjjfkjpkbpefpaaDoor.Vn
/- The reference's Fn, one way. -/
namespace Go.Proofs.YtjjfkjpkbpefpaaDoor.Vn
open Go.RowKit
set_option maxRecDepth 100000
set_option maxHeartbeats 4000000
attribute [local irreducible] wpQuiet

theorem rFnW9 (A : Option Addr) (c : Nat) (l : List Sm) (f t : Int) (x : Nat) (r : List Nat) (w : World) (h : RFnH A c l f t x r w) (hm : leastN 9 ≤ r.length + 1) : RFnC 9 A c l f t x r w := by
  have CC := Lib.hid (rcut_any A c l f t w h.at_ h.hl)
  unfold RCutPost at CC
  have hLl := strL_len l f t
  have HLL : Hid ((strL l f t).length ≤ 1000000) := Lib.hid (by have := h.hl; omega)
  have HV := Lib.hid h.hv
  have hft := h.hft
  have hb1 := h.b1
  have hb2 := h.b2
  have q2 : decide (f ≥ t) = false := decide_eq_false (by omega)
  have hww : IntKind.i64.wrap (t - f) = t - f := by rw [IntKind.wrap_i64]; omega
  obtain ⟨L, hL⟩ : ∃ L, strL l f t = L := ⟨_, rfl⟩
  rw [hL] at CC HLL HV
  have hrl : r.length + 1 = L.length := by
    have := congrArg List.length HV.out
    rw [vals_len] at this
    simpa using this.symm
  have hrb : r.length < 1000000 := by have := HLL.out; omega
  clear hrl
  have HX : Hid (∀ W W', canon (divV W (incL (x :: r)) (divV W' (floatOfInt .f64 (t - f)) 4652007308841189376)) = valF 9 (x :: r) (Flo.ofI (t - f))) := Lib.hid fun W W' => (divV_c ..).trans (by unfold valF; exact divC_r _ (divV_c ..))
  obtain ⟨s1, hs1⟩ : ∃ s, (sumF (seqOf (x :: r)) (r.length + 1)).1 = s := ⟨_, rfl⟩
  obtain ⟨s2, hs2⟩ : ∃ s, (sumF (seqOf (x :: r)) (r.length + 1)).2 = s := ⟨_, rfl⟩
  have CWW : Hid (∀ A' c' W, FlL W A' (x :: r) → Calls Tryd.prog 30 #[.slice A' (r.length + 1) c'] W fun e w' => e = .returned (.tuple #[.float .f64 s1, .float .f64 s2]) ∧ ∃ m, w' = W.drewN m) := Lib.hid fun A' c' W h => by
    have := rsum_any A' (r.length + 1) c' (seqOf (x :: r)) W (FlL.seq h) (by unfold maxLen; omega)
    rwa [hs1, hs2] at this
  obtain ⟨V, hV⟩ : ∃ V, valF 9 (x :: r) (Flo.ofI (t - f)) = V := ⟨_, rfl⟩
  unfold RFnC
  rw [hV] at HX ⊢
  clear hs1 hs2 hV hL h hLl
  go_enter Tryd.func13, Tryd.ntmps13
  go_wp2_with fail
  refine CC.out.mono ?_
  rintro e w2 ⟨g2, A2, c2, rfl, hat2, hc2⟩
  have HAT := Lib.hid hat2
  have HG2 := Lib.hid g2
  clear hat2 hc2 g2 CC
  go_wp2_with fail
  go_loopw [11, 12] (fun v9 i9 wr => ∃ k : Nat, k ≤ L.length ∧ i9 = .int .i64 k ∧ Hid (OwnF wr w2.heap.size v9 (vals (L.take k))) ∧ Hid (Gr w2 wr)) (fun _ i9 _ => L.length - (intOf i9).toNat)
  case atStart => exact ⟨0, Nat.zero_le _, rfl, Lib.hid (by simpa [vals] using Own1.nil _ _), Lib.hid (Gr.refl _)⟩
  case round =>
    obtain ⟨k, hk, rfl, HO, HG⟩ := hrel
    by_cases hlt : k < L.length
    · obtain ⟨q, hq⟩ : ∃ q, L[k]? = some q := ⟨_, List.getElem?_eq_getElem hlt⟩
      obtain ⟨b, o, rfl, hcells⟩ := (HAT.out.gr HG.out) (by omega)
      obtain ⟨e1, e2⟩ := hcells k q hq _ _ rfl
      have HLS : Hid (vals (L.take (k + 1)) = vals (L.take k) ++ [q.2]) := Lib.hid (by rw [take_s hq]; simp [vals])
      have hk1 : (vals (L.take k)).length ≤ 1000000 := by rw [vals_len, List.length_take]; have := HLL.out; omega
      obtain ⟨qt, qv⟩ := q
      simp only at e1 e2 HLS
      have m1 : (k : Int) < (L.length : Int) := by omega
      have m2 : (0 : Int) ≤ (k : Int) := by omega
      have hll := HLL.out
      clear hq hcells
      have HO4 := Lib.hid (HO.out.gr ((Gr.refl wr).alloc #[.float .f64 qv] 26))
      have HG4 := Lib.hid (HG.out.trans ((Gr.refl wr).alloc #[.float .f64 qv] 26))
      go_wp2_with (first
        | (at_builtin
           refine wpList_app2 rfl (.tmp 39) (.tmp 45) (by rfl) (by rfl) (by rfl) (by rfl) (run_appF (c := 1) (m := [qv]) HO4.out (at1_one (enc := encF) _ qv _) (by simp; omega) HG4.out.size) ?_
           rintro v5 w5 ⟨ho5, hg5, -⟩
           have HO5 : Hid (OwnF w5 w2.heap.size v5 (vals (L.take (k + 1)))) := Lib.hid (by rw [HLS.out]; exact ho5)
           have HG5 : Hid (Gr w2 w5) := Lib.hid (HG4.out.grown hg5 (fun k hk => (HO.out.lt hk).1))
           clear ho5 hg5)
        | fail)
      go_roundw
      case rel => exact ⟨k + 1, by omega, by go_num, HO5, HG5⟩
      case measure => simp [intOf]; omega
    · obtain rfl : k = L.length := by omega
      obtain ⟨A3, c3, rfl, hat3, -, -, -, -⟩ := HO.out.form
      rw [List.take_length, HV.out] at hat3
      have HLN : Hid ((vals (L.take L.length)).length = r.length + 1) := Lib.hid (by rw [List.take_length, HV.out]; rfl)
      rw [HLN.out]
      have HAT3 := Lib.hid hat3
      have HGW := Lib.hid (HG2.out.trans HG.out)
      have CW3 := Lib.hid (CWW.out A3 c3 wr HAT3.out)
      have m3 : ¬ (L.length : Int) < (L.length : Int) := by omega
      have m4 : ((r.length : Int) + 1 == 0) = false := by simp; omega
      have m5 : ¬ (r.length : Int) + 1 = 0 := by omega
      have CI := Lib.hid (fun n => rinc_any A3 c3 x r (wr.drewN n) (HAT3.out.gr ((Gr.refl wr).drewN n)) (by omega))
      clear hat3
      clear HO HLN
      have m6 : decide ((r.length : Int) + 1 < 2) = false := decide_eq_false (by unfold leastN at hm; simp at hm; omega)
      have m7 : ¬ (r.length : Int) + 1 < 2 := by unfold leastN at hm; simp at hm; omega
      go_wp2_with (first
        | (go_at_call 30; refine CW3.out.mono ?_; rintro e w' ⟨rfl, n4, rfl⟩)
        | (go_at_call 33; refine (CI.out _).mono ?_; rintro e w5 ⟨rfl, g5⟩; have HG5 := Lib.hid g5; clear g5)
        | (go_at_call 37; refine (rcanon_any _ _).mono ?_; rintro e w' ⟨rfl, rfl⟩)
        | fail)
      go_ret2
      exact ⟨by rw [HX.out]; rfl, by first | exact (HGW.out.drewN _).trans HG5.out | exact ((HGW.out.drewN _).trans HG5.out).drewN _ | exact ((HGW.out.drewN _).drewN _).trans HG5.out | exact (((HGW.out.drewN _).drewN _).trans HG5.out).drewN _⟩
end Go.Proofs.YtjjfkjpkbpefpaaDoor.Vn
/- The reference's Fn, one way. -/
namespace Go.Proofs.YtjjfkjpkbpefpaaDoor.Vn
open Go.RowKit
set_option maxRecDepth 100000
set_option maxHeartbeats 4000000
attribute [local irreducible] wpQuiet

theorem rFnW10 (A : Option Addr) (c : Nat) (l : List Sm) (f t : Int) (x : Nat) (r : List Nat) (w : World) (h : RFnH A c l f t x r w) (hm : leastN 10 ≤ r.length + 1) : RFnC 10 A c l f t x r w := by
  have CC := Lib.hid (rcut_any A c l f t w h.at_ h.hl)
  unfold RCutPost at CC
  have hLl := strL_len l f t
  have HLL : Hid ((strL l f t).length ≤ 1000000) := Lib.hid (by have := h.hl; omega)
  have HV := Lib.hid h.hv
  have hft := h.hft
  have hb1 := h.b1
  have hb2 := h.b2
  have q2 : decide (f ≥ t) = false := decide_eq_false (by omega)
  have hww : IntKind.i64.wrap (t - f) = t - f := by rw [IntKind.wrap_i64]; omega
  obtain ⟨L, hL⟩ : ∃ L, strL l f t = L := ⟨_, rfl⟩
  rw [hL] at CC HLL HV
  have hrl : r.length + 1 = L.length := by
    have := congrArg List.length HV.out
    rw [vals_len] at this
    simpa using this.symm
  have hrb : r.length < 1000000 := by have := HLL.out; omega
  clear hrl
  obtain ⟨z, hz⟩ : ∃ z, (x :: r).getLastD 0 = z := ⟨_, rfl⟩
  have HLAST := Lib.hid (last_get x r)
  rw [hz] at HLAST
  have HX : Hid (∀ W, canon (subV W z x) = valF 10 (x :: r) (Flo.ofI (t - f))) := Lib.hid fun W => (subV_c ..).trans (by rw [← hz]; rfl)
  clear hz
  obtain ⟨s1, hs1⟩ : ∃ s, (sumF (seqOf (x :: r)) (r.length + 1)).1 = s := ⟨_, rfl⟩
  obtain ⟨s2, hs2⟩ : ∃ s, (sumF (seqOf (x :: r)) (r.length + 1)).2 = s := ⟨_, rfl⟩
  have CWW : Hid (∀ A' c' W, FlL W A' (x :: r) → Calls Tryd.prog 30 #[.slice A' (r.length + 1) c'] W fun e w' => e = .returned (.tuple #[.float .f64 s1, .float .f64 s2]) ∧ ∃ m, w' = W.drewN m) := Lib.hid fun A' c' W h => by
    have := rsum_any A' (r.length + 1) c' (seqOf (x :: r)) W (FlL.seq h) (by unfold maxLen; omega)
    rwa [hs1, hs2] at this
  obtain ⟨V, hV⟩ : ∃ V, valF 10 (x :: r) (Flo.ofI (t - f)) = V := ⟨_, rfl⟩
  unfold RFnC
  rw [hV] at HX ⊢
  clear hs1 hs2 hV hL h hLl
  go_enter Tryd.func13, Tryd.ntmps13
  go_wp2_with fail
  refine CC.out.mono ?_
  rintro e w2 ⟨g2, A2, c2, rfl, hat2, hc2⟩
  have HAT := Lib.hid hat2
  have HG2 := Lib.hid g2
  clear hat2 hc2 g2 CC
  go_wp2_with fail
  go_loopw [11, 12] (fun v9 i9 wr => ∃ k : Nat, k ≤ L.length ∧ i9 = .int .i64 k ∧ Hid (OwnF wr w2.heap.size v9 (vals (L.take k))) ∧ Hid (Gr w2 wr)) (fun _ i9 _ => L.length - (intOf i9).toNat)
  case atStart => exact ⟨0, Nat.zero_le _, rfl, Lib.hid (by simpa [vals] using Own1.nil _ _), Lib.hid (Gr.refl _)⟩
  case round =>
    obtain ⟨k, hk, rfl, HO, HG⟩ := hrel
    by_cases hlt : k < L.length
    · obtain ⟨q, hq⟩ : ∃ q, L[k]? = some q := ⟨_, List.getElem?_eq_getElem hlt⟩
      obtain ⟨b, o, rfl, hcells⟩ := (HAT.out.gr HG.out) (by omega)
      obtain ⟨e1, e2⟩ := hcells k q hq _ _ rfl
      have HLS : Hid (vals (L.take (k + 1)) = vals (L.take k) ++ [q.2]) := Lib.hid (by rw [take_s hq]; simp [vals])
      have hk1 : (vals (L.take k)).length ≤ 1000000 := by rw [vals_len, List.length_take]; have := HLL.out; omega
      obtain ⟨qt, qv⟩ := q
      simp only at e1 e2 HLS
      have m1 : (k : Int) < (L.length : Int) := by omega
      have m2 : (0 : Int) ≤ (k : Int) := by omega
      have hll := HLL.out
      clear hq hcells
      have HO4 := Lib.hid (HO.out.gr ((Gr.refl wr).alloc #[.float .f64 qv] 26))
      have HG4 := Lib.hid (HG.out.trans ((Gr.refl wr).alloc #[.float .f64 qv] 26))
      go_wp2_with (first
        | (at_builtin
           refine wpList_app2 rfl (.tmp 39) (.tmp 45) (by rfl) (by rfl) (by rfl) (by rfl) (run_appF (c := 1) (m := [qv]) HO4.out (at1_one (enc := encF) _ qv _) (by simp; omega) HG4.out.size) ?_
           rintro v5 w5 ⟨ho5, hg5, -⟩
           have HO5 : Hid (OwnF w5 w2.heap.size v5 (vals (L.take (k + 1)))) := Lib.hid (by rw [HLS.out]; exact ho5)
           have HG5 : Hid (Gr w2 w5) := Lib.hid (HG4.out.grown hg5 (fun k hk => (HO.out.lt hk).1))
           clear ho5 hg5)
        | fail)
      go_roundw
      case rel => exact ⟨k + 1, by omega, by go_num, HO5, HG5⟩
      case measure => simp [intOf]; omega
    · obtain rfl : k = L.length := by omega
      obtain ⟨A3, c3, rfl, hat3, -, -, -, -⟩ := HO.out.form
      rw [List.take_length, HV.out] at hat3
      have HLN : Hid ((vals (L.take L.length)).length = r.length + 1) := Lib.hid (by rw [List.take_length, HV.out]; rfl)
      rw [HLN.out]
      have HAT3 := Lib.hid hat3
      have HGW := Lib.hid (HG2.out.trans HG.out)
      have CW3 := Lib.hid (CWW.out A3 c3 wr HAT3.out)
      have m3 : ¬ (L.length : Int) < (L.length : Int) := by omega
      have m4 : ((r.length : Int) + 1 == 0) = false := by simp; omega
      have m5 : ¬ (r.length : Int) + 1 = 0 := by omega
      obtain ⟨b3, o3, rfl, hc3⟩ := hat3 (by simp)
      have d0 : wr.cell? ⟨b3, o3, none⟩ = some (.float .f64 x) := hc3 0 x rfl
      have d1 : wr.cell? ⟨b3, o3 + r.length, none⟩ = some (.float .f64 z) := hc3 _ z HLAST.out
      clear hc3
      obtain ⟨m, hmm⟩ : ∃ m, r.length = m := ⟨_, rfl⟩
      rw [hmm] at d1 hrb hm CW3 m4 m5 ⊢
      have f1 : (0 : Int) ≤ (m : Int) := by omega
      have f2 : (m : Int) < (m : Int) + 1 := by omega
      have f3 : (0 : Int) < (m : Int) + 1 := by omega
      have w3 : IntKind.i64.wrap (m : Int) = (m : Int) := by rw [IntKind.wrap_i64]; omega
      clear hmm
      clear HO HLN
      have m6 : decide ((m : Int) + 1 < 2) = false := decide_eq_false (by unfold leastN at hm; simp at hm; omega)
      have m7 : ¬ (m : Int) + 1 < 2 := by unfold leastN at hm; simp at hm; omega
      go_wp2_with (first
        | (go_at_call 30; refine CW3.out.mono ?_; rintro e w' ⟨rfl, n4, rfl⟩)
        | (go_at_call 37; refine (rcanon_any _ _).mono ?_; rintro e w' ⟨rfl, rfl⟩)
        | fail)
      go_region
      all_goals go_wp2_with (first
        | (go_at_call 30; refine CW3.out.mono ?_; rintro e w' ⟨rfl, n4, rfl⟩)
        | (go_at_call 37; refine (rcanon_any _ _).mono ?_; rintro e w' ⟨rfl, rfl⟩)
        | fail)
      all_goals go_ret2
      all_goals exact ⟨by rw [HX.out]; rfl, by first | exact HGW.out | exact HGW.out.drewN _ | exact (HGW.out.drewN _).drewN _ | exact ((HGW.out.drewN _).drewN _).drewN _⟩
end Go.Proofs.YtjjfkjpkbpefpaaDoor.Vn
/- The reference's Fn, one way. -/
namespace Go.Proofs.YtjjfkjpkbpefpaaDoor.Vn
open Go.RowKit
set_option maxRecDepth 100000
set_option maxHeartbeats 4000000
attribute [local irreducible] wpQuiet

theorem rFnW11 (A : Option Addr) (c : Nat) (l : List Sm) (f t : Int) (x : Nat) (r : List Nat) (w : World) (h : RFnH A c l f t x r w) (_hm : leastN 11 ≤ r.length + 1) : RFnC 11 A c l f t x r w := by
  have CC := Lib.hid (rcut_any A c l f t w h.at_ h.hl)
  unfold RCutPost at CC
  have hLl := strL_len l f t
  have HLL : Hid ((strL l f t).length ≤ 1000000) := Lib.hid (by have := h.hl; omega)
  have HV := Lib.hid h.hv
  have hft := h.hft
  have hb1 := h.b1
  have hb2 := h.b2
  have q2 : decide (f ≥ t) = false := decide_eq_false (by omega)
  have hww : IntKind.i64.wrap (t - f) = t - f := by rw [IntKind.wrap_i64]; omega
  obtain ⟨L, hL⟩ : ∃ L, strL l f t = L := ⟨_, rfl⟩
  rw [hL] at CC HLL HV
  have hrl : r.length + 1 = L.length := by
    have := congrArg List.length HV.out
    rw [vals_len] at this
    simpa using this.symm
  have hrb : r.length < 1000000 := by have := HLL.out; omega
  clear hrl
  have HX : Hid (canon (Flo.ofI (cntL unlike (x :: r))) = valF 11 (x :: r) (Flo.ofI (t - f))) := Lib.hid (by rw [ofI_cn _ (by have := cntL_le unlike x r; omega)]; rfl)
  obtain ⟨s1, hs1⟩ : ∃ s, (sumF (seqOf (x :: r)) (r.length + 1)).1 = s := ⟨_, rfl⟩
  obtain ⟨s2, hs2⟩ : ∃ s, (sumF (seqOf (x :: r)) (r.length + 1)).2 = s := ⟨_, rfl⟩
  have CWW : Hid (∀ A' c' W, FlL W A' (x :: r) → Calls Tryd.prog 30 #[.slice A' (r.length + 1) c'] W fun e w' => e = .returned (.tuple #[.float .f64 s1, .float .f64 s2]) ∧ ∃ m, w' = W.drewN m) := Lib.hid fun A' c' W h => by
    have := rsum_any A' (r.length + 1) c' (seqOf (x :: r)) W (FlL.seq h) (by unfold maxLen; omega)
    rwa [hs1, hs2] at this
  obtain ⟨V, hV⟩ : ∃ V, valF 11 (x :: r) (Flo.ofI (t - f)) = V := ⟨_, rfl⟩
  unfold RFnC
  rw [hV] at HX ⊢
  clear hs1 hs2 hV hL h hLl
  go_enter Tryd.func13, Tryd.ntmps13
  go_wp2_with fail
  refine CC.out.mono ?_
  rintro e w2 ⟨g2, A2, c2, rfl, hat2, hc2⟩
  have HAT := Lib.hid hat2
  have HG2 := Lib.hid g2
  clear hat2 hc2 g2 CC
  go_wp2_with fail
  go_loopw [11, 12] (fun v9 i9 wr => ∃ k : Nat, k ≤ L.length ∧ i9 = .int .i64 k ∧ Hid (OwnF wr w2.heap.size v9 (vals (L.take k))) ∧ Hid (Gr w2 wr)) (fun _ i9 _ => L.length - (intOf i9).toNat)
  case atStart => exact ⟨0, Nat.zero_le _, rfl, Lib.hid (by simpa [vals] using Own1.nil _ _), Lib.hid (Gr.refl _)⟩
  case round =>
    obtain ⟨k, hk, rfl, HO, HG⟩ := hrel
    by_cases hlt : k < L.length
    · obtain ⟨q, hq⟩ : ∃ q, L[k]? = some q := ⟨_, List.getElem?_eq_getElem hlt⟩
      obtain ⟨b, o, rfl, hcells⟩ := (HAT.out.gr HG.out) (by omega)
      obtain ⟨e1, e2⟩ := hcells k q hq _ _ rfl
      have HLS : Hid (vals (L.take (k + 1)) = vals (L.take k) ++ [q.2]) := Lib.hid (by rw [take_s hq]; simp [vals])
      have hk1 : (vals (L.take k)).length ≤ 1000000 := by rw [vals_len, List.length_take]; have := HLL.out; omega
      obtain ⟨qt, qv⟩ := q
      simp only at e1 e2 HLS
      have m1 : (k : Int) < (L.length : Int) := by omega
      have m2 : (0 : Int) ≤ (k : Int) := by omega
      have hll := HLL.out
      clear hq hcells
      have HO4 := Lib.hid (HO.out.gr ((Gr.refl wr).alloc #[.float .f64 qv] 26))
      have HG4 := Lib.hid (HG.out.trans ((Gr.refl wr).alloc #[.float .f64 qv] 26))
      go_wp2_with (first
        | (at_builtin
           refine wpList_app2 rfl (.tmp 39) (.tmp 45) (by rfl) (by rfl) (by rfl) (by rfl) (run_appF (c := 1) (m := [qv]) HO4.out (at1_one (enc := encF) _ qv _) (by simp; omega) HG4.out.size) ?_
           rintro v5 w5 ⟨ho5, hg5, -⟩
           have HO5 : Hid (OwnF w5 w2.heap.size v5 (vals (L.take (k + 1)))) := Lib.hid (by rw [HLS.out]; exact ho5)
           have HG5 : Hid (Gr w2 w5) := Lib.hid (HG4.out.grown hg5 (fun k hk => (HO.out.lt hk).1))
           clear ho5 hg5)
        | fail)
      go_roundw
      case rel => exact ⟨k + 1, by omega, by go_num, HO5, HG5⟩
      case measure => simp [intOf]; omega
    · obtain rfl : k = L.length := by omega
      obtain ⟨A3, c3, rfl, hat3, -, -, -, -⟩ := HO.out.form
      rw [List.take_length, HV.out] at hat3
      have HLN : Hid ((vals (L.take L.length)).length = r.length + 1) := Lib.hid (by rw [List.take_length, HV.out]; rfl)
      rw [HLN.out]
      have HAT3 := Lib.hid hat3
      have HGW := Lib.hid (HG2.out.trans HG.out)
      have CW3 := Lib.hid (CWW.out A3 c3 wr HAT3.out)
      have m3 : ¬ (L.length : Int) < (L.length : Int) := by omega
      have m4 : ((r.length : Int) + 1 == 0) = false := by simp; omega
      have m5 : ¬ (r.length : Int) + 1 = 0 := by omega
      have CC2 := Lib.hid (fun n => rchg_any false A3 c3 x r (wr.drewN n) (HAT3.out.gr ((Gr.refl wr).drewN n)) (by omega))
      clear hat3
      clear HO HLN
      by_cases m7 : (r.length : Int) + 1 < 2
      all_goals
        go_wp2_with (first
        | (go_at_call 30; refine CW3.out.mono ?_; rintro e w' ⟨rfl, n4, rfl⟩)
        | (go_at_call 34; refine (CC2.out _).mono ?_; rintro e w' ⟨rfl, n5, rfl⟩)
        | (go_at_call 37; refine (rcanon_any _ _).mono ?_; rintro e w' ⟨rfl, rfl⟩)
        | fail)
        go_ret2
        exact ⟨by rw [HX.out]; rfl, by first | exact HGW.out | exact HGW.out.drewN _ | exact (HGW.out.drewN _).drewN _ | exact ((HGW.out.drewN _).drewN _).drewN _⟩
end Go.Proofs.YtjjfkjpkbpefpaaDoor.Vn
/- The reference's Fn, one way. -/
namespace Go.Proofs.YtjjfkjpkbpefpaaDoor.Vn
open Go.RowKit
set_option maxRecDepth 100000
set_option maxHeartbeats 4000000
attribute [local irreducible] wpQuiet

theorem rFnW12 (A : Option Addr) (c : Nat) (l : List Sm) (f t : Int) (x : Nat) (r : List Nat) (w : World) (h : RFnH A c l f t x r w) (_hm : leastN 12 ≤ r.length + 1) : RFnC 12 A c l f t x r w := by
  have CC := Lib.hid (rcut_any A c l f t w h.at_ h.hl)
  unfold RCutPost at CC
  have hLl := strL_len l f t
  have HLL : Hid ((strL l f t).length ≤ 1000000) := Lib.hid (by have := h.hl; omega)
  have HV := Lib.hid h.hv
  have hft := h.hft
  have hb1 := h.b1
  have hb2 := h.b2
  have q2 : decide (f ≥ t) = false := decide_eq_false (by omega)
  have hww : IntKind.i64.wrap (t - f) = t - f := by rw [IntKind.wrap_i64]; omega
  obtain ⟨L, hL⟩ : ∃ L, strL l f t = L := ⟨_, rfl⟩
  rw [hL] at CC HLL HV
  have hrl : r.length + 1 = L.length := by
    have := congrArg List.length HV.out
    rw [vals_len] at this
    simpa using this.symm
  have hrb : r.length < 1000000 := by have := HLL.out; omega
  clear hrl
  have HX : Hid (canon (Flo.ofI (cntL ltB (x :: r))) = valF 12 (x :: r) (Flo.ofI (t - f))) := Lib.hid (by rw [ofI_cn _ (by have := cntL_le ltB x r; omega)]; rfl)
  obtain ⟨s1, hs1⟩ : ∃ s, (sumF (seqOf (x :: r)) (r.length + 1)).1 = s := ⟨_, rfl⟩
  obtain ⟨s2, hs2⟩ : ∃ s, (sumF (seqOf (x :: r)) (r.length + 1)).2 = s := ⟨_, rfl⟩
  have CWW : Hid (∀ A' c' W, FlL W A' (x :: r) → Calls Tryd.prog 30 #[.slice A' (r.length + 1) c'] W fun e w' => e = .returned (.tuple #[.float .f64 s1, .float .f64 s2]) ∧ ∃ m, w' = W.drewN m) := Lib.hid fun A' c' W h => by
    have := rsum_any A' (r.length + 1) c' (seqOf (x :: r)) W (FlL.seq h) (by unfold maxLen; omega)
    rwa [hs1, hs2] at this
  obtain ⟨V, hV⟩ : ∃ V, valF 12 (x :: r) (Flo.ofI (t - f)) = V := ⟨_, rfl⟩
  unfold RFnC
  rw [hV] at HX ⊢
  clear hs1 hs2 hV hL h hLl
  go_enter Tryd.func13, Tryd.ntmps13
  go_wp2_with fail
  refine CC.out.mono ?_
  rintro e w2 ⟨g2, A2, c2, rfl, hat2, hc2⟩
  have HAT := Lib.hid hat2
  have HG2 := Lib.hid g2
  clear hat2 hc2 g2 CC
  go_wp2_with fail
  go_loopw [11, 12] (fun v9 i9 wr => ∃ k : Nat, k ≤ L.length ∧ i9 = .int .i64 k ∧ Hid (OwnF wr w2.heap.size v9 (vals (L.take k))) ∧ Hid (Gr w2 wr)) (fun _ i9 _ => L.length - (intOf i9).toNat)
  case atStart => exact ⟨0, Nat.zero_le _, rfl, Lib.hid (by simpa [vals] using Own1.nil _ _), Lib.hid (Gr.refl _)⟩
  case round =>
    obtain ⟨k, hk, rfl, HO, HG⟩ := hrel
    by_cases hlt : k < L.length
    · obtain ⟨q, hq⟩ : ∃ q, L[k]? = some q := ⟨_, List.getElem?_eq_getElem hlt⟩
      obtain ⟨b, o, rfl, hcells⟩ := (HAT.out.gr HG.out) (by omega)
      obtain ⟨e1, e2⟩ := hcells k q hq _ _ rfl
      have HLS : Hid (vals (L.take (k + 1)) = vals (L.take k) ++ [q.2]) := Lib.hid (by rw [take_s hq]; simp [vals])
      have hk1 : (vals (L.take k)).length ≤ 1000000 := by rw [vals_len, List.length_take]; have := HLL.out; omega
      obtain ⟨qt, qv⟩ := q
      simp only at e1 e2 HLS
      have m1 : (k : Int) < (L.length : Int) := by omega
      have m2 : (0 : Int) ≤ (k : Int) := by omega
      have hll := HLL.out
      clear hq hcells
      have HO4 := Lib.hid (HO.out.gr ((Gr.refl wr).alloc #[.float .f64 qv] 26))
      have HG4 := Lib.hid (HG.out.trans ((Gr.refl wr).alloc #[.float .f64 qv] 26))
      go_wp2_with (first
        | (at_builtin
           refine wpList_app2 rfl (.tmp 39) (.tmp 45) (by rfl) (by rfl) (by rfl) (by rfl) (run_appF (c := 1) (m := [qv]) HO4.out (at1_one (enc := encF) _ qv _) (by simp; omega) HG4.out.size) ?_
           rintro v5 w5 ⟨ho5, hg5, -⟩
           have HO5 : Hid (OwnF w5 w2.heap.size v5 (vals (L.take (k + 1)))) := Lib.hid (by rw [HLS.out]; exact ho5)
           have HG5 : Hid (Gr w2 w5) := Lib.hid (HG4.out.grown hg5 (fun k hk => (HO.out.lt hk).1))
           clear ho5 hg5)
        | fail)
      go_roundw
      case rel => exact ⟨k + 1, by omega, by go_num, HO5, HG5⟩
      case measure => simp [intOf]; omega
    · obtain rfl : k = L.length := by omega
      obtain ⟨A3, c3, rfl, hat3, -, -, -, -⟩ := HO.out.form
      rw [List.take_length, HV.out] at hat3
      have HLN : Hid ((vals (L.take L.length)).length = r.length + 1) := Lib.hid (by rw [List.take_length, HV.out]; rfl)
      rw [HLN.out]
      have HAT3 := Lib.hid hat3
      have HGW := Lib.hid (HG2.out.trans HG.out)
      have CW3 := Lib.hid (CWW.out A3 c3 wr HAT3.out)
      have m3 : ¬ (L.length : Int) < (L.length : Int) := by omega
      have m4 : ((r.length : Int) + 1 == 0) = false := by simp; omega
      have m5 : ¬ (r.length : Int) + 1 = 0 := by omega
      have CC2 := Lib.hid (fun n => rchg_any true A3 c3 x r (wr.drewN n) (HAT3.out.gr ((Gr.refl wr).drewN n)) (by omega))
      clear hat3
      clear HO HLN
      by_cases m7 : (r.length : Int) + 1 < 2
      all_goals
        go_wp2_with (first
        | (go_at_call 30; refine CW3.out.mono ?_; rintro e w' ⟨rfl, n4, rfl⟩)
        | (go_at_call 34; refine (CC2.out _).mono ?_; rintro e w' ⟨rfl, n5, rfl⟩)
        | (go_at_call 37; refine (rcanon_any _ _).mono ?_; rintro e w' ⟨rfl, rfl⟩)
        | fail)
        go_ret2
        exact ⟨by rw [HX.out]; rfl, by first | exact HGW.out | exact HGW.out.drewN _ | exact (HGW.out.drewN _).drewN _ | exact ((HGW.out.drewN _).drewN _).drewN _⟩
end Go.Proofs.YtjjfkjpkbpefpaaDoor.Vn
/- The reference's Fn, one way. -/
namespace Go.Proofs.YtjjfkjpkbpefpaaDoor.Vn
open Go.RowKit
set_option maxRecDepth 100000
set_option maxHeartbeats 4000000
attribute [local irreducible] wpQuiet

theorem rFnW13 (A : Option Addr) (c : Nat) (l : List Sm) (f t : Int) (x : Nat) (r : List Nat) (w : World) (h : RFnH A c l f t x r w) (_hm : leastN 13 ≤ r.length + 1) : RFnC 13 A c l f t x r w := by
  have CC := Lib.hid (rcut_any A c l f t w h.at_ h.hl)
  unfold RCutPost at CC
  have hLl := strL_len l f t
  have HLL : Hid ((strL l f t).length ≤ 1000000) := Lib.hid (by have := h.hl; omega)
  have HV := Lib.hid h.hv
  have hft := h.hft
  have hb1 := h.b1
  have hb2 := h.b2
  have q2 : decide (f ≥ t) = false := decide_eq_false (by omega)
  have hww : IntKind.i64.wrap (t - f) = t - f := by rw [IntKind.wrap_i64]; omega
  obtain ⟨L, hL⟩ : ∃ L, strL l f t = L := ⟨_, rfl⟩
  rw [hL] at CC HLL HV
  have hrl : r.length + 1 = L.length := by
    have := congrArg List.length HV.out
    rw [vals_len] at this
    simpa using this.symm
  have hrb : r.length < 1000000 := by have := HLL.out; omega
  clear hrl
  obtain ⟨s1, hs1⟩ : ∃ s, (sumF (seqOf (x :: r)) (r.length + 1)).1 = s := ⟨_, rfl⟩
  obtain ⟨s2, hs2⟩ : ∃ s, (sumF (seqOf (x :: r)) (r.length + 1)).2 = s := ⟨_, rfl⟩
  have HX : Hid (canon (magV s1 s2) = valF 13 (x :: r) (Flo.ofI (t - f))) := Lib.hid (by rw [← hs1, ← hs2]; exact addC_cn _ _)
  have CWW : Hid (∀ A' c' W, FlL W A' (x :: r) → Calls Tryd.prog 30 #[.slice A' (r.length + 1) c'] W fun e w' => e = .returned (.tuple #[.float .f64 s1, .float .f64 s2]) ∧ ∃ m, w' = W.drewN m) := Lib.hid fun A' c' W h => by
    have := rsum_any A' (r.length + 1) c' (seqOf (x :: r)) W (FlL.seq h) (by unfold maxLen; omega)
    rwa [hs1, hs2] at this
  obtain ⟨V, hV⟩ : ∃ V, valF 13 (x :: r) (Flo.ofI (t - f)) = V := ⟨_, rfl⟩
  unfold RFnC
  rw [hV] at HX ⊢
  clear hs1 hs2 hV hL h hLl
  go_enter Tryd.func13, Tryd.ntmps13
  go_wp2_with fail
  refine CC.out.mono ?_
  rintro e w2 ⟨g2, A2, c2, rfl, hat2, hc2⟩
  have HAT := Lib.hid hat2
  have HG2 := Lib.hid g2
  clear hat2 hc2 g2 CC
  go_wp2_with fail
  go_loopw [11, 12] (fun v9 i9 wr => ∃ k : Nat, k ≤ L.length ∧ i9 = .int .i64 k ∧ Hid (OwnF wr w2.heap.size v9 (vals (L.take k))) ∧ Hid (Gr w2 wr)) (fun _ i9 _ => L.length - (intOf i9).toNat)
  case atStart => exact ⟨0, Nat.zero_le _, rfl, Lib.hid (by simpa [vals] using Own1.nil _ _), Lib.hid (Gr.refl _)⟩
  case round =>
    obtain ⟨k, hk, rfl, HO, HG⟩ := hrel
    by_cases hlt : k < L.length
    · obtain ⟨q, hq⟩ : ∃ q, L[k]? = some q := ⟨_, List.getElem?_eq_getElem hlt⟩
      obtain ⟨b, o, rfl, hcells⟩ := (HAT.out.gr HG.out) (by omega)
      obtain ⟨e1, e2⟩ := hcells k q hq _ _ rfl
      have HLS : Hid (vals (L.take (k + 1)) = vals (L.take k) ++ [q.2]) := Lib.hid (by rw [take_s hq]; simp [vals])
      have hk1 : (vals (L.take k)).length ≤ 1000000 := by rw [vals_len, List.length_take]; have := HLL.out; omega
      obtain ⟨qt, qv⟩ := q
      simp only at e1 e2 HLS
      have m1 : (k : Int) < (L.length : Int) := by omega
      have m2 : (0 : Int) ≤ (k : Int) := by omega
      have hll := HLL.out
      clear hq hcells
      have HO4 := Lib.hid (HO.out.gr ((Gr.refl wr).alloc #[.float .f64 qv] 26))
      have HG4 := Lib.hid (HG.out.trans ((Gr.refl wr).alloc #[.float .f64 qv] 26))
      go_wp2_with (first
        | (at_builtin
           refine wpList_app2 rfl (.tmp 39) (.tmp 45) (by rfl) (by rfl) (by rfl) (by rfl) (run_appF (c := 1) (m := [qv]) HO4.out (at1_one (enc := encF) _ qv _) (by simp; omega) HG4.out.size) ?_
           rintro v5 w5 ⟨ho5, hg5, -⟩
           have HO5 : Hid (OwnF w5 w2.heap.size v5 (vals (L.take (k + 1)))) := Lib.hid (by rw [HLS.out]; exact ho5)
           have HG5 : Hid (Gr w2 w5) := Lib.hid (HG4.out.grown hg5 (fun k hk => (HO.out.lt hk).1))
           clear ho5 hg5)
        | fail)
      go_roundw
      case rel => exact ⟨k + 1, by omega, by go_num, HO5, HG5⟩
      case measure => simp [intOf]; omega
    · obtain rfl : k = L.length := by omega
      obtain ⟨A3, c3, rfl, hat3, -, -, -, -⟩ := HO.out.form
      rw [List.take_length, HV.out] at hat3
      have HLN : Hid ((vals (L.take L.length)).length = r.length + 1) := Lib.hid (by rw [List.take_length, HV.out]; rfl)
      rw [HLN.out]
      have HAT3 := Lib.hid hat3
      have HGW := Lib.hid (HG2.out.trans HG.out)
      have CW3 := Lib.hid (CWW.out A3 c3 wr HAT3.out)
      have m3 : ¬ (L.length : Int) < (L.length : Int) := by omega
      have m4 : ((r.length : Int) + 1 == 0) = false := by simp; omega
      have m5 : ¬ (r.length : Int) + 1 = 0 := by omega
      have CM := Lib.hid (fun W => rmag_any s1 s2 W)
      clear hat3
      clear HO HLN
      by_cases m7 : (r.length : Int) + 1 < 2
      all_goals
        go_wp2_with (first
        | (go_at_call 30; refine CW3.out.mono ?_; rintro e w' ⟨rfl, n4, rfl⟩)
        | (go_at_call 35; refine (CM.out _).mono ?_; rintro e w' ⟨rfl, n6, rfl⟩)
        | (go_at_call 37; refine (rcanon_any _ _).mono ?_; rintro e w' ⟨rfl, rfl⟩)
        | fail)
        go_ret2
        exact ⟨by rw [HX.out]; rfl, by first | exact HGW.out | exact HGW.out.drewN _ | exact (HGW.out.drewN _).drewN _ | exact ((HGW.out.drewN _).drewN _).drewN _⟩
end Go.Proofs.YtjjfkjpkbpefpaaDoor.Vn
/- The reference's Fn, one way. -/
namespace Go.Proofs.YtjjfkjpkbpefpaaDoor.Vn
open Go.RowKit
set_option maxRecDepth 100000
set_option maxHeartbeats 4000000
attribute [local irreducible] wpQuiet

theorem rFnW14 (A : Option Addr) (c : Nat) (l : List Sm) (f t : Int) (x : Nat) (r : List Nat) (w : World) (h : RFnH A c l f t x r w) (_hm : leastN 14 ≤ r.length + 1) : RFnC 14 A c l f t x r w := by
  have CC := Lib.hid (rcut_any A c l f t w h.at_ h.hl)
  unfold RCutPost at CC
  have hLl := strL_len l f t
  have HLL : Hid ((strL l f t).length ≤ 1000000) := Lib.hid (by have := h.hl; omega)
  have HV := Lib.hid h.hv
  have hft := h.hft
  have hb1 := h.b1
  have hb2 := h.b2
  have q2 : decide (f ≥ t) = false := decide_eq_false (by omega)
  have hww : IntKind.i64.wrap (t - f) = t - f := by rw [IntKind.wrap_i64]; omega
  obtain ⟨L, hL⟩ : ∃ L, strL l f t = L := ⟨_, rfl⟩
  rw [hL] at CC HLL HV
  have hrl : r.length + 1 = L.length := by
    have := congrArg List.length HV.out
    rw [vals_len] at this
    simpa using this.symm
  have hrb : r.length < 1000000 := by have := HLL.out; omega
  clear hrl
  obtain ⟨s1, hs1⟩ : ∃ s, (sumF (seqOf (x :: r)) (r.length + 1)).1 = s := ⟨_, rfl⟩
  obtain ⟨s2, hs2⟩ : ∃ s, (sumF (seqOf (x :: r)) (r.length + 1)).2 = s := ⟨_, rfl⟩
  have HX : Hid (canon (floatOfInt .f64 ((quV s1 s2 : Nat) : Int)) = valF 14 (x :: r) (Flo.ofI (t - f))) := Lib.hid (by rw [foi, ofI_cn _ (by have := quV_le s1 s2; omega), ← hs1, ← hs2]; rfl)
  have CWW : Hid (∀ A' c' W, FlL W A' (x :: r) → Calls Tryd.prog 30 #[.slice A' (r.length + 1) c'] W fun e w' => e = .returned (.tuple #[.float .f64 s1, .float .f64 s2]) ∧ ∃ m, w' = W.drewN m) := Lib.hid fun A' c' W h => by
    have := rsum_any A' (r.length + 1) c' (seqOf (x :: r)) W (FlL.seq h) (by unfold maxLen; omega)
    rwa [hs1, hs2] at this
  obtain ⟨V, hV⟩ : ∃ V, valF 14 (x :: r) (Flo.ofI (t - f)) = V := ⟨_, rfl⟩
  unfold RFnC
  rw [hV] at HX ⊢
  clear hs1 hs2 hV hL h hLl
  go_enter Tryd.func13, Tryd.ntmps13
  go_wp2_with fail
  refine CC.out.mono ?_
  rintro e w2 ⟨g2, A2, c2, rfl, hat2, hc2⟩
  have HAT := Lib.hid hat2
  have HG2 := Lib.hid g2
  clear hat2 hc2 g2 CC
  go_wp2_with fail
  go_loopw [11, 12] (fun v9 i9 wr => ∃ k : Nat, k ≤ L.length ∧ i9 = .int .i64 k ∧ Hid (OwnF wr w2.heap.size v9 (vals (L.take k))) ∧ Hid (Gr w2 wr)) (fun _ i9 _ => L.length - (intOf i9).toNat)
  case atStart => exact ⟨0, Nat.zero_le _, rfl, Lib.hid (by simpa [vals] using Own1.nil _ _), Lib.hid (Gr.refl _)⟩
  case round =>
    obtain ⟨k, hk, rfl, HO, HG⟩ := hrel
    by_cases hlt : k < L.length
    · obtain ⟨q, hq⟩ : ∃ q, L[k]? = some q := ⟨_, List.getElem?_eq_getElem hlt⟩
      obtain ⟨b, o, rfl, hcells⟩ := (HAT.out.gr HG.out) (by omega)
      obtain ⟨e1, e2⟩ := hcells k q hq _ _ rfl
      have HLS : Hid (vals (L.take (k + 1)) = vals (L.take k) ++ [q.2]) := Lib.hid (by rw [take_s hq]; simp [vals])
      have hk1 : (vals (L.take k)).length ≤ 1000000 := by rw [vals_len, List.length_take]; have := HLL.out; omega
      obtain ⟨qt, qv⟩ := q
      simp only at e1 e2 HLS
      have m1 : (k : Int) < (L.length : Int) := by omega
      have m2 : (0 : Int) ≤ (k : Int) := by omega
      have hll := HLL.out
      clear hq hcells
      have HO4 := Lib.hid (HO.out.gr ((Gr.refl wr).alloc #[.float .f64 qv] 26))
      have HG4 := Lib.hid (HG.out.trans ((Gr.refl wr).alloc #[.float .f64 qv] 26))
      go_wp2_with (first
        | (at_builtin
           refine wpList_app2 rfl (.tmp 39) (.tmp 45) (by rfl) (by rfl) (by rfl) (by rfl) (run_appF (c := 1) (m := [qv]) HO4.out (at1_one (enc := encF) _ qv _) (by simp; omega) HG4.out.size) ?_
           rintro v5 w5 ⟨ho5, hg5, -⟩
           have HO5 : Hid (OwnF w5 w2.heap.size v5 (vals (L.take (k + 1)))) := Lib.hid (by rw [HLS.out]; exact ho5)
           have HG5 : Hid (Gr w2 w5) := Lib.hid (HG4.out.grown hg5 (fun k hk => (HO.out.lt hk).1))
           clear ho5 hg5)
        | fail)
      go_roundw
      case rel => exact ⟨k + 1, by omega, by go_num, HO5, HG5⟩
      case measure => simp [intOf]; omega
    · obtain rfl : k = L.length := by omega
      obtain ⟨A3, c3, rfl, hat3, -, -, -, -⟩ := HO.out.form
      rw [List.take_length, HV.out] at hat3
      have HLN : Hid ((vals (L.take L.length)).length = r.length + 1) := Lib.hid (by rw [List.take_length, HV.out]; rfl)
      rw [HLN.out]
      have HAT3 := Lib.hid hat3
      have HGW := Lib.hid (HG2.out.trans HG.out)
      have CW3 := Lib.hid (CWW.out A3 c3 wr HAT3.out)
      have m3 : ¬ (L.length : Int) < (L.length : Int) := by omega
      have m4 : ((r.length : Int) + 1 == 0) = false := by simp; omega
      have m5 : ¬ (r.length : Int) + 1 = 0 := by omega
      have CQ := Lib.hid (fun W => rqu_any s1 s2 W)
      clear hat3
      clear HO HLN
      by_cases m7 : (r.length : Int) + 1 < 2
      all_goals
        go_wp2_with (first
        | (go_at_call 30; refine CW3.out.mono ?_; rintro e w' ⟨rfl, n4, rfl⟩)
        | (go_at_call 36; refine (CQ.out _).mono ?_; rintro e w' ⟨rfl, rfl⟩)
        | (go_at_call 37; refine (rcanon_any _ _).mono ?_; rintro e w' ⟨rfl, rfl⟩)
        | fail)
        go_ret2
        exact ⟨by rw [HX.out]; rfl, by first | exact HGW.out | exact HGW.out.drewN _ | exact (HGW.out.drewN _).drewN _ | exact ((HGW.out.drewN _).drewN _).drewN _⟩
end Go.Proofs.YtjjfkjpkbpefpaaDoor.Vn
