/- bracketed. -/
import Derived.Test.YtnlfndhgdeapeaaBox
namespace Go.Proofs.Ytnlfndhgdeapeaa
open Go.RowKit
set_option maxRecDepth 100000
set_option maxHeartbeats 4000000

def brS (s : List UInt8) (br : Nat → Bool × Nd × Nat) (k : Nat) : Bool × Nd × Nat :=
  if (br k).1 then (if isAt s (br k).2.2 41 then (true, (br k).2.1, (br k).2.2 + 1) else (false, noN, (br k).2.2)) else (false, noN, (br k).2.2)
/-- what is known of pattern: from the place k on -/
def PatAt (b : Nat) (s : ByteArray) (br : Nat → Bool × Nd × Nat) (k : Nat) : Prop := ∀ W, Rd W b s k → Calls Try.prog 23 #[.pointer (some ⟨b, 0, none⟩)] W (ReadPost b s (br k) W)
theorem bracketed_any (b k : Nat) (s : ByteArray) (br : Nat → Bool × Nd × Nat) (w : World) (h : Rd w b s k) (hs : s.size ≤ 1000000) (hp : PatAt b s br k) (hbr : (br k).2.2 ≤ s.size) :
    Calls Try.prog 69 #[.pointer (some ⟨b, 0, none⟩)] w (ReadPost b s (brS s.data.toList br k) w) := by
  have hbN := h.lt
  have CT := Lib.hid (fun (k : Nat) W (h : Rd W b s k) (hk : k ≤ s.size) => take_any b s k 41 W h hk hs)
  have CP := Lib.hid (hp (w.alloc (.cells #[.int .i64 0, .int .u64 0, .int .u64 0, .int .u64 0, .int .u64 0, .slice none 0 0] 57)) (h.gr ((Gr.refl w).alloc _ _)))
  obtain ⟨R, hR⟩ : ∃ R, brS s.data.toList br k = R := ⟨_, rfl⟩
  rw [hR]
  unfold brS at hR
  obtain ⟨r, hr⟩ : ∃ r, br k = r := ⟨_, rfl⟩
  rw [hr] at hR CP hbr
  have HR := Lib.hid hR
  clear hR hr hp h
  obtain ⟨ok, n, k1⟩ := r
  simp only at hbr
  have hres : Try.f69.results = #[.cell 2 57, .tmp 3] := by kernel_rfl
  have HB0 := Lib.hid (bx_new w (.int .i64 0) (.int .u64 0) (.int .u64 0) (.int .u64 0) (.int .u64 0) (.slice none 0 0))
  cases ok
  · have H : Hid (R = (false, noN, k1)) := Lib.hid (by rw [← HR.out]; rfl)
    go_enter Try.func69, Try.ntmps69
    go_wp2_with fail
    refine CP.out.mono ?_
    rintro e w1 ⟨hr1, ho1, v, rfl, -, hv2⟩
    obtain rfl := hv2 rfl
    have HR1 : Hid (Rd w1 b s k1) := Lib.hid hr1
    have HO1 : Hid (Only w w1 b) := Lib.hid (((Only.refl w b).gr ((Gr.refl w).alloc _ _)).trans ho1)
    have HB1 := Lib.hid (HB0.out.only ho1 (by omega))
    clear hr1 ho1 CP CT HB0 hv2 HR
    unfold zeroN
    go_wp2_with (with_reducible refine bar_at 12 rfl fun Wx hWx => ?_)
    have HR2 : Hid (Rd Wx b s k1) := Lib.hid (by rw [← hWx]; exact HR1.out.gr ((Gr.refl w1).alloc _ _))
    have HO2 : Hid (Only w Wx b) := Lib.hid (by rw [← hWx]; exact HO1.out.gr ((Gr.refl w1).alloc _ _))
    have HB2 := HB1.out.gr ((Gr.refl w1).alloc #[.int .i64 0, .int .u64 0, .int .u64 0, .int .u64 0, .int .u64 0, .slice none 0 0] 57)
    rw [hWx] at HB2
    clear hWx HR1 HO1 HB1
    obtain ⟨e0, e1, e2, e3, e4, e5, f0, f1, f2, f3, f4, f5⟩ := HB2.facts
    clear HB2
    unfold Bar
    go_wp2
    refine bodyPost_ret (v := .tuple #[zeroN, .bool false]) ?_ rfl ?_
    · simp only [results, hres]
      go_simp
      rfl
    exact read_no _ _ _ _ _ _ hbN H.out HR2.out HO2.out
  · obtain ⟨tk, htk⟩ : ∃ tk, isAt s.data.toList k1 41 = tk := ⟨_, rfl⟩
    have HT : Hid (R = if tk then (true, n, k1 + 1) else (false, noN, k1)) := Lib.hid (by rw [← HR.out, ← htk]; rfl)
    clear HR
    go_enter Try.func69, Try.ntmps69
    go_wp2_with fail
    refine CP.out.mono ?_
    rintro e w1 ⟨hr1, ho1, v, rfl, hv, -⟩
    obtain ⟨kk, u0, u1, u2, u3, m, c, A, rfl⟩ := (hv rfl).form
    have HV := Lib.hid (hv rfl)
    have HR1 : Hid (Rd w1 b s k1) := Lib.hid hr1
    have HO1 : Hid (Only w w1 b) := Lib.hid (((Only.refl w b).gr ((Gr.refl w).alloc _ _)).trans ho1)
    have HB1 := Lib.hid (HB0.out.only ho1 (by omega))
    have hbM := hr1.lt
    clear hr1 ho1 CP HB0 hv
    go_wp2_with (with_reducible refine bar_at 12 rfl fun Wx hWx => ?_)
    have HR2 : Hid (Rd Wx b s k1) := Lib.hid (by rw [← hWx]; exact HR1.out.gr ((Gr.refl w1).alloc _ _))
    have HO2 : Hid (Only w Wx b) := Lib.hid (by rw [← hWx]; exact HO1.out.gr ((Gr.refl w1).alloc _ _))
    have HB2 : Hid (Bx Wx w.heap.size _ _ _ _ _ _) := Lib.hid (by rw [← hWx]; exact HB1.out.gr ((Gr.refl w1).alloc _ _))
    have HC2 := bx_new w1 (.int .i64 kk) (.int .u64 u0) (.int .u64 u1) (.int .u64 u2) (.int .u64 u3) (.slice A m c)
    rw [hWx] at HC2
    have HC := Lib.hid HC2
    have HV2 : Hid (∃ X : Nat → Prop, (∀ c, X c → w.heap.size < c ∧ c < w1.heap.size) ∧ NodeV Wx X n (.agg #[.int .i64 kk, .int .u64 u0, .int .u64 u1, .int .u64 u2, .int .u64 u3, .slice A m c])) := Lib.hid (by
      obtain ⟨X, hX, hn⟩ := HV.out
      refine ⟨X, fun c hc => ?_, NodeV.same (fun c hc hlt => ?_) _ _ hn⟩
      · have := hX c hc
        simp at this
        omega
      · rw [← hWx]; exact ((Gr.refl w1).alloc _ _).b.block c hlt)
    clear hWx HR1 HO1 HB1 HC2 HV
    have CT2 := Lib.hid (CT.out k1 Wx HR2.out hbr)
    unfold TakePost at CT2
    rw [htk] at CT2
    clear htk CT
    unfold Bar
    have hN1 : w.heap.size < Wx.heap.size := HB2.out.lt
    have hM1 : w1.heap.size < Wx.heap.size := HC.out.lt
    cases tk
    · have H : Hid (R = (false, noN, k1)) := Lib.hid (by rw [HT.out]; rfl)
      go_wp2_with fail
      refine CT2.out.mono ?_
      rintro e w3 ⟨rfl, hr3, ho3⟩
      have HB3 := HB2.out.only ho3 (by omega)
      have HR3 : Hid (Rd w3 b s k1) := Lib.hid hr3
      have HO3 : Hid (Only w w3 b) := Lib.hid (HO2.out.trans ho3)
      clear hr3 ho3 HB2 CT2 HC
      obtain ⟨e0, e1, e2, e3, e4, e5, f0, f1, f2, f3, f4, f5⟩ := HB3.facts
      clear HB3
      go_wp2
      refine bodyPost_ret (v := .tuple #[zeroN, .bool false]) ?_ rfl ?_
      · simp only [results, hres]
        go_simp
        rfl
      exact read_no _ _ _ _ _ _ hbN H.out HR3.out HO3.out
    · have H : Hid (R = (true, n, k1 + 1)) := Lib.hid (by rw [HT.out]; rfl)
      go_wp2_with fail
      refine CT2.out.mono ?_
      rintro e w3 ⟨rfl, hr3, ho3⟩
      have HB3 := HB2.out.only ho3 (by omega)
      have HC3 := HC.out.only ho3 (by omega)
      have HR3 : Hid (Rd w3 b s (k1 + 1)) := Lib.hid hr3
      have HO3 : Hid (Only w w3 b) := Lib.hid (HO2.out.trans ho3)
      have HV3 : Hid (∃ X : Nat → Prop, (∀ c, X c → w.heap.size < c ∧ c < w3.heap.size) ∧ NodeV w3 X n (.agg #[.int .i64 kk, .int .u64 u0, .int .u64 u1, .int .u64 u2, .int .u64 u3, .slice A m c])) := Lib.hid (by
        obtain ⟨X, hX, hn⟩ := HV2.out
        have := ho3.size
        refine ⟨X, fun c hc => ?_, NodeV.same (fun c hc hlt => ?_) _ _ hn⟩
        · have := hX c hc
          omega
        · have := hX c hc
          exact ho3.blk hlt (by omega))
      clear hr3 ho3 HB2 CT2 HC HV2
      obtain ⟨e0, e1, e2, e3, e4, e5, f0, f1, f2, f3, f4, f5⟩ := HB3.facts
      obtain ⟨g0, g1, g2, g3, g4, g5, -⟩ := HC3.facts
      clear HB3 HC3
      go_wp2
      refine bodyPost_ret (v := .tuple #[.agg #[.int .i64 kk, .int .u64 u0, .int .u64 u1, .int .u64 u2, .int .u64 u3, .slice A m c], .bool true]) ?_ rfl ?_
      · simp only [results, hres]
        go_simp
      exact read_yes _ _ _ _ _ _ hbN H.out HR3.out HO3.out HV3.out
end Go.Proofs.Ytnlfndhgdeapeaa
