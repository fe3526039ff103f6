/- atom. -/
import Derived.Test.YtnlfndhgdeapeaaBrack
namespace Go.Proofs.Ytnlfndhgdeapeaa
open Go.RowKit
set_option maxRecDepth 100000
set_option maxHeartbeats 4000000

/-- the result's block is behind the world w; all zero -/
structure AtSt (w W : World) (b : Nat) (s : ByteArray) (k : Nat) : Prop where
  r : Rd W b s k
  o : Only w W b
  x : Bx W w.heap.size (.int .i64 0) (.int .u64 0) (.int .u64 0) (.int .u64 0) (.int .u64 0) (.slice none 0 0)
theorem AtSt.start {w : World} {b k : Nat} {s : ByteArray} (h : Rd w b s k) : AtSt w (w.alloc (.cells #[.int .i64 0, .int .u64 0, .int .u64 0, .int .u64 0, .int .u64 0, .slice none 0 0] 57)) b s k :=
  ⟨h.gr ((Gr.refl w).alloc _ _), (Only.refl w b).gr ((Gr.refl w).alloc _ _), bx_new w _ _ _ _ _ _⟩
theorem AtSt.on {w W W' : World} {b k k' : Nat} {s : ByteArray} (h : AtSt w W b s k) (hb : b < w.heap.size) (r : Rd W' b s k') (o : Only W W' b) : AtSt w W' b s k' := ⟨r, h.o.trans o, h.x.only o (by omega)⟩
theorem AtSt.gr {w W W' : World} {b k : Nat} {s : ByteArray} (h : AtSt w W b s k) (g : Gr W W') : AtSt w W' b s k := ⟨h.r.gr g, h.o.gr g, h.x.gr g⟩
theorem AtSt.no {w W : World} {b k : Nat} {s : ByteArray} {R : Bool × Nd × Nat} {n : Nd} (v0 v1 v2 v3 v4 v5 : Value) (h : AtSt w W b s k) (hb : b < w.heap.size) (H : R = (false, n, k)) :
    ReadPost b s R w (.returned (.tuple #[zeroN, .bool false])) ((((((W.setCell ⟨w.heap.size, 0, none⟩ v0).setCell ⟨w.heap.size, 1, none⟩ v1).setCell ⟨w.heap.size, 2, none⟩ v2).setCell ⟨w.heap.size, 3, none⟩ v3).setCell ⟨w.heap.size, 4, none⟩ v4).setCell ⟨w.heap.size, 5, none⟩ v5) :=
  read_no _ _ _ _ _ _ hb H h.r h.o
theorem AtSt.leaf {w W : World} {b k : Nat} {s : ByteArray} {R : Bool × Nd × Nat} {p : Nat → Bool} {v : Value} (v0 v1 v2 v3 v4 v5 : Value) (h : AtSt w W b s k) (hb : b < w.heap.size) (H : R = (true, .one p, k)) (hv : LeafV v p) :
    ReadPost b s R w (.returned (.tuple #[v, .bool true])) ((((((W.setCell ⟨w.heap.size, 0, none⟩ v0).setCell ⟨w.heap.size, 1, none⟩ v1).setCell ⟨w.heap.size, 2, none⟩ v2).setCell ⟨w.heap.size, 3, none⟩ v3).setCell ⟨w.heap.size, 4, none⟩ v4).setCell ⟨w.heap.size, 5, none⟩ v5) :=
  read_yes _ _ _ _ _ _ hb H h.r h.o ⟨fun _ => False, fun _ h => h.elim, by unfold NodeV; exact hv⟩
/-- a call that changes a block that was made since -/
theorem Only.past {w W W' : World} {b M : Nat} (h : Only w W b) (g : Only W W' M) (hM : w.heap.size ≤ M) : Only w W' b :=
  ⟨g.os.trans h.os, g.tape.trans h.tape, g.output.trans h.output, Nat.le_trans h.size g.size, fun i hi hne => (g.block i (Nat.lt_of_lt_of_le hi h.size) (fun e => by have := Option.some.inj e; omega)).trans (h.block i hi hne)⟩
theorem AtSt.past {w W W' : World} {b k M : Nat} {s : ByteArray} (h : AtSt w W b s k) (hb : b < w.heap.size) (g : Only W W' M) (hM : w.heap.size < M) : AtSt w W' b s k :=
  ⟨h.r.only g (by omega), h.o.past g (by omega), h.x.only g (by omega)⟩
theorem Bx.bs {W : World} {M : Nat} {a0 a5 : Value} (h : Bx W M a0 (.int .u64 (0 : Nat)) (.int .u64 (0 : Nat)) (.int .u64 (0 : Nat)) (.int .u64 (0 : Nat)) a5) : BsAt W M 1 (fun _ => false) := fun i hi => by
  obtain ⟨e0, e1, e2, e3, e4, e5, f0, f1, f2, f3, f4, f5⟩ := h.facts
  have e : Wd64 0 (fun _ => false) i := ⟨by omega, fun j _ => by simp⟩
  match i, hi with
  | 0, _ => exact ⟨0, e1, f1, e⟩
  | 1, _ => exact ⟨0, e2, f2, e⟩
  | 2, _ => exact ⟨0, e3, f3, e⟩
  | 3, _ => exact ⟨0, e4, f4, e⟩
theorem isAt_lt {s : ByteArray} {k : Nat} {c : UInt8} (h : isAt s.data.toList k c = true) : k < s.size := by
  have := (List.getElem?_eq_some_iff.1 (of_decide_eq_true h)).1
  simpa using this
theorem AtSt.any {w W : World} {b : Nat} {s : ByteArray} {R : Bool × Nd × Nat} {v : Value} (v0 v1 v2 v3 v4 v5 : Value) (h : AtSt w W b s R.2.2) (hb : b < w.heap.size) (hv : R.1 = true → ∃ X : Nat → Prop, (∀ c, X c → w.heap.size < c ∧ c < W.heap.size) ∧ NodeV W X R.2.1 v) (h0 : R.1 = false → v = zeroN) :
    ReadPost b s R w (.returned (.tuple #[v, .bool R.1])) ((((((W.setCell ⟨w.heap.size, 0, none⟩ v0).setCell ⟨w.heap.size, 1, none⟩ v1).setCell ⟨w.heap.size, 2, none⟩ v2).setCell ⟨w.heap.size, 3, none⟩ v3).setCell ⟨w.heap.size, 4, none⟩ v4).setCell ⟨w.heap.size, 5, none⟩ v5) := by
  obtain ⟨ok, n, k⟩ := R
  cases ok
  · obtain rfl := h0 rfl
    exact read_no _ _ _ _ _ _ hb rfl h.r h.o
  · exact read_yes _ _ _ _ _ _ hb rfl h.r h.o (hv rfl)
theorem read_form {w w' : World} {n : Nd} {ok : Bool} {v : Value} (h1 : ok = true → NewN w w' n v) (h0 : ok = false → v = zeroN) : ∃ (k u0 u1 u2 u3 m c : Nat) (A : Option Addr), v = .agg #[.int .i64 k, .int .u64 u0, .int .u64 u1, .int .u64 u2, .int .u64 u3, .slice A m c] := by
  cases ok
  · exact ⟨0, 0, 0, 0, 0, 0, 0, none, h0 rfl⟩
  · exact (h1 rfl).form
theorem atom_any (b k : Nat) (s : ByteArray) (br : Nat → Bool × Nd × Nat) (w : World) (h : Rd w b s k) (hk : k ≤ s.size) (hs : s.size ≤ 1000000) (hp : isAt s.data.toList k 40 = true → PatAt b s br (k + 1) ∧ (br (k + 1)).2.2 ≤ s.size) :
    Calls Try.prog 63 #[.pointer (some ⟨b, 0, none⟩)] w (ReadPost b s (atomS s.data.toList br k) w) := by
  have hbN := h.lt
  have CT := Lib.hid (fun (c : UInt8) (k : Nat) W (h : Rd W b s k) (hk : k ≤ s.size) => take_any b s k c W h hk hs)
  have hres : Try.f63.results = #[.cell 2 57, .tmp 3] := by kernel_rfl
  have HS := Lib.hid (AtSt.start h)
  obtain ⟨R, hR⟩ : ∃ R, atomS s.data.toList br k = R := ⟨_, rfl⟩
  rw [hR]
  unfold atomS at hR
  have HP := Lib.hid hp
  clear h hp
  obtain ⟨t1, ht1⟩ : ∃ t, isAt s.data.toList k 46 = t := ⟨_, rfl⟩
  have C1 := Lib.hid (CT.out 46 k _ HS.out.r hk)
  unfold TakePost at C1
  rw [ht1] at C1 hR
  have hl1 : t1 = true → k < s.size := fun e => isAt_lt (ht1.trans e)
  have HR := Lib.hid hR
  clear ht1 hR
  go_enter Try.func63, Try.ntmps63
  go_wp2_with fail
  refine C1.out.mono ?_
  rintro e w1 ⟨rfl, hr1, ho1⟩
  have HS1 := Lib.hid (HS.out.on hbN hr1 ho1)
  clear hr1 ho1 HS C1
  cases t1
  case true =>
    have hlt := hl1 rfl
    have H : Hid (R = (true, .one (fun x => !(fun _ => false : Nat → Bool) x), k + 1)) := Lib.hid (by rw [← HR.out]; rfl)
    have z : ∀ i, Wd64 0 (fun _ => false) i := fun i => ⟨by omega, fun j _ => by simp⟩
    have CO := Lib.hid (others_any 0 0 0 0 (fun _ => false) w1 (z 0) (z 1) (z 2) (z 3))
    clear z HR HP CT
    go_wp2_with fail
    refine CO.out.mono ?_
    rintro e w2 ⟨⟨u0, u1, u2, u3, rfl, q0, q1, q2, q3⟩, gg⟩
    have HS2 := Lib.hid (HS1.out.gr gg)
    have HV := Lib.hid (show LeafV (.agg #[.int .i64 0, .int .u64 u0, .int .u64 u1, .int .u64 u2, .int .u64 u3, .slice none 0 0]) (fun x => !(fun _ => false : Nat → Bool) x) from ⟨u0, u1, u2, u3, rfl, q0, q1, q2, q3⟩)
    clear q0 q1 q2 q3 gg HS1 CO
    obtain ⟨e0, e1, e2, e3, e4, e5, f0, f1, f2, f3, f4, f5⟩ := HS2.out.x.facts
    go_wp2
    refine bodyPost_ret (v := .tuple #[.agg #[.int .i64 0, .int .u64 u0, .int .u64 u1, .int .u64 u2, .int .u64 u3, .slice none 0 0], .bool true]) ?_ rfl ?_
    · simp only [results, hres]
      go_simp
    exact HS2.out.leaf _ _ _ _ _ _ hbN H.out HV.out
  have HR1 : Hid ((if isAt s.data.toList k 40 then brS s.data.toList br (k + 1)
    else if isAt s.data.toList k 91 then ((setS s.data.toList (k + 1)).1, .one (setS s.data.toList (k + 1)).2.1, (setS s.data.toList (k + 1)).2.2)
    else if (letterS s.data.toList spL bsL k).1 then (true, .one (fun x => false || inR (letterS s.data.toList spL bsL k).2.1.toNat (letterS s.data.toList spL bsL k).2.1.toNat x), (letterS s.data.toList spL bsL k).2.2)
    else (false, noN, (letterS s.data.toList spL bsL k).2.2)) = R) := Lib.hid HR.out
  clear HR hl1
  obtain ⟨t2, ht2⟩ : ∃ t, isAt s.data.toList k 40 = t := ⟨_, rfl⟩
  have C1 := Lib.hid (CT.out 40 k _ HS1.out.r hk)
  unfold TakePost at C1
  have hR := HR1.out
  rw [ht2] at C1 hR
  have hl2 : t2 = true → k < s.size := fun e => isAt_lt (ht2.trans e)
  have HP2 : Hid (t2 = true → PatAt b s br (k + 1) ∧ (br (k + 1)).2.2 ≤ s.size) := Lib.hid fun e => HP.out (ht2.trans e)
  have HR := Lib.hid hR
  clear ht2 hR HR1 HP
  go_wp2_with fail
  refine C1.out.mono ?_
  rintro e w2 ⟨rfl, hr2, ho2⟩
  have HS2 := Lib.hid (HS1.out.on hbN hr2 ho2)
  clear hr2 ho2 HS1 C1
  cases t2
  case true =>
    have hlt := hl2 rfl
    have CB := Lib.hid (bracketed_any b (k + 1) s br w2 HS2.out.r hs (HP2.out rfl).1 (HP2.out rfl).2)
    have hR : brS s.data.toList br (k + 1) = R := HR.out
    rw [hR] at CB
    clear HR HP2 CT hR
    have hlt2 := HS2.out.x.lt
    go_wp2_with fail
    refine CB.out.mono ?_
    rintro e w3 ⟨hr3, ho3, v, rfl, hv, hv0⟩
    obtain ⟨kk, u0, u1, u2, u3, m, c, A, rfl⟩ := read_form hv hv0
    have HS3 := Lib.hid (HS2.out.on hbN hr3 ho3)
    have HV := Lib.hid (And.intro hv hv0)
    clear hr3 ho3 hv hv0 HS2 CB
    obtain ⟨e0, e1, e2, e3, e4, e5, f0, f1, f2, f3, f4, f5⟩ := HS3.out.x.facts
    go_wp2
    refine bodyPost_ret (v := .tuple #[.agg #[.int .i64 kk, .int .u64 u0, .int .u64 u1, .int .u64 u2, .int .u64 u3, .slice A m c], .bool R.1]) ?_ rfl ?_
    · simp only [results, hres]
      go_simp
    exact HS3.out.any _ _ _ _ _ _ hbN (fun e => (HV.out.1 e).late hlt2 (Nat.le_refl _) (fun _ _ _ => rfl)) HV.out.2
  have HR2 : Hid ((if isAt s.data.toList k 91 then ((setS s.data.toList (k + 1)).1, .one (setS s.data.toList (k + 1)).2.1, (setS s.data.toList (k + 1)).2.2)
    else if (letterS s.data.toList spL bsL k).1 then (true, .one (fun x => false || inR (letterS s.data.toList spL bsL k).2.1.toNat (letterS s.data.toList spL bsL k).2.1.toNat x), (letterS s.data.toList spL bsL k).2.2)
    else (false, noN, (letterS s.data.toList spL bsL k).2.2)) = R) := Lib.hid HR.out
  clear HR hl2 HP2
  obtain ⟨t3, ht3⟩ : ∃ t, isAt s.data.toList k 91 = t := ⟨_, rfl⟩
  have C1 := Lib.hid (CT.out 91 k _ HS2.out.r hk)
  unfold TakePost at C1
  have hR := HR2.out
  rw [ht3] at C1 hR
  have hl3 : t3 = true → k < s.size := fun e => isAt_lt (ht3.trans e)
  have HR := Lib.hid hR
  clear ht3 hR HR2 CT
  go_wp2_with fail
  refine C1.out.mono ?_
  rintro e w3 ⟨rfl, hr3, ho3⟩
  have HS3 := Lib.hid (HS2.out.on hbN hr3 ho3)
  clear hr3 ho3 HS2 C1
  cases t3
  case true =>
    have hlt := hl3 rfl
    have CB := Lib.hid (set_any b (k + 1) s w3 HS3.out.r (by omega) hs)
    have HR2 : Hid (R = ((setS s.data.toList (k + 1)).1, .one (setS s.data.toList (k + 1)).2.1, (setS s.data.toList (k + 1)).2.2)) := Lib.hid (HR.out.symm)
    clear HR
    obtain ⟨q, hq⟩ : ∃ q, setS s.data.toList (k + 1) = q := ⟨_, rfl⟩
    rw [hq] at CB HR2
    clear hq
    have h1 : R.1 = q.1 := by rw [HR2.out]
    have H1 := Lib.hid h1
    clear h1
    go_wp2_with fail
    refine CB.out.mono ?_
    rintro e w4 ⟨hr4, ho4, v, rfl, hv, hv0⟩
    have HS4 : Hid (AtSt w w4 b s R.2.2) := Lib.hid (by rw [HR2.out]; exact HS3.out.on hbN hr4 ho4)
    have HV : Hid ((R.1 = true → ∃ X : Nat → Prop, (∀ c, X c → w.heap.size < c ∧ c < w4.heap.size) ∧ NodeV w4 X R.2.1 v) ∧ (R.1 = false → v = zeroN)) := Lib.hid (by
      rw [HR2.out]
      exact ⟨fun e => ⟨fun _ => False, fun _ h => h.elim, by unfold NodeV; exact hv e⟩, hv0⟩)
    have hform : ∃ u0 u1 u2 u3 : Nat, v = .agg #[.int .i64 0, .int .u64 u0, .int .u64 u1, .int .u64 u2, .int .u64 u3, .slice none 0 0] := by
      cases hq : q.1
      · exact ⟨0, 0, 0, 0, hv0 hq⟩
      · obtain ⟨u0, u1, u2, u3, e, -⟩ := hv hq
        exact ⟨u0, u1, u2, u3, e⟩
    obtain ⟨u0, u1, u2, u3, rfl⟩ := hform
    rw [← H1.out]
    clear hr4 ho4 hv hv0 HS3 CB HR2
    obtain ⟨e0, e1, e2, e3, e4, e5, f0, f1, f2, f3, f4, f5⟩ := HS4.out.x.facts
    go_wp2
    refine bodyPost_ret (v := .tuple #[.agg #[.int .i64 0, .int .u64 u0, .int .u64 u1, .int .u64 u2, .int .u64 u3, .slice none 0 0], .bool R.1]) ?_ rfl ?_
    · simp only [results, hres]
      go_simp
    exact HS4.out.any _ _ _ _ _ _ hbN HV.out.1 HV.out.2
  have HR3 : Hid ((if (letterS s.data.toList spL bsL k).1 then (true, .one (fun x => false || inR (letterS s.data.toList spL bsL k).2.1.toNat (letterS s.data.toList spL bsL k).2.1.toNat x), (letterS s.data.toList spL bsL k).2.2)
    else (false, noN, (letterS s.data.toList spL bsL k).2.2)) = R) := Lib.hid HR.out
  clear HR hl3
  have CL : Hid (Calls Try.prog 25 #[.pointer (some ⟨b, 0, none⟩), .string ⟨#[92, 46, 91, 93, 40, 41, 124, 42, 43, 63]⟩, .string ⟨#[92, 46, 91, 93, 40, 41, 124, 42, 43, 63, 94, 36, 123, 125, 47, 45]⟩] w3 (LetterPost b s (letterS s.data.toList spL bsL k) w3)) := Lib.hid (letter_any b s ⟨#[92, 46, 91, 93, 40, 41, 124, 42, 43, 63]⟩ ⟨#[92, 46, 91, 93, 40, 41, 124, 42, 43, 63, 94, 36, 123, 125, 47, 45]⟩ k w3 HS3.out.r hk hs)
  obtain ⟨q, hq⟩ : ∃ q, letterS s.data.toList spL bsL k = q := ⟨_, rfl⟩
  rw [hq] at CL HR3
  clear hq
  obtain ⟨ok, cc, k1⟩ := q
  unfold LetterPost at CL
  simp only at CL HR3
  cases ok
  case false =>
    have H : Hid (R = (false, noN, k1)) := Lib.hid (by rw [← HR3.out]; rfl)
    clear HR3
    go_wp2_with fail
    refine CL.out.mono ?_
    rintro e w4 ⟨rfl, hr4, ho4⟩
    have HS4 : Hid (AtSt w w4 b s k1) := Lib.hid (HS3.out.on hbN hr4 ho4)
    clear hr4 ho4 HS3 CL
    obtain ⟨e0, e1, e2, e3, e4, e5, f0, f1, f2, f3, f4, f5⟩ := HS4.out.x.facts
    go_wp2
    refine bodyPost_ret (v := .tuple #[zeroN, .bool false]) ?_ rfl ?_
    · simp only [results, hres]
      go_simp
      rfl
    exact HS4.out.no _ _ _ _ _ _ hbN H.out
  have H : Hid (R = (true, .one (fun x => false || inR cc.toNat cc.toNat x), k1)) := Lib.hid (by rw [← HR3.out]; rfl)
  clear HR3
  go_wp2_with fail
  refine CL.out.mono ?_
  rintro e w4 ⟨rfl, hr4, ho4⟩
  have HS4 : Hid (AtSt w w4 b s k1) := Lib.hid (HS3.out.on hbN hr4 ho4)
  clear hr4 ho4 HS3 CL
  go_wp2_with (with_reducible refine bar_at 36 rfl fun Wx hWx => ?_)
  have hM : w.heap.size < w4.heap.size := HS4.out.x.lt
  have HS5 : Hid (AtSt w Wx b s k1) := Lib.hid (by rw [← hWx]; exact HS4.out.gr ((Gr.refl w4).alloc _ _))
  have HB : Hid (BsAt Wx w4.heap.size 1 (fun _ => false) ∧ Wx.cell? ⟨w4.heap.size, 0, none⟩ = some (.int .i64 0) ∧ Wx.cell? ⟨w4.heap.size, 5, none⟩ = some (.slice none 0 0)) := Lib.hid (by
    have hx := bx_new w4 (.int .i64 0) (.int .u64 (0 : Nat)) (.int .u64 (0 : Nat)) (.int .u64 (0 : Nat)) (.int .u64 (0 : Nat)) (.slice none 0 0)
    have hy : Bx Wx w4.heap.size (.int .i64 0) (.int .u64 (0 : Nat)) (.int .u64 (0 : Nat)) (.int .u64 (0 : Nat)) (.int .u64 (0 : Nat)) (.slice none 0 0) := by rw [← hWx]; exact hx
    exact ⟨hy.bs, hy.facts.1, hy.facts.2.2.2.2.2.1⟩)
  have CA := Lib.hid (add_any w4.heap.size 1 (fun _ => false) cc.toNat cc.toNat Wx HB.out.1 cc.toNat_lt cc.toNat_lt)
  clear hWx HS4
  unfold Bar
  obtain ⟨M, hMM⟩ : ∃ M, w4.heap.size = M := ⟨_, rfl⟩
  rw [hMM] at hM HB CA
  rw [hMM]
  clear hMM
  go_wp2_with fail
  refine CA.out.mono ?_
  rintro e w5 ⟨rfl, hb5, ho5, hk5⟩
  have HS6 : Hid (AtSt w w5 b s k1) := Lib.hid (HS5.out.past hbN ho5 hM)
  have n0 := (hk5 0 (Or.inl (by omega))).1.trans HB.out.2.1
  have n5 := (hk5 5 (Or.inr (by omega))).1.trans HB.out.2.2
  obtain ⟨a0, n1, -, p0⟩ := hb5 0 (by omega)
  obtain ⟨a1, n2, -, p1⟩ := hb5 1 (by omega)
  obtain ⟨a2, n3, -, p2⟩ := hb5 2 (by omega)
  obtain ⟨a3, n4, -, p3⟩ := hb5 3 (by omega)
  simp only [Nat.reduceAdd] at n1 n2 n3 n4
  have HV := Lib.hid (show LeafV (.agg #[.int .i64 0, .int .u64 a0, .int .u64 a1, .int .u64 a2, .int .u64 a3, .slice none 0 0]) (fun x => false || inR cc.toNat cc.toNat x) from ⟨a0, a1, a2, a3, rfl, p0, p1, p2, p3⟩)
  clear hb5 ho5 hk5 HS5 CA HB p0 p1 p2 p3
  obtain ⟨e0, e1, e2, e3, e4, e5, f0, f1, f2, f3, f4, f5⟩ := HS6.out.x.facts
  go_wp2
  refine bodyPost_ret (v := .tuple #[.agg #[.int .i64 0, .int .u64 a0, .int .u64 a1, .int .u64 a2, .int .u64 a3, .slice none 0 0], .bool true]) ?_ rfl ?_
  · simp only [results, hres]
    go_simp
  exact HS6.out.leaf _ _ _ _ _ _ hbN H.out HV.out
end Go.Proofs.Ytnlfndhgdeapeaa
