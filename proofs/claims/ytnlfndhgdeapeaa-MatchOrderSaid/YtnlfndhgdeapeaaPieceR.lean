/- piece. -/
import Derived.Test.YtnlfndhgdeapeaaAtom
namespace Go.Proofs.Ytnlfndhgdeapeaa
open Go.RowKit
set_option maxRecDepth 100000
set_option maxHeartbeats 4000000

/-- the tree lies in blocks behind the result's -/
def TreeSt (w W : World) (n : Nd) (v : Value) : Prop := ∃ X : Nat → Prop, (∀ c, X c → w.heap.size < c ∧ c < W.heap.size) ∧ NodeV W X n v
theorem TreeSt.on {w W W' : World} {n : Nd} {v : Value} {b : Nat} (h : TreeSt w W n v) (o : Only W W' b) (hb : b < w.heap.size) : TreeSt w W' n v := by
  obtain ⟨X, hX, hn⟩ := h
  have := o.size
  exact ⟨X, fun c hc => ⟨(hX c hc).1, by have := (hX c hc).2; omega⟩, NodeV.same (fun c hc hlt => o.blk hlt (by have := (hX c hc).1; omega)) _ _ hn⟩
theorem TreeSt.gr {w W W' : World} {n : Nd} {v : Value} (h : TreeSt w W n v) (g : Gr W W') : TreeSt w W' n v := by
  obtain ⟨X, hX, hn⟩ := h
  have := g.size
  exact ⟨X, fun c hc => ⟨(hX c hc).1, by have := (hX c hc).2; omega⟩, NodeV.same (fun c hc hlt => g.b.block c hlt) _ _ hn⟩
/-- behind the atom: the result's block, the atom's box M -/
structure PcSt (w W : World) (b : Nat) (s : ByteArray) (k M : Nat) (n : Nd) (kk u0 u1 u2 u3 m c : Nat) (A : Option Addr) : Prop where
  a : AtSt w W b s k
  mm : Bx W M (.int .i64 kk) (.int .u64 u0) (.int .u64 u1) (.int .u64 u2) (.int .u64 u3) (.slice A m c)
  t : TreeSt w W n (.agg #[.int .i64 kk, .int .u64 u0, .int .u64 u1, .int .u64 u2, .int .u64 u3, .slice A m c])
theorem PcSt.on {w W W' : World} {b k k' M : Nat} {s : ByteArray} {n : Nd} {kk u0 u1 u2 u3 m c : Nat} {A : Option Addr} (h : PcSt w W b s k M n kk u0 u1 u2 u3 m c A) (hb : b < w.heap.size) (hM : w.heap.size < M) (r : Rd W' b s k') (o : Only W W' b) : PcSt w W' b s k' M n kk u0 u1 u2 u3 m c A :=
  ⟨h.a.on hb r o, h.mm.only o (by omega), h.t.on o hb⟩
/-- a part of its own: in a row of one -/
theorem one_part {w W : World} {n : Nd} {kk u0 u1 u2 u3 m c : Nat} {A : Option Addr} {B j : Nat} (h : TreeSt w W n (.agg #[.int .i64 kk, .int .u64 u0, .int .u64 u1, .int .u64 u2, .int .u64 u3, .slice A m c])) (hB : Bx W B (.int .i64 kk) (.int .u64 u0) (.int .u64 u1) (.int .u64 u2) (.int .u64 u3) (.slice A m c)) (hwB : w.heap.size < B) : TreeSt w W (.op j [n]) (.agg #[.int .i64 j, .int .u64 0, .int .u64 0, .int .u64 0, .int .u64 0, .slice (some ⟨B, 0, none⟩) 1 1]) := by
  obtain ⟨X, hX, hn⟩ := h
  refine ⟨fun c => X c ∨ c = B, fun c hc => hc.elim (hX c) (fun e => by subst e; exact ⟨hwB, hB.lt⟩), ?_⟩
  unfold NodeV
  refine ⟨some ⟨B, 0, none⟩, 1, rfl, Nat.le_refl _, by unfold maxLen; omega, fun _ => ⟨B, rfl, Or.inr rfl, ?_⟩⟩
  unfold NodesFrom
  refine ⟨⟨fun j => match j with | 0 => .int .i64 kk | 1 => .int .u64 u0 | 2 => .int .u64 u1 | 3 => .int .u64 u2 | 4 => .int .u64 u3 | 5 => .slice A m c, ?_, NodeV.mono (fun c hc => Or.inl hc) _ _ hn⟩, by unfold NodesFrom; trivial⟩
  obtain ⟨e0, e1, e2, e3, e4, e5, -⟩ := hB.facts
  intro i
  match i with
  | 0 => exact e0
  | 1 => exact e1
  | 2 => exact e2
  | 3 => exact e3
  | 4 => exact e4
  | 5 => exact e5
theorem piece_any (b k : Nat) (s : ByteArray) (br : Nat → Bool × Nd × Nat) (w : World) (h : Rd w b s k) (hk : k ≤ s.size) (hs : s.size ≤ 1000000) (hp : isAt s.data.toList k 40 = true → PatAt b s br (k + 1) ∧ (br (k + 1)).2.2 ≤ s.size) (hle : (atomS s.data.toList br k).2.2 ≤ s.size) :
    Calls Try.prog 53 #[.pointer (some ⟨b, 0, none⟩)] w (ReadPost b s (pieceS s.data.toList br k) w) := by
  have hbN := h.lt
  have CT := Lib.hid (fun (c : UInt8) (k : Nat) W (h : Rd W b s k) (hk : k ≤ s.size) => take_any b s k c W h hk hs)
  have hres : Try.f53.results = #[.cell 2 57, .tmp 3] := by kernel_rfl
  have HS := AtSt.start h
  have CA := Lib.hid (atom_any b k s br _ HS.r hk hs hp)
  obtain ⟨R, hR⟩ : ∃ R, pieceS s.data.toList br k = R := ⟨_, rfl⟩
  rw [hR]
  unfold pieceS at hR
  obtain ⟨q, hq⟩ : ∃ q, atomS s.data.toList br k = q := ⟨_, rfl⟩
  rw [hq] at hR CA hle
  have HR := Lib.hid hR
  clear hR hq hp h
  obtain ⟨ok, n, k1⟩ := q
  simp only at hle
  go_enter Try.func53, Try.ntmps53
  go_wp2_with fail
  refine CA.out.mono ?_
  rintro e w1 ⟨hr1, ho1, v, rfl, hv, hv0⟩
  obtain ⟨kk, u0, u1, u2, u3, m, c, A, rfl⟩ := read_form hv hv0
  have HS1 := Lib.hid (HS.on hbN hr1 ho1)
  have HT1 : Hid (ok = true → TreeSt w w1 n (.agg #[.int .i64 kk, .int .u64 u0, .int .u64 u1, .int .u64 u2, .int .u64 u3, .slice A m c])) := Lib.hid fun e => (hv e).late (by simp) (Nat.le_refl _) (fun _ _ _ => rfl)
  have hM : w.heap.size < w1.heap.size := HS1.out.x.lt
  clear hr1 ho1 hv hv0 CA HS
  simp only
  go_wp2_with (with_reducible first | refine bar_at 12 rfl fun Wx hWx => ?_ | refine bar_at 13 rfl fun Wx hWx => ?_)
  have HS2 : Hid (AtSt w Wx b s k1) := Lib.hid (by rw [← hWx]; exact HS1.out.gr ((Gr.refl w1).alloc _ _))
  have hm := bx_new w1 (.int .i64 kk) (.int .u64 u0) (.int .u64 u1) (.int .u64 u2) (.int .u64 u3) (.slice A m c)
  rw [hWx] at hm
  have HM := Lib.hid hm
  have HT2 : Hid (ok = true → TreeSt w Wx n (.agg #[.int .i64 kk, .int .u64 u0, .int .u64 u1, .int .u64 u2, .int .u64 u3, .slice A m c])) := Lib.hid fun e => by rw [← hWx]; exact (HT1.out e).gr ((Gr.refl w1).alloc _ _)
  clear hWx hm HS1 HT1
  unfold Bar
  obtain ⟨M, hMM⟩ : ∃ M, w1.heap.size = M := ⟨_, rfl⟩
  rw [hMM] at hM HM
  rw [hMM]
  clear hMM
  cases ok
  case false =>
    have H : Hid (R = (false, noN, k1)) := Lib.hid (by rw [← HR.out]; rfl)
    clear HR HT2 HM CT
    obtain ⟨e0, e1, e2, e3, e4, e5, f0, f1, f2, f3, f4, f5⟩ := HS2.out.x.facts
    go_wp2
    refine bodyPost_ret (v := .tuple #[zeroN, .bool false]) ?_ rfl ?_
    · simp only [results, hres]
      go_simp
      rfl
    exact HS2.out.no _ _ _ _ _ _ hbN H.out
  have HP : Hid (PcSt w Wx b s k1 M n kk u0 u1 u2 u3 m c A) := Lib.hid ⟨HS2.out, HM.out, HT2.out rfl⟩
  have HR1 : Hid ((if isAt s.data.toList k1 42 then (true, .op 3 [n], k1 + 1) else if isAt s.data.toList k1 43 then (true, .op 4 [n], k1 + 1) else if isAt s.data.toList k1 63 then (true, .op 5 [n], k1 + 1) else (true, n, k1)) = R) := Lib.hid HR.out
  clear HR HS2 HM HT2
  obtain ⟨t1, ht1⟩ : ∃ t, isAt s.data.toList k1 42 = t := ⟨_, rfl⟩
  have C1 := Lib.hid (CT.out 42 k1 _ HP.out.a.r hle)
  unfold TakePost at C1
  have hR := HR1.out
  rw [ht1] at C1 hR
  have HR := Lib.hid hR
  clear ht1 hR HR1
  go_wp2_with fail
  refine C1.out.mono ?_
  rintro e w2 ⟨rfl, hr2, ho2⟩
  have HP1 := Lib.hid (HP.out.on hbN hM hr2 ho2)
  clear hr2 ho2 HP C1
  cases t1
  case true =>
    have H : Hid (R = (true, .op 3 [n], k1 + 1)) := Lib.hid (by rw [← HR.out]; rfl)
    clear HR CT
    obtain ⟨g0, g1, g2, g3, g4, g5, -⟩ := HP1.out.mm.facts
    go_wp2_with (with_reducible refine bar_at 20 rfl fun Wy hWy => ?_)
    have HS3 : Hid (AtSt w Wy b s (k1 + 1)) := Lib.hid (by rw [← hWy]; exact HP1.out.a.gr ((Gr.refl _).alloc _ _))
    have hm := bx_new w2 (.int .i64 kk) (.int .u64 u0) (.int .u64 u1) (.int .u64 u2) (.int .u64 u3) (.slice A m c)
    rw [hWy] at hm
    have HT : Hid (TreeSt w Wy (.op 3 [n]) _) := Lib.hid (one_part (j := 3) (w := w) (by rw [← hWy]; exact HP1.out.t.gr ((Gr.refl w2).alloc _ _)) hm HP1.out.a.x.lt)
    clear hWy hm HP1 g0 g1 g2 g3 g4 g5
    unfold Bar
    obtain ⟨B, hB⟩ : ∃ B, w2.heap.size = B := ⟨_, rfl⟩
    rw [hB] at HT
    rw [hB]
    clear hB
    obtain ⟨e0, e1, e2, e3, e4, e5, f0, f1, f2, f3, f4, f5⟩ := HS3.out.x.facts
    go_wp2
    refine bodyPost_ret (v := .tuple #[.agg #[.int .i64 3, .int .u64 0, .int .u64 0, .int .u64 0, .int .u64 0, .slice (some ⟨B, 0, none⟩) 1 1], .bool true]) ?_ rfl ?_
    · simp only [results, hres]
      go_simp
    exact read_yes _ _ _ _ _ _ hbN H.out HS3.out.r HS3.out.o HT.out
  have HR1 : Hid ((if isAt s.data.toList k1 43 then (true, .op 4 [n], k1 + 1) else if isAt s.data.toList k1 63 then (true, .op 5 [n], k1 + 1) else (true, n, k1)) = R) := Lib.hid HR.out
  clear HR
  obtain ⟨t2, ht2⟩ : ∃ t, isAt s.data.toList k1 43 = t := ⟨_, rfl⟩
  have C2 := Lib.hid (CT.out 43 k1 _ HP1.out.a.r hle)
  unfold TakePost at C2
  have hR := HR1.out
  rw [ht2] at C2 hR
  have HR := Lib.hid hR
  clear ht2 hR HR1
  go_wp2_with fail
  refine C2.out.mono ?_
  rintro e w3 ⟨rfl, hr2, ho2⟩
  have HP2 := Lib.hid (HP1.out.on hbN hM hr2 ho2)
  clear hr2 ho2 HP1 C2
  cases t2
  case true =>
    have H : Hid (R = (true, .op 4 [n], k1 + 1)) := Lib.hid (by rw [← HR.out]; rfl)
    clear HR CT
    obtain ⟨g0, g1, g2, g3, g4, g5, -⟩ := HP2.out.mm.facts
    go_wp2_with (with_reducible refine bar_at 26 rfl fun Wy hWy => ?_)
    have HS3 : Hid (AtSt w Wy b s (k1 + 1)) := Lib.hid (by rw [← hWy]; exact HP2.out.a.gr ((Gr.refl _).alloc _ _))
    have hm := bx_new w3 (.int .i64 kk) (.int .u64 u0) (.int .u64 u1) (.int .u64 u2) (.int .u64 u3) (.slice A m c)
    rw [hWy] at hm
    have HT : Hid (TreeSt w Wy (.op 4 [n]) _) := Lib.hid (one_part (j := 4) (w := w) (by rw [← hWy]; exact HP2.out.t.gr ((Gr.refl w3).alloc _ _)) hm HP2.out.a.x.lt)
    clear hWy hm HP2 g0 g1 g2 g3 g4 g5
    unfold Bar
    obtain ⟨B, hB⟩ : ∃ B, w3.heap.size = B := ⟨_, rfl⟩
    rw [hB] at HT
    rw [hB]
    clear hB
    obtain ⟨e0, e1, e2, e3, e4, e5, f0, f1, f2, f3, f4, f5⟩ := HS3.out.x.facts
    go_wp2
    refine bodyPost_ret (v := .tuple #[.agg #[.int .i64 4, .int .u64 0, .int .u64 0, .int .u64 0, .int .u64 0, .slice (some ⟨B, 0, none⟩) 1 1], .bool true]) ?_ rfl ?_
    · simp only [results, hres]
      go_simp
    exact read_yes _ _ _ _ _ _ hbN H.out HS3.out.r HS3.out.o HT.out
  have HR1 : Hid ((if isAt s.data.toList k1 63 then (true, .op 5 [n], k1 + 1) else (true, n, k1)) = R) := Lib.hid HR.out
  clear HR
  obtain ⟨t3, ht3⟩ : ∃ t, isAt s.data.toList k1 63 = t := ⟨_, rfl⟩
  have C3 := Lib.hid (CT.out 63 k1 _ HP2.out.a.r hle)
  unfold TakePost at C3
  have hR := HR1.out
  rw [ht3] at C3 hR
  have HR := Lib.hid hR
  clear ht3 hR HR1
  go_wp2_with fail
  refine C3.out.mono ?_
  rintro e w4 ⟨rfl, hr2, ho2⟩
  have HP3 := Lib.hid (HP2.out.on hbN hM hr2 ho2)
  clear hr2 ho2 HP2 C3
  cases t3
  case true =>
    have H : Hid (R = (true, .op 5 [n], k1 + 1)) := Lib.hid (by rw [← HR.out]; rfl)
    clear HR CT
    obtain ⟨g0, g1, g2, g3, g4, g5, -⟩ := HP3.out.mm.facts
    go_wp2_with (with_reducible refine bar_at 32 rfl fun Wy hWy => ?_)
    have HS3 : Hid (AtSt w Wy b s (k1 + 1)) := Lib.hid (by rw [← hWy]; exact HP3.out.a.gr ((Gr.refl _).alloc _ _))
    have hm := bx_new w4 (.int .i64 kk) (.int .u64 u0) (.int .u64 u1) (.int .u64 u2) (.int .u64 u3) (.slice A m c)
    rw [hWy] at hm
    have HT : Hid (TreeSt w Wy (.op 5 [n]) _) := Lib.hid (one_part (j := 5) (w := w) (by rw [← hWy]; exact HP3.out.t.gr ((Gr.refl w4).alloc _ _)) hm HP3.out.a.x.lt)
    clear hWy hm HP3 g0 g1 g2 g3 g4 g5
    unfold Bar
    obtain ⟨B, hB⟩ : ∃ B, w4.heap.size = B := ⟨_, rfl⟩
    rw [hB] at HT
    rw [hB]
    clear hB
    obtain ⟨e0, e1, e2, e3, e4, e5, f0, f1, f2, f3, f4, f5⟩ := HS3.out.x.facts
    go_wp2
    refine bodyPost_ret (v := .tuple #[.agg #[.int .i64 5, .int .u64 0, .int .u64 0, .int .u64 0, .int .u64 0, .slice (some ⟨B, 0, none⟩) 1 1], .bool true]) ?_ rfl ?_
    · simp only [results, hres]
      go_simp
    exact read_yes _ _ _ _ _ _ hbN H.out HS3.out.r HS3.out.o HT.out
  have H : Hid (R = (true, n, k1)) := Lib.hid (by rw [← HR.out]; rfl)
  clear HR CT
  obtain ⟨g0, g1, g2, g3, g4, g5, -⟩ := HP3.out.mm.facts
  obtain ⟨e0, e1, e2, e3, e4, e5, f0, f1, f2, f3, f4, f5⟩ := HP3.out.a.x.facts
  go_wp2
  refine bodyPost_ret (v := .tuple #[.agg #[.int .i64 kk, .int .u64 u0, .int .u64 u1, .int .u64 u2, .int .u64 u3, .slice A m c], .bool true]) ?_ rfl ?_
  · simp only [results, hres]
    go_simp
  exact read_yes _ _ _ _ _ _ hbN H.out HP3.out.a.r HP3.out.a.o HP3.out.t
end Go.Proofs.Ytnlfndhgdeapeaa
