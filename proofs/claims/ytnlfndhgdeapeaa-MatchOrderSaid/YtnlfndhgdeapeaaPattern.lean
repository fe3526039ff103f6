/- pattern. -/
import Derived.Test.YtnlfndhgdeapeaaPieces
namespace Go.Proofs.Ytnlfndhgdeapeaa
open Go.RowKit
set_option maxRecDepth 100000
set_option maxHeartbeats 4000000

theorem altF_s (s : List UInt8) (br : Nat → Bool × Nd × Nat) (f k : Nat) (acc : List Nd) : altF s br (f + 1) k acc = if (piecesF s br (s.length + 1) k []).1 then (if isAt s (piecesF s br (s.length + 1) k []).2.2 124 then altF s br f ((piecesF s br (s.length + 1) k []).2.2 + 1) (acc ++ [.op 1 (piecesF s br (s.length + 1) k []).2.1]) else (true, acc ++ [.op 1 (piecesF s br (s.length + 1) k []).2.1], (piecesF s br (s.length + 1) k []).2.2)) else (false, [], (piecesF s br (s.length + 1) k []).2.2) := rfl
theorem pattern_step (b k : Nat) (s : ByteArray) (br : Nat → Bool × Nd × Nat) (hk : k ≤ s.size) (hs : s.size ≤ 1000000) (hbr : BrLe s.data.toList br) (hp : ∀ j, k < j → j ≤ s.size → PatAt b s br j) (w : World) (h : Rd w b s k) :
    Calls Try.prog 23 #[.pointer (some ⟨b, 0, none⟩)] w (ReadPost b s ((altF s.data.toList br (s.size + 1) k []).1, .op 2 (altF s.data.toList br (s.size + 1) k []).2.1, (altF s.data.toList br (s.size + 1) k []).2.2) w) := by
  have hlen : s.data.toList.length = s.size := by simp
  have hbN := h.lt
  have hres : Try.f23.results = #[.cell 2 57, .tmp 3] := by kernel_rfl
  have CP := Lib.hid (fun (j : Nat) W (h : Rd W b s j) (hkj : k ≤ j) (hj : j ≤ s.size) => pieces_any b j s br W h hj hs hbr (fun i hi hi2 => hp i (by omega) hi2))
  have CT := Lib.hid (fun (k : Nat) W (h : Rd W b s k) (hk : k ≤ s.size) => take_any b s k 124 W h hk hs)
  have HBR := Lib.hid (fun (j : Nat) (hj : j ≤ s.size) => show (piecesF s.data.toList br (s.size + 1) j []).2.2 ≤ s.size ∧ j ≤ (piecesF s.data.toList br (s.size + 1) j []).2.2 by
    have := piecesF_le hbr (s.size + 1) j [] (by simp; omega)
    exact ⟨by simpa using this.1, this.2⟩)
  have HS := Lib.hid (PsSt.start (j := 2) (AtSt.start h))
  obtain ⟨Q, hQ⟩ : ∃ Q, altF s.data.toList br (s.size + 1) k [] = Q := ⟨_, rfl⟩
  rw [hQ]
  have HQ := Lib.hid hQ
  obtain ⟨P, hP⟩ : ∃ P, (w.alloc (.cells #[.int .i64 0, .int .u64 0, .int .u64 0, .int .u64 0, .int .u64 0, .slice none 0 0] 57)).heap.size = P := ⟨_, rfl⟩
  have hPw : P = w.heap.size + 1 := by rw [← hP]; simp
  rw [hP] at HS
  have HLEN := Lib.hid hlen
  clear hQ hp h hlen hbr hP
  subst hPw
  go_enter Try.func23, Try.ntmps23
  go_wp2
  go_loopg [] (s.size + 1) (fun g wx => ∃ (j : Nat) (v : Value) (acc : List Nd), k ≤ j ∧ j ≤ s.size ∧ s.size + 1 ≤ j + g ∧ acc.length ≤ j ∧ Hid (PsSt w wx b s j (w.heap.size + 1) 2 v acc) ∧ Hid (altF s.data.toList br g j acc = Q))
  case atStart => exact ⟨k, _, [], Nat.le_refl _, hk, by omega, by simp, HS, HQ⟩
  case round =>
    clear HS HQ
    obtain ⟨j, v, acc, hkj, hj, hf, hacc, HS, HF⟩ := hrel
    cases gk with
    | zero => omega
    | succ f =>
      have hF := HF.out
      rw [altF_s, HLEN.out] at hF
      obtain ⟨A, m, c, rfl⟩ := HS.out.l.form
      have hle := HBR.out j hj
      have C1 := Lib.hid (fun W h => CP.out j W h hkj hj)
      obtain ⟨q, hq⟩ : ∃ q, piecesF s.data.toList br (s.size + 1) j [] = q := ⟨_, rfl⟩
      rw [hq] at hF C1 hle
      have HF2 := Lib.hid hF
      clear hF HF CP hq HBR
      obtain ⟨ok, ns, j'⟩ := q
      simp only at hle
      go_wp2_with fail
      refine (C1.out _ HS.out.a.r).mono ?_
      rintro e w1 ⟨hr1, ho1, v1, rfl, hv, hv0⟩
      obtain ⟨kk, u0, u1, u2, u3, m1, cc1, A1, rfl⟩ := read_form hv hv0
      have HS2 : Hid (PsSt w w1 b s j' (w.heap.size + 1) 2 (.slice A m c) acc) := Lib.hid (HS.out.on hbN (by omega) hr1 ho1)
      have HV := Lib.hid hv
      have hown : ∀ g, (Value.slice A m c).ownBlock = some g → g < wr.heap.size := fun g e => (HS.out.l.own_ge g e).2
      have hP0 := HS.out.p.lt
      have hsz := ho1.size
      have HOW := Lib.hid hown
      clear hr1 ho1 hv hv0 C1 HS hown
      simp only
      go_wp2_with (with_reducible first | refine bar_at 13 rfl fun Wx hWx => ?_ | refine bar_at 14 rfl fun Wx hWx => ?_)
      have HS3 : Hid (PsSt w Wx b s j' (w.heap.size + 1) 2 (.slice A m c) acc) := Lib.hid (by rw [← hWx]; exact HS2.out.gr ((Gr.refl w1).alloc _ _))
      have hm := bx_new w1 (.int .i64 kk) (.int .u64 u0) (.int .u64 u1) (.int .u64 u2) (.int .u64 u3) (.slice A1 m1 cc1)
      rw [hWx] at hm
      have HM := Lib.hid hm
      have hg1 : Gr w1 Wx := by rw [← hWx]; exact (Gr.refl w1).alloc _ _
      have HG1 := Lib.hid hg1
      clear hWx hm hg1 HS2
      unfold Bar
      obtain ⟨M, hM⟩ : ∃ M, w1.heap.size = M := ⟨_, rfl⟩
      rw [hM] at HM
      rw [hM]
      clear hM
      cases ok
      · have H : Hid (Q = (false, [], j')) := Lib.hid HF2.out.symm
        clear HF2 HV HM HG1 HOW CT
        obtain ⟨e0, e1, e2, e3, e4, e5, f0', f1', f2', f3', f4', f5'⟩ := HS3.out.a.x.facts
        go_wp2
        refine bodyPost_ret (v := .tuple #[zeroN, .bool false]) ?_ rfl ?_
        · simp only [results, hres]
          go_simp
          rfl
        exact HS3.out.a.no _ _ _ _ _ _ hbN (by rw [H.out])
      · obtain ⟨t, ht⟩ : ∃ t, isAt s.data.toList j' 124 = t := ⟨_, rfl⟩
        have htl : t = true → j' < s.size := fun e => isAt_lt (ht.trans e)
        have HF3 : Hid ((if t then altF s.data.toList br f (j' + 1) (acc ++ [.op 1 ns]) else (true, acc ++ [.op 1 ns], j')) = Q) := Lib.hid (by rw [← ht]; exact HF2.out)
        have HTT := Lib.hid ht
        clear HF2 ht
        obtain ⟨e0, e1, e2, e3, e4, e5, -⟩ := HM.out.facts
        obtain ⟨g0, g1, g2, g3, g4, g5, -⟩ := HS3.out.p.facts
        go_wp2_with (with_reducible refine bar_at 20 rfl fun Wy hWy => ?_)
        have HS4 : Hid (PsSt w Wy b s j' (w.heap.size + 1) 2 (.slice A m c) acc) := Lib.hid (by rw [← hWy]; exact HS3.out.gr ((Gr.refl Wx).alloc _ _))
        have hm2 := bx_new Wx (.int .i64 kk) (.int .u64 u0) (.int .u64 u1) (.int .u64 u2) (.int .u64 u3) (.slice A1 m1 cc1)
        rw [hWy] at hm2
        have hg2 : Gr Wx Wy := by rw [← hWy]; exact (Gr.refl Wx).alloc _ _
        obtain ⟨v', W', hrun, hbx, hps⟩ := HS4.out.app hbN (by omega) hm2 HOW.out hP0 (HV.out (by simp)) (HG1.out.trans hg2).size (fun c _ hlt => (HG1.out.trans hg2).b.block c hlt) (by omega)
        obtain ⟨A2, m2, c2, rfl⟩ := hps.l.form
        have HRUN := Lib.hid hrun
        have HPS := Lib.hid hps
        obtain ⟨-, -, -, -, -, h5, -, -, -, -, -, k5⟩ := hbx.facts
        clear hrun hps hbx hm2 hg2 hWy HS3 HS4 HV HM HG1 HOW e0 e1 e2 e3 e4 e5 g0 g1 g2 g3 g4 g5
        unfold Bar
        refine Lib.wpList_append_run _ rfl _ _ _ _ rfl _ _ rfl rfl _ _ HRUN.out ?_
        have C2 := Lib.hid (CT.out j' _ HPS.out.a.r hle.1)
        unfold TakePost at C2
        rw [HTT.out] at C2
        clear HTT CT HRUN
        cases t
        · have H : Hid (Q = (true, acc ++ [.op 1 ns], j')) := Lib.hid HF3.out.symm
          clear HF3
          go_wp2_with fail
          refine C2.out.mono ?_
          rintro e w3 ⟨rfl, hr3, ho3⟩
          have HS5 : Hid (PsSt w w3 b s j' (w.heap.size + 1) 2 _ _) := Lib.hid (HPS.out.on hbN (by omega) hr3 ho3)
          clear hr3 ho3 C2 HPS h5 k5
          obtain ⟨e0, e1, e2, e3, e4, e5, f0, f1, f2, f3, f4, f5⟩ := HS5.out.a.x.facts
          obtain ⟨g0, g1, g2, g3, g4, g5, -⟩ := HS5.out.p.facts
          go_wp2
          refine bodyPost_ret (v := .tuple #[.agg #[.int .i64 2, .int .u64 0, .int .u64 0, .int .u64 0, .int .u64 0, .slice A2 m2 c2], .bool true]) ?_ rfl ?_
          · simp only [results, hres]
            go_simp
          exact read_yes _ _ _ _ _ _ hbN (by rw [H.out]) HS5.out.a.r HS5.out.a.o (HS5.out.done (by omega))
        · have htl2 := htl rfl
          have HF4 : Hid (altF s.data.toList br f (j' + 1) (acc ++ [.op 1 ns]) = Q) := Lib.hid HF3.out
          clear HF3
          go_wp2_with fail
          refine C2.out.mono ?_
          rintro e w3 ⟨rfl, hr3, ho3⟩
          have HS5 : Hid (PsSt w w3 b s (j' + 1) (w.heap.size + 1) 2 _ _) := Lib.hid (HPS.out.on hbN (by omega) hr3 ho3)
          clear hr3 ho3 C2 HPS h5 k5
          go_wp2
          go_roundg f
          case measure => omega
          case rel => exact ⟨j' + 1, _, acc ++ [.op 1 ns], by omega, by omega, by omega, by simp; omega, HS5, HF4⟩
theorem pattern_any (b : Nat) (s : ByteArray) (hs : s.size ≤ 1000000) : ∀ (d k : Nat), k ≤ s.size → s.size < k + d → PatAt b s (patS s.data.toList d) k
  | 0, k, hk, hd => by omega
  | d + 1, k, hk, hd => fun W h => by
    have := pattern_step b k s (patS s.data.toList d) hk hs (patS_le _ d) (fun j hj hj2 => pattern_any b s hs d j hj2 (by omega)) W h
    have hlen : s.data.toList.length = s.size := by simp
    unfold patS
    rw [hlen]
    exact this
end Go.Proofs.Ytnlfndhgdeapeaa
