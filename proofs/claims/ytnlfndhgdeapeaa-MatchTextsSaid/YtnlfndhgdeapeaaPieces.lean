/- pieces. -/
import Derived.Test.YtnlfndhgdeapeaaOwnN
import Derived.Lib.AppendZeros
namespace Go.Proofs.Ytnlfndhgdeapeaa
open Go.RowKit
set_option maxRecDepth 100000
set_option maxHeartbeats 4000000

theorem piecesF_s (s : List UInt8) (br : Nat → Bool × Nd × Nat) (f k : Nat) (acc : List Nd) : piecesF s br (f + 1) k acc = if goesOn s k then (if (pieceS s br k).1 then piecesF s br f (pieceS s br k).2.2 (acc ++ [(pieceS s br k).2.1]) else (false, [], (pieceS s br k).2.2)) else (true, acc, k) := rfl
/-- on the way: the result's block, the node P that gathers parts behind it -/
structure PsSt (w W : World) (b : Nat) (s : ByteArray) (k P j : Nat) (v : Value) (acc : List Nd) : Prop where
  a : AtSt w W b s k
  p : Bx W P (.int .i64 j) (.int .u64 0) (.int .u64 0) (.int .u64 0) (.int .u64 0) v
  l : OwnN W (P + 1) v acc
theorem PsSt.gr {w W W' : World} {b k P j : Nat} {s : ByteArray} {v : Value} {acc : List Nd} (h : PsSt w W b s k P j v acc) (g : Gr W W') : PsSt w W' b s k P j v acc :=
  ⟨h.a.gr g, h.p.gr g, h.l.keep g.size (fun c _ hlt => g.b.block c hlt)⟩
theorem PsSt.on {w W W' : World} {b k k' P j : Nat} {s : ByteArray} {v : Value} {acc : List Nd} (h : PsSt w W b s k P j v acc) (hb : b < w.heap.size) (hP : w.heap.size < P) (r : Rd W' b s k') (o : Only W W' b) : PsSt w W' b s k' P j v acc :=
  ⟨h.a.on hb r o, h.p.only o (by omega), h.l.keep o.size (fun c hc hlt => o.blk hlt (by omega))⟩
theorem PsSt.start {w W : World} {b k j : Nat} {s : ByteArray} (h : AtSt w W b s k) : PsSt w (W.alloc (.cells #[.int .i64 j, .int .u64 0, .int .u64 0, .int .u64 0, .int .u64 0, .slice none 0 0] 57)) b s k W.heap.size j (.slice none 0 0) [] :=
  ⟨h.gr ((Gr.refl W).alloc _ _), bx_new W _ _ _ _ _ _, OwnN.nil _ _⟩
def sixF (a0 a1 a2 a3 a4 a5 : Value) : Fin 6 → Value := fun j => match j with | 0 => a0 | 1 => a1 | 2 => a2 | 3 => a3 | 4 => a4 | 5 => a5
theorem Bx.sixAt {W : World} {G : Nat} {a0 a1 a2 a3 a4 a5 : Value} (h : Bx W G a0 a1 a2 a3 a4 a5) : sixAt W G 0 (sixF a0 a1 a2 a3 a4 a5) := by
  obtain ⟨e0, e1, e2, e3, e4, e5, -⟩ := h.facts
  intro i
  match i with
  | 0 => exact e0
  | 1 => exact e1
  | 2 => exact e2
  | 3 => exact e3
  | 4 => exact e4
  | 5 => exact e5
/-- a part is appended -/
theorem PsSt.app {w W0 W1 W : World} {b k P j : Nat} {s : ByteArray} {v : Value} {acc : List Nd} {n : Nd} {a0 a1 a2 a3 a4 a5 : Value} {G : Nat} (h : PsSt w W b s k P j v acc) (hb : b < w.heap.size) (hP : w.heap.size < P) (hG : Bx W G a0 a1 a2 a3 a4 a5)
    (hv : ∀ g, v.ownBlock = some g → g < W0.heap.size) (hP0 : P < W0.heap.size) (hn : NewN W0 W1 n (.agg #[a0, a1, a2, a3, a4, a5])) (h12 : W1.heap.size ≤ W.heap.size) (hsame : ∀ c, W0.heap.size ≤ c → c < W1.heap.size → W.heap[c]? = W1.heap[c]?) (hl : acc.length ≤ 1000000) :
    ∃ v' W', (Builtin.append_ #[55, 55] 55 #[v, .slice (some ⟨G, 0, none⟩) 1 1]).run Try.prog W = .ok v' W' ∧ Bx W' P (.int .i64 j) (.int .u64 0) (.int .u64 0) (.int .u64 0) (.int .u64 0) v ∧ PsSt w (W'.setCell ⟨P, 5, none⟩ v') b s k P j v' (acc ++ [n]) := by
  obtain ⟨X, hX, hnd⟩ := hn
  obtain ⟨v', W', hrun, hown, hgrow⟩ := run_appN (n := n) (X := X) (g := G) (c := 1) (x := sixF a0 a1 a2 a3 a4 a5) h.l hG.sixAt (NodeV.same (fun c hc hlt => hsame c (hX c hc).1 (hX c hc).2) _ _ hnd) (fun c hc => ⟨by have := (hX c hc).1; omega, by have := (hX c hc).2; omega, fun e => by have := hv c e; have := (hX c hc).1; omega⟩) hl h.p.lt
  have hrow : ∀ k, v.ownBlock = some k → P + 1 ≤ k := fun k e => (h.l.own_ge k e).1
  have hp' : Bx W' P (.int .i64 j) (.int .u64 0) (.int .u64 0) (.int .u64 0) (.int .u64 0) v := h.p.grown hgrow (fun e => by have := hrow _ e; omega)
  have ha' := h.a.grown hb hgrow (fun k e => by have := hrow k e; omega)
  refine ⟨v', W', hrun, hp', ⟨⟨?_, ha'.o.setFar (by omega) _, ha'.x.set_other (by omega)⟩, hp'.last v', hown.keep (by simp [World.setCell]) (fun c hc hlt => Below.heap_setCell W' _ _ c (by show c ≠ P; omega))⟩⟩
  exact (Below.heap_setCell W' _ _ b (by show b ≠ P; omega)).trans ha'.r
theorem PsSt.done {w W : World} {b k P j : Nat} {s : ByteArray} {v : Value} {acc : List Nd} (h : PsSt w W b s k P j v acc) (hP : w.heap.size < P) : TreeSt w W (.op j acc) (.agg #[.int .i64 j, .int .u64 0, .int .u64 0, .int .u64 0, .int .u64 0, v]) := by
  obtain ⟨X, hX, hn⟩ := h.l.node j
  exact ⟨X, fun c hc => ⟨by have := (hX c hc).1; omega, (hX c hc).2⟩, hn⟩
theorem goesOn_cases (s : ByteArray) (k : Nat) (hk : k ≤ s.size) : (k = s.size ∧ goesOn s.data.toList k = false) ∨ (∃ h : k < s.size, (s[k].toNat = 124 ∨ s[k].toNat = 41) ∧ goesOn s.data.toList k = false) ∨ (∃ h : k < s.size, s[k].toNat ≠ 124 ∧ s[k].toNat ≠ 41 ∧ goesOn s.data.toList k = true) := by
  unfold goesOn
  by_cases hlt : k < s.size
  · have hg : s.data.toList[k]? = some s[k] := by rw [List.getElem?_eq_getElem (by simpa using hlt)]; rfl
    have t : ∀ c : UInt8, isAt s.data.toList k c = decide (s[k].toNat = c.toNat) := fun c => by
      unfold isAt
      rw [hg]
      simp [UInt8.toNat_inj]
    rw [t, t]
    have hl : decide (k < s.data.toList.length) = true := by simpa using hlt
    rw [hl]
    have e1 : (124 : UInt8).toNat = 124 := rfl
    have e2 : (41 : UInt8).toNat = 41 := rfl
    rw [e1, e2]
    by_cases h1 : s[k].toNat = 124
    · exact .inr (.inl ⟨hlt, .inl h1, by simp [h1]⟩)
    · by_cases h2 : s[k].toNat = 41
      · exact .inr (.inl ⟨hlt, .inr h2, by simp [h2]⟩)
      · exact .inr (.inr ⟨hlt, h1, h2, by simp [h1, h2]⟩)
  · refine .inl ⟨by omega, ?_⟩
    have hl : decide (k < s.data.toList.length) = false := by simpa using hlt
    rw [hl]
    rfl
theorem pieces_any (b k : Nat) (s : ByteArray) (br : Nat → Bool × Nd × Nat) (w : World) (h : Rd w b s k) (hk : k ≤ s.size) (hs : s.size ≤ 1000000) (hbr : BrLe s.data.toList br) (hp : ∀ j, k < j → j ≤ s.size → PatAt b s br j) :
    Calls Try.prog 41 #[.pointer (some ⟨b, 0, none⟩)] w (ReadPost b s ((piecesF s.data.toList br (s.size + 1) k []).1, .op 1 (piecesF s.data.toList br (s.size + 1) k []).2.1, (piecesF s.data.toList br (s.size + 1) k []).2.2) w) := by
  have hlen : s.data.toList.length = s.size := by simp
  have hbN := h.lt
  have hres : Try.f41.results = #[.cell 2 57, .tmp 3] := by kernel_rfl
  have CP := Lib.hid (fun (j : Nat) W (h : Rd W b s j) (hkj : k ≤ j) (hj : j < s.size) => piece_any b j s br W h (by omega) hs (fun _ => ⟨hp (j + 1) (by omega) (by omega), by have := (hbr (j + 1) (by simp; omega)).1; simpa using this⟩) (by have := (atomS_le hbr (k := j) (by simp; omega)).1; simpa using this))
  have HBR := Lib.hid (fun (j : Nat) (hj : j ≤ s.size) => show (pieceS s.data.toList br j).2.2 ≤ s.size ∧ ((pieceS s.data.toList br j).1 = true → j < (pieceS s.data.toList br j).2.2) by
    have := pieceS_le hbr (k := j) (by simp; omega)
    exact ⟨by simpa using this.1, this.2.2⟩)
  have HS := Lib.hid (PsSt.start (j := 1) (AtSt.start h))
  obtain ⟨Q, hQ⟩ : ∃ Q, piecesF s.data.toList br (s.size + 1) k [] = Q := ⟨_, rfl⟩
  rw [hQ]
  have HQ := Lib.hid hQ
  obtain ⟨P, hP⟩ : ∃ P, (w.alloc (.cells #[.int .i64 0, .int .u64 0, .int .u64 0, .int .u64 0, .int .u64 0, .slice none 0 0] 57)).heap.size = P := ⟨_, rfl⟩
  have hPw : P = w.heap.size + 1 := by rw [← hP]; simp
  rw [hP] at HS
  clear hQ hp h hlen hbr hP
  subst hPw
  go_enter Try.func41, Try.ntmps41
  go_wp2
  go_loopg [] (s.size + 1) (fun g wx => ∃ (j : Nat) (v : Value) (acc : List Nd), k ≤ j ∧ j ≤ s.size ∧ s.size + 1 ≤ j + g ∧ acc.length ≤ j ∧ Hid (PsSt w wx b s j (w.heap.size + 1) 1 v acc) ∧ Hid (piecesF s.data.toList br g j acc = Q))
  case atStart => exact ⟨k, _, [], Nat.le_refl _, hk, by omega, by simp, HS, HQ⟩
  case round =>
    clear HS HQ
    obtain ⟨j, v, acc, hkj, hj, hf, hacc, HS, HF⟩ := hrel
    cases gk with
    | zero => omega
    | succ f =>
      have hF := HF.out
      rw [piecesF_s] at hF
      obtain ⟨c0, c1, f0, f1⟩ := HS.out.a.r.facts
      obtain ⟨A, m, c, rfl⟩ := HS.out.l.form
      rcases goesOn_cases s j hj with ⟨rfl, hg⟩ | ⟨hlt, hor, hg⟩ | ⟨hlt, h1, h2, hg⟩
      · rw [hg] at hF
        have H : Hid (Q = (true, acc, s.size)) := Lib.hid hF.symm
        clear hF HF hg CP HBR
        obtain ⟨e0, e1, e2, e3, e4, e5, f0', f1', f2', f3', f4', f5'⟩ := HS.out.a.x.facts
        obtain ⟨g0, g1, g2, g3, g4, g5, -⟩ := HS.out.p.facts
        go_wp2_with fail
        go_quiet (fail)
        go_wp2
        refine bodyPost_ret (v := .tuple #[.agg #[.int .i64 1, .int .u64 0, .int .u64 0, .int .u64 0, .int .u64 0, .slice A m c], .bool true]) ?_ rfl ?_
        · simp only [results, hres]
          go_simp
        have HS2 := HS.out.gr ((Gr.refl wr).drewN nq)
        exact read_yes _ _ _ _ _ _ hbN (by rw [H.out]) HS2.a.r HS2.a.o (HS2.done (by omega))
      · rw [hg] at hF
        have H : Hid (Q = (true, acc, j)) := Lib.hid hF.symm
        clear hF HF hg CP HBR
        have n3 : (j : Int) < (s.size : Int) := by omega
        obtain ⟨e0, e1, e2, e3, e4, e5, f0', f1', f2', f3', f4', f5'⟩ := HS.out.a.x.facts
        obtain ⟨g0, g1, g2, g3, g4, g5, -⟩ := HS.out.p.facts
        rcases hor with h1 | h1
        · go_wp2_with fail
          go_quiet (fail)
          go_wp2
          refine bodyPost_ret (v := .tuple #[.agg #[.int .i64 1, .int .u64 0, .int .u64 0, .int .u64 0, .int .u64 0, .slice A m c], .bool true]) ?_ rfl ?_
          · simp only [results, hres]
            go_simp
          have HS2 := HS.out.gr ((Gr.refl wr).drewN nq)
          exact read_yes _ _ _ _ _ _ hbN (by rw [H.out]) HS2.a.r HS2.a.o (HS2.done (by omega))
        · go_wp2_with fail
          go_quiet (fail)
          go_wp2
          refine bodyPost_ret (v := .tuple #[.agg #[.int .i64 1, .int .u64 0, .int .u64 0, .int .u64 0, .int .u64 0, .slice A m c], .bool true]) ?_ rfl ?_
          · simp only [results, hres]
            go_simp
          have HS2 := HS.out.gr ((Gr.refl wr).drewN nq)
          exact read_yes _ _ _ _ _ _ hbN (by rw [H.out]) HS2.a.r HS2.a.o (HS2.done (by omega))
      · rw [hg, if_pos rfl] at hF
        have n3 : (j : Int) < (s.size : Int) := by omega
        have hle := HBR.out j hj
        have C1 := Lib.hid (fun W h => CP.out j W h hkj hlt)
        obtain ⟨q, hq⟩ : ∃ q, pieceS s.data.toList br j = q := ⟨_, rfl⟩
        rw [hq] at hF C1 hle
        have HF2 := Lib.hid hF
        clear hF HF hg CP hq
        obtain ⟨ok, n, j'⟩ := q
        simp only at hle
        have b1 : ((s[j].toNat : Int) != 124) = true := by simp; omega
        have b2 : ((s[j].toNat : Int) != 41) = true := by simp; omega
        have b3 : ¬ s[j].toNat = 124 := h1
        have b4 : ¬ s[j].toNat = 41 := h2
        clear h1 h2
        go_wp2_with fail
        go_quiet (fail)
        have HS1 : Hid (PsSt w (wr.drewN nq) b s j (w.heap.size + 1) 1 (.slice A m c) acc) := Lib.hid (HS.out.gr ((Gr.refl wr).drewN nq))
        clear HS c0 c1 f0 f1
        obtain ⟨W0, hW0⟩ : ∃ W0, wr.drewN nq = W0 := ⟨_, rfl⟩
        rw [hW0] at HS1
        go_wp2_with fail
        clear hW0
        refine (C1.out _ HS1.out.a.r).mono ?_
        rintro e w1 ⟨hr1, ho1, v1, rfl, hv, hv0⟩
        obtain ⟨kk, u0, u1, u2, u3, m1, cc1, A1, rfl⟩ := read_form hv hv0
        have HS2 : Hid (PsSt w w1 b s j' (w.heap.size + 1) 1 (.slice A m c) acc) := Lib.hid (HS1.out.on hbN (by omega) hr1 ho1)
        have HV := Lib.hid hv
        have hown : ∀ g, (Value.slice A m c).ownBlock = some g → g < W0.heap.size := fun g e => (HS1.out.l.own_ge g e).2
        have hP0 := HS1.out.p.lt
        have hsz := ho1.size
        have HOW := Lib.hid hown
        clear hr1 ho1 hv hv0 C1 HS1 hown
        simp only
        go_wp2_with (with_reducible first | refine bar_at 47 rfl fun Wx hWx => ?_ | refine bar_at 48 rfl fun Wx hWx => ?_)
        have HS3 : Hid (PsSt w Wx b s j' (w.heap.size + 1) 1 (.slice A m c) acc) := Lib.hid (by rw [← hWx]; exact HS2.out.gr ((Gr.refl w1).alloc _ _))
        have hm := bx_new w1 (.int .i64 kk) (.int .u64 u0) (.int .u64 u1) (.int .u64 u2) (.int .u64 u3) (.slice A1 m1 cc1)
        rw [hWx] at hm
        have HM := Lib.hid hm
        have hg1 : Gr w1 Wx := by rw [← hWx]; exact (Gr.refl w1).alloc _ _
        have HG1 := Lib.hid hg1
        clear hWx hm hg1 HS2
        unfold Bar
        obtain ⟨M, hM⟩ : ∃ M, w1.heap.size = M := ⟨_, rfl⟩
        rw [hM] at HM
        rw [hM]
        clear hM
        cases ok
        · have H : Hid (Q = (false, [], j')) := Lib.hid HF2.out.symm
          clear HF2 HV HM HG1 HOW HBR
          obtain ⟨e0, e1, e2, e3, e4, e5, f0', f1', f2', f3', f4', f5'⟩ := HS3.out.a.x.facts
          go_wp2
          refine bodyPost_ret (v := .tuple #[zeroN, .bool false]) ?_ rfl ?_
          · simp only [results, hres]
            go_simp
            rfl
          exact HS3.out.a.no _ _ _ _ _ _ hbN (by rw [H.out])
        · have HF3 : Hid (piecesF s.data.toList br f j' (acc ++ [n]) = Q) := Lib.hid HF2.out
          have hjj := hle.2 rfl
          clear HF2 HBR
          obtain ⟨e0, e1, e2, e3, e4, e5, -⟩ := HM.out.facts
          obtain ⟨g0, g1, g2, g3, g4, g5, -⟩ := HS3.out.p.facts
          go_wp2_with (with_reducible refine bar_at 54 rfl fun Wy hWy => ?_)
          have HS4 : Hid (PsSt w Wy b s j' (w.heap.size + 1) 1 (.slice A m c) acc) := Lib.hid (by rw [← hWy]; exact HS3.out.gr ((Gr.refl Wx).alloc _ _))
          have hm2 := bx_new Wx (.int .i64 kk) (.int .u64 u0) (.int .u64 u1) (.int .u64 u2) (.int .u64 u3) (.slice A1 m1 cc1)
          rw [hWy] at hm2
          have hg2 : Gr Wx Wy := by rw [← hWy]; exact (Gr.refl Wx).alloc _ _
          obtain ⟨v', W', hrun, hbx, hps⟩ := HS4.out.app hbN (by omega) hm2 HOW.out hP0 (HV.out (by simp)) (HG1.out.trans hg2).size (fun c _ hlt => (HG1.out.trans hg2).b.block c hlt) (by omega)
          obtain ⟨A2, m2, c2, rfl⟩ := hps.l.form
          have HRUN := Lib.hid hrun
          have HPS := Lib.hid hps
          obtain ⟨-, -, -, -, -, h5, -, -, -, -, -, k5⟩ := hbx.facts
          clear hrun hps hbx hm2 hg2 hWy HS3 HS4 HV HM HG1 HOW e0 e1 e2 e3 e4 e5 g0 g1 g2 g3 g4 g5
          unfold Bar
          refine Lib.wpList_append_run _ rfl _ _ _ _ rfl _ _ rfl rfl _ _ HRUN.out ?_
          go_wp2
          go_roundg f
          case measure => omega
          case rel => exact ⟨j', _, acc ++ [n], by omega, hle.1, by omega, by simp; omega, HPS, HF3⟩
end Go.Proofs.Ytnlfndhgdeapeaa
