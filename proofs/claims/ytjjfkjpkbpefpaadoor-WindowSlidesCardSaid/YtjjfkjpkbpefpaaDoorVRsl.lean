/- The reference's Slide. -/
import Derived.Test.YtjjfkjpkbpefpaaDoorVGrid
import Derived.Test.YtjjfkjpkbpefpaaDoorVRfn
namespace Go.Proofs.YtjjfkjpkbpefpaaDoor.Vn
open Go.RowKit
set_option maxRecDepth 100000
set_option maxHeartbeats 8000000

theorem Own1.heap {α : Type} {enc : α → Value} {T : TypeId} {W : World} {B : Nat} {v : Value} {l : List α} (h : Own1 enc T W B v l) (h0 : v.ownBlock ≠ none) : ∃ g cap cur, v = .slice (some ⟨g, 0, none⟩) l.length cap ∧ W.heap[g]? = some (.cells cur T (0, 0)) := by
  rcases h.2 with ⟨e, -⟩ | ⟨g, cap, cur, e, -, hg, -⟩
  · rw [e] at h0; exact absurd rfl h0
  · exact ⟨g, cap, cur, e, hg⟩
/-- rows of two kinds lie in two blocks -/
theorem own1_ne {α β : Type} {enc : α → Value} {enc' : β → Value} {T T' : TypeId} {W : World} {B B' : Nat} {v v' : Value} {l : List α} {l' : List β} (h : Own1 enc T W B v l) (h' : Own1 enc' T' W B' v' l') (hT : T ≠ T') : v.ownBlock = none ∨ v.ownBlock ≠ v'.ownBlock := by
  by_cases h0 : v.ownBlock = none
  · exact .inl h0
  · refine .inr fun e => ?_
    obtain ⟨g, cap, cur, rfl, hg⟩ := h.heap h0
    obtain ⟨g', cap', cur', rfl, hg'⟩ := h'.heap (by rw [← e]; exact h0)
    simp only [Value.ownBlock, Option.some.injEq] at e
    subst e
    rw [hg] at hg'
    injection hg' with e
    injection e with e1 e2 e3
    exact hT e2
/-- a window's end at a point -/
def winT (s p off : Int) (i : Nat) : Int := s + (i : Int) * p - off
def colV (fn : Int) (l : List Sm) (s p len off : Int) (n : Nat) : List Nat := (List.range n).map fun i => (fnP fn l (winT s p off i - len) (winT s p off i)).getD 0
def colH (fn : Int) (l : List Sm) (s p len off : Int) (n : Nat) : List Bool := (List.range n).map fun i => (fnP fn l (winT s p off i - len) (winT s p off i)).isSome
theorem colV_s (fn : Int) (l : List Sm) (s p len off : Int) (n : Nat) : colV fn l s p len off (n + 1) = colV fn l s p len off n ++ [(fnP fn l (winT s p off n - len) (winT s p off n)).getD 0] := by unfold colV; rw [List.range_succ, List.map_append]; rfl
theorem colH_s (fn : Int) (l : List Sm) (s p len off : Int) (n : Nat) : colH fn l s p len off (n + 1) = colH fn l s p len off n ++ [(fnP fn l (winT s p off n - len) (winT s p off n)).isSome] := by unfold colH; rw [List.range_succ, List.map_append]; rfl
theorem colV_len (fn : Int) (l : List Sm) (s p len off : Int) (n : Nat) : (colV fn l s p len off n).length = n := by unfold colV; simp
theorem colH_len (fn : Int) (l : List Sm) (s p len off : Int) (n : Nat) : (colH fn l s p len off n).length = n := by unfold colH; simp
theorem chk_0 {fn s e p len off : Int} (h : chkE fn s e p len off = 0) : chE s e p = 0 ∧ isFn fn = true ∧ lenB len = true ∧ inB off = true := by
  unfold chkE at h
  by_cases hc : chE s e p = 0
  · rw [if_pos hc] at h
    by_cases hb : (isFn fn && lenB len && inB off) = true
    · simp only [Bool.and_eq_true] at hb
      exact ⟨hc, hb.1.1, hb.1.2, hb.2⟩
    · rw [if_neg hb] at h; exact absurd h (by decide)
  · rw [if_neg hc] at h; exact absurd h hc
def RslPost (fn : Int) (l : List Sm) (s e p len off : Int) (w : World) (E : Ending) (w' : World) : Prop :=
  Gr w w' ∧ ((chkE fn s e p len off ≠ 0 ∧ E = .returned (.tuple #[.slice none 0 0, .slice none 0 0, .int .i64 (chkE fn s e p len off)])) ∨
    (chkE fn s e p len off = 0 ∧ ∃ n : Nat, (n : Int) = ptN s e p ∧ ∃ A1 c1 A2 c2, E = .returned (.tuple #[.slice A1 n c1, .slice A2 n c2, .int .i64 0]) ∧ FlL w' A1 (colV fn l s p len off n) ∧ At1 encB w' A2 (colH fn l s p len off n)))
theorem rslide_err (fn s e p len off : Int) (A : Option Addr) (c n : Nat) (w : World) (h : chkE fn s e p len off ≠ 0) :
    Calls Tryd.prog 24 #[.int .i64 fn, .slice A n c, .agg #[.int .i64 s, .int .i64 e, .int .i64 p], .int .i64 len, .int .i64 off] w fun E w' => E = .returned (.tuple #[.slice none 0 0, .slice none 0 0, .int .i64 (chkE fn s e p len off)]) ∧ Gr w w' := by
  have CC := Lib.hid (fun W => ref_check_any s e p W)
  by_cases hc : chE s e p = 0
  case neg =>
    have HV : Hid (chkE fn s e p len off = chE s e p) := Lib.hid (by unfold chkE; rw [if_neg hc])
    obtain ⟨x, hcc⟩ : ∃ x, chE s e p = x := ⟨_, rfl⟩
    rw [hcc] at hc HV CC
    have d1 : (x != 0) = true := by simpa using hc
    have d2 : (x == 0) = false := by simpa using hc
    clear hcc h
    go_enter Tryd.func24, Tryd.ntmps24
    go_wp2_with (first | (go_at_call 42; refine (CC.out _).mono ?_; rintro E w1 ⟨rfl, hg⟩) | fail)
    go_ret3
    exact ⟨by rw [HV.out]; rfl, ((Gr.refl _).alloc _ _).trans hg⟩
  have HV : Hid (chkE fn s e p len off = 1) := Lib.hid (by
    unfold chkE at h ⊢
    rw [if_pos hc] at h ⊢
    by_cases hb : (isFn fn && lenB len && inB off) = true
    · rw [if_pos hb] at h; exact absurd rfl h
    · rw [if_neg hb])
  have HB : Hid (isFn fn = false ∨ lenB len = false ∨ inB off = false) := Lib.hid (by
    rcases hb1 : isFn fn with _ | _
    · exact .inl rfl
    · rcases hb2 : lenB len with _ | _
      · exact .inr (.inl rfl)
      · rcases hb3 : inB off with _ | _
        · exact .inr (.inr rfl)
        · exfalso; apply h; unfold chkE; rw [if_pos hc, hb1, hb2, hb3]; rfl)
  have CI := Lib.hid (fun W => rin_any off W)
  rw [hc] at CC
  clear hc h
  cases h1 : decide (fn < 1)
  case true =>
    clear HB
    go_enter Tryd.func24, Tryd.ntmps24
    go_wp2_with (first | (go_at_call 42; refine (CC.out _).mono ?_; rintro E w1 ⟨rfl, hg⟩) | fail)
    go_ret3
    exact ⟨by rw [HV.out]; rfl, ((Gr.refl _).alloc _ _).trans hg⟩
  cases h2 : decide (14 < fn)
  case true =>
    have h2' : decide (fn > 14) = true := h2
    clear HB
    go_enter Tryd.func24, Tryd.ntmps24
    go_wp2_with (first | (go_at_call 42; refine (CC.out _).mono ?_; rintro E w1 ⟨rfl, hg⟩) | fail)
    go_ret3
    exact ⟨by rw [HV.out]; rfl, ((Gr.refl _).alloc _ _).trans hg⟩
  have h2' : decide (fn > 14) = false := h2
  cases h3 : decide (len < 1)
  case true =>
    clear HB
    go_enter Tryd.func24, Tryd.ntmps24
    go_wp2_with (first | (go_at_call 42; refine (CC.out _).mono ?_; rintro E w1 ⟨rfl, hg⟩) | fail)
    go_ret3
    exact ⟨by rw [HV.out]; rfl, ((Gr.refl _).alloc _ _).trans hg⟩
  cases h4 : decide (1125899906842624 < len)
  case true =>
    have h4' : decide (len > 1125899906842624) = true := h4
    clear HB
    go_enter Tryd.func24, Tryd.ntmps24
    go_wp2_with (first | (go_at_call 42; refine (CC.out _).mono ?_; rintro E w1 ⟨rfl, hg⟩) | fail)
    go_ret3
    exact ⟨by rw [HV.out]; rfl, ((Gr.refl _).alloc _ _).trans hg⟩
  have h4' : decide (len > 1125899906842624) = false := h4
  have h5 : inB off = false := by
    have g1 := of_decide_eq_false h1
    have g2 := of_decide_eq_false h2
    have g3 := of_decide_eq_false h3
    have g4 := of_decide_eq_false h4
    rcases HB.out with g | g | g
    · exfalso; unfold isFn at g; rw [decide_eq_true (by omega : 1 ≤ fn), decide_eq_true (by omega : fn ≤ 14)] at g; cases g
    · exfalso; have := lenB_f g; omega
    · exact g
  rw [h5] at CI
  clear HB h5
  go_enter Tryd.func24, Tryd.ntmps24
  go_wp2_with (first | (go_at_call 42; refine (CC.out _).mono ?_; rintro E w1 ⟨rfl, hg⟩) | (go_at_call 43; refine (CI.out _).mono ?_; rintro E w2 ⟨rfl, rfl⟩) | fail)
  go_ret3
  exact ⟨by rw [HV.out]; rfl, ((Gr.refl _).alloc _ _).trans hg⟩
/-- a grid that may be, at its points -/
structure GridH (s e p len off : Int) (n : Nat) : Prop where
  pt : ptV s e p = n
  at_ : ∀ i : Nat, i < n → atV s e p i = s + i * p ∧ atB s e p i = true ∧ -1125899906842624 ≤ s + i * p ∧ s + i * p ≤ 1125899906842624
  ln : 1 ≤ len ∧ len ≤ 1125899906842624
  of_ : -1125899906842624 ≤ off ∧ off ≤ 1125899906842624
  n4 : n ≤ 4096
  st : -1125899906842624 ≤ s ∧ s ≤ 1125899906842624 ∧ 1 ≤ p ∧ p ≤ 1125899906842624
theorem gridH {fn s e p len off : Int} (h : chkE fn s e p len off = 0) : ∃ n : Nat, (n : Int) = ptN s e p ∧ 1 ≤ n ∧ GridH s e p len off n := by
  obtain ⟨hc, -, hl, ho⟩ := chk_0 h
  obtain ⟨hg, h4⟩ := chE_0 hc
  obtain ⟨s1, e2, hse, p1, p2⟩ := gridB_t hg
  obtain ⟨k1, k2⟩ := ptN_bd s e p hse p1
  have hv : ptV s e p = ptN s e p := by unfold ptV; rw [if_pos hc]
  obtain ⟨n, hn⟩ : ∃ n : Nat, (n : Int) = ptN s e p := ⟨(ptN s e p).toNat, by unfold ptN; omega⟩
  refine ⟨n, hn, by unfold ptN at hn; omega, by rw [hv, hn], fun i hi => ?_, lenB_t hl, inB_t ho, by omega, s1, by omega, p1, p2⟩
  obtain ⟨m1, m2⟩ := mul_bd (s := s) (e := e) (p := p) (i := (i : Int)) (by omega) (by omega) p1
  have hb : atB s e p i = true := by
    unfold atB
    rw [decide_eq_false (by omega), decide_eq_false (by omega)]; rfl
  refine ⟨by unfold atV; rw [if_pos hb], hb, by omega, by omega⟩
theorem rslide_ok (fn s e p len off : Int) (A : Option Addr) (c : Nat) (l : List Sm) (w : World) (hat : At2 encP w A l) (hl : l.length ≤ 1000000) (hc : chkE fn s e p len off = 0) (n : Nat) (hn : (n : Int) = ptN s e p) (hG : GridH s e p len off n) :
    Calls Tryd.prog 24 #[.int .i64 fn, .slice A l.length c, .agg #[.int .i64 s, .int .i64 e, .int .i64 p], .int .i64 len, .int .i64 off] w (RslPost fn l s e p len off w) := by
  obtain ⟨hc0, hif, hlb, hob⟩ := chk_0 hc
  have HPOST : Hid (∀ W A1 c1 A2 c2, Gr w W → FlL W A1 (colV fn l s p len off n) → At1 encB W A2 (colH fn l s p len off n) → RslPost fn l s e p len off w (.returned (.tuple #[.slice A1 n c1, .slice A2 n c2, .int .i64 0])) W) := Lib.hid fun W A1 c1 A2 c2 g h1 h2 => ⟨g, .inr ⟨hc, n, hn, A1, c1, A2, c2, rfl, h1, h2⟩⟩
  have CC := Lib.hid (fun W => ref_check_any s e p W)
  rw [hc0] at CC
  have CI := Lib.hid (fun W => rin_any off W)
  rw [hob] at CI
  have CP := Lib.hid (fun W => ref_pts_any s e p W)
  rw [hG.pt] at CP
  have CA : Hid (∀ (i : Nat) W, i < n → Calls Tryd.prog 45 #[.agg #[.int .i64 s, .int .i64 e, .int .i64 p], .int .i64 i] W fun E w' => E = .returned (.tuple #[.int .i64 (s + i * p), .bool true]) ∧ Gr W w') := Lib.hid fun i W hi => by
    have := ref_at_any s e p i W
    rwa [(hG.at_ i hi).1, (hG.at_ i hi).2.1] at this
  have CF : Hid (∀ f t W, Gr w W → -4611686018427387904 ≤ f → t ≤ 4611686018427387903 → Calls Tryd.prog 13 #[.int .i64 fn, .slice A l.length c, .int .i64 f, .int .i64 t] W fun e w' => e = .returned (.tuple #[.float .f64 ((fnP fn l f t).getD 0), .bool (fnP fn l f t).isSome]) ∧ Gr W w') := Lib.hid fun f t W g b1 b2 => rFn_any fn A c l f t W (hat.gr g) hl b1 b2
  have HAT := Lib.hid hG.at_
  have hlen := hG.ln
  have hoff := hG.of_
  have hn4 := hG.n4
  have hfn : 1 ≤ fn ∧ fn ≤ 14 := by simpa [isFn] using hif
  have q1 : decide (fn < 1) = false := decide_eq_false (by omega)
  have q2 : decide (fn > 14) = false := decide_eq_false (by omega)
  have q3 : decide (len < 1) = false := decide_eq_false (by omega)
  have q4 : decide (len > 1125899906842624) = false := decide_eq_false (by omega)
  have HVS := Lib.hid (colV_s fn l s p len off); have HHS := Lib.hid (colH_s fn l s p len off)
  have HVL := Lib.hid (colV_len fn l s p len off); have HHL := Lib.hid (colH_len fn l s p len off)
  have HV0 : Hid (colV fn l s p len off 0 = [] ∧ colH fn l s p len off 0 = []) := Lib.hid ⟨rfl, rfl⟩
  have HW : Hid (∀ i, winT s p off i = s + (i : Int) * p - off) := Lib.hid fun _ => rfl
  obtain ⟨V, hV⟩ : ∃ V, colV fn l s p len off = V := ⟨_, rfl⟩
  obtain ⟨H, hH⟩ : ∃ H, colH fn l s p len off = H := ⟨_, rfl⟩
  rw [hV] at HVS HVL HV0
  rw [hH] at HHS HHL HV0
  rw [hV, hH] at HPOST
  clear hc0 hif hlb hob hc hn hG hat hV hH hfn
  obtain ⟨X, hX, g0, hb⟩ := fresh w #[.int .i64 s, .int .i64 e, .int .i64 p] 41
  have x0 := hb 0 _ rfl
  have x1 := hb 1 (.int .i64 e) rfl
  have x2 := hb 2 (.int .i64 p) rfl
  have HX := Lib.hid hX; have HG0 := Lib.hid g0
  have HXC := Lib.hid (And.intro x0 (And.intro x1 x2))
  clear hX g0 hb
  go_enter Tryd.func24, Tryd.ntmps24
  go_upto_region 1 with fail
  rw [HX.out]
  go_wp2_with (first
    | (go_at_call 42; refine (CC.out _).mono ?_; rintro E w1 ⟨rfl, g1⟩; have HG1 := Lib.hid g1; clear g1)
    | (go_at_call 43; refine (CI.out _).mono ?_; rintro E w2 ⟨rfl, rfl⟩)
    | fail)
  clear x0 x1 x2
  go_loopw [14, 15, 16] (fun v9 h9 i9 wr => ∃ k : Nat, k ≤ n ∧ i9 = .int .i64 k ∧ Hid (OwnF wr w1.heap.size v9 (V k)) ∧ Hid (OwnB wr w1.heap.size h9 (H k)) ∧ Hid (Gr w1 wr)) (fun _ _ i9 _ => n - (intOf i9).toNat)
  case atStart => exact ⟨0, Nat.zero_le _, rfl, Lib.hid (by rw [HV0.out.1]; exact Own1.nil _ _), Lib.hid (by rw [HV0.out.2]; exact Own1.nil _ _), Lib.hid (Gr.refl _)⟩
  case round =>
    obtain ⟨k, hk, rfl, HO, HOB, HG⟩ := hrel
    have HGX := Lib.hid (HG1.out.trans HG.out)
    have y0 := HGX.out.cell HXC.out.1
    have y1 := HGX.out.cell HXC.out.2.1
    have y2 := HGX.out.cell HXC.out.2.2
    by_cases hlt : k < n
    · have m1 : (k : Int) < (n : Int) := by omega
      have m2 : (0 : Int) ≤ (k : Int) := by omega
      obtain ⟨-, -, b1, b2⟩ := HAT.out k hlt
      have CA1 := Lib.hid (fun W => CA.out k W hlt)
      have HW1 := Lib.hid (HW.out k)
      have HVK := Lib.hid (HVS.out k); have HHK := Lib.hid (HHS.out k)
      have hvl := HVL.out k; have hhl := HHL.out k
      rw [HW1.out] at HVK HHK
      obtain ⟨tk, htk⟩ : ∃ tk, s + (k : Int) * p = tk := ⟨_, rfl⟩
      rw [htk] at b1 b2 CA1 HVK HHK
      have CF1 := Lib.hid (fun W g => CF.out (tk - off - len) (tk - off) W g (by omega) (by omega))
      obtain ⟨fv, hfv⟩ : ∃ fv, (fnP fn l (tk - off - len) (tk - off)).getD 0 = fv := ⟨_, rfl⟩
      obtain ⟨fh, hfh⟩ : ∃ fh, (fnP fn l (tk - off - len) (tk - off)).isSome = fh := ⟨_, rfl⟩
      rw [hfv] at CF1 HVK
      rw [hfh] at CF1 HHK
      clear htk hfv hfh
      have HVL2 := Lib.hid (And.intro hvl hhl)
      clear hvl hhl
      go_wp2_with fail
      refine (CP.out _).mono ?_
      rintro E w3 ⟨rfl, g3⟩
      have HG3 := Lib.hid (HGX.out.trans g3)
      have HK3 := Lib.hid (HG.out.trans g3)
      have HO3 := Lib.hid (HO.out.gr g3); have HOB3 := Lib.hid (HOB.out.gr g3)
      have z0 := g3.cell y0; have z1 := g3.cell y1; have z2 := g3.cell y2
      clear g3 y0 y1 y2
      go_wp2_with fail
      refine (CA1.out _).mono ?_
      rintro E w4 ⟨rfl, g4⟩
      have HG4 := Lib.hid (HG3.out.trans g4)
      have HK4 := Lib.hid (HK3.out.trans g4)
      have HO4 := Lib.hid (HO3.out.gr g4); have HOB4 := Lib.hid (HOB3.out.gr g4)
      clear g4 z0 z1 z2
      go_wp2_with fail
      refine (CF1.out _ (HG0.out.trans HG4.out)).mono ?_
      rintro E w5 ⟨rfl, g5⟩
      have HK5 := Lib.hid (HK4.out.trans g5)
      have HO5 := Lib.hid (HO4.out.gr g5); have HOB5 := Lib.hid (HOB4.out.gr g5)
      clear g5
      have HO6 := Lib.hid (HO5.out.gr ((Gr.refl w5).alloc #[.float .f64 fv] 26))
      have HOB6 := Lib.hid (HOB5.out.gr ((Gr.refl w5).alloc #[.float .f64 fv] 26))
      have HK6 := Lib.hid (HK5.out.alloc #[.float .f64 fv] 26)
      go_wp2_with (first
        | (at_builtin
           refine wpList_app2 rfl (.tmp 71) (.tmp 73) (by rfl) (by rfl) (by rfl) (by rfl) (run_appF (c := 1) (m := [fv]) HO6.out (at1_one (enc := encF) _ fv _) (by rw [HVL2.out.1]; simp; omega) HK6.out.size) ?_
           rintro v7 w7 ⟨ho7, hg7, -⟩
           have HO7 : Hid (OwnF w7 w1.heap.size v7 (V (k + 1))) := Lib.hid (by rw [HVK.out]; exact ho7)
           have HOB7 : Hid (OwnB w7 w1.heap.size u15 (H k)) := Lib.hid (HOB6.out.kept hg7 (own1_ne HOB6.out HO6.out (by decide)))
           have HK7 : Hid (Gr w1 w7) := Lib.hid (HK6.out.grown hg7 (fun k hk => (HO6.out.lt hk).1))
           have HO8 := Lib.hid (HO7.out.gr ((Gr.refl w7).alloc #[.bool fh] 4))
           have HOB8 := Lib.hid (HOB7.out.gr ((Gr.refl w7).alloc #[.bool fh] 4))
           have HK8 := Lib.hid (HK7.out.alloc #[.bool fh] 4)
           clear ho7 hg7)
        | (at_builtin
           refine wpList_app2 rfl (.tmp 75) (.tmp 77) (by rfl) (by rfl) (by rfl) (by rfl) (run_appB (c := 1) (m := [fh]) HOB8.out (at1_one (enc := encB) _ fh _) (by rw [HVL2.out.2]; simp; omega) HK8.out.size) ?_
           rintro v9 w9 ⟨ho9, hg9, -⟩
           have HOB9 : Hid (OwnB w9 w1.heap.size v9 (H (k + 1))) := Lib.hid (by rw [HHK.out]; exact ho9)
           have HO9 : Hid (OwnF w9 w1.heap.size v7 (V (k + 1))) := Lib.hid (HO8.out.kept hg9 (own1_ne HO8.out HOB8.out (by decide)))
           have HK9 : Hid (Gr w1 w9) := Lib.hid (HK8.out.grown hg9 (fun k hk => (HOB8.out.lt hk).1))
           clear ho9 hg9)
        | fail)
      go_roundw
      case rel => exact ⟨k + 1, by omega, by go_num, HO9, HOB9, HK9⟩
      case measure => simp [intOf]; omega
    · obtain rfl : k = n := by omega
      obtain ⟨A1, c1, rfl, h1, -, -, -, -⟩ := HO.out.form
      obtain ⟨A2, c2, rfl, h2, -, -, -, -⟩ := HOB.out.form
      rw [HVL.out k, HHL.out k]
      have HR := Lib.hid (fun W (g : Gr wr W) => HPOST.out W A1 c1 A2 c2 ((HG0.out.trans HGX.out).trans g) (h1.gr g) (h2.gr g))
      have m3 : ¬ (k : Int) < (k : Int) := by omega
      clear h1 h2 HO HOB hlt hk
      go_wp2_with fail
      refine (CP.out _).mono ?_
      rintro E w3 ⟨rfl, g3⟩
      have HR2 := Lib.hid (HR.out w3 g3)
      clear g3 y0 y1 y2
      go_wp2
      go_ret3
      exact HR2.out
end Go.Proofs.YtjjfkjpkbpefpaaDoor.Vn
