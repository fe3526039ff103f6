/- atMost, values, extreme, outcome, the program's. -/
import Derived.Test.YtllhkegefinlbaaGreatDoorGSim
namespace Go.Proofs.YtllhkegefinlbaaGreatDoor.Pt
open Go.RowKit Fv
set_option maxRecDepth 100000
set_option maxHeartbeats 4000000

theorem atMost_any (k n : Nat) (w : World) (hn : n ≤ 1000) :
    Calls Tryz.prog 48 #[.float .f64 k, .int .i64 n] w fun e w' => e = .returned (.int .i64 (cutN k n)) ∧ w = w' := by
  have g1 := geK n k (by omega)
  have g2 := geK 1 k (by omega)
  have e1 : Wv.Flo.ofI ((1 : Nat) : Int) = 4607182418800017408 := by decide +kernel
  rw [e1] at g2
  have hA := @cutN_all k n (by omega)
  have h0 := @cutN_0 k n (by omega)
  have hI := @cutN_int k n (by omega)
  have g1 : (FloatKind.f64.format.order k (floatOfInt FloatKind.f64 (n : Int)) == some .gt || FloatKind.f64.format.order k (floatOfInt FloatKind.f64 (n : Int)) == some .eq) = leK n k := g1
  have g2 : (FloatKind.f64.format.order k 4607182418800017408 == some .gt || FloatKind.f64.format.order k 4607182418800017408 == some .eq) = leK 1 k := g2
  cases h1 : leK n k
  · rw [h1] at g1 hI
    cases h2 : leK 1 k
    · rw [h2] at g2 h0
      have HV := Lib.hid (h0 rfl)
      clear hA h0 hI h1 h2 e1
      go_enter Tryz.func48, Tryz.ntmps48
      go_wp2
      go_ret
      exact ⟨by rw [HV.out]; rfl, rfl⟩
    · rw [h2] at g2 hI
      have hcv : ∀ w, (convert 25 3 (.float .f64 k)).run Tryz.prog w = .ok (.int .i64 (cutN k n)) w := fun w => run_convert_float_int w _ _ .f64 .i64 k _ (by kernel_rfl) Tryz.underlying3 (hI rfl rfl)
      clear hA h0 hI h1 h2 e1
      go_enter Tryz.func48, Tryz.ntmps48
      go_wp2
      go_ret
      exact ⟨rfl, rfl⟩
  · rw [h1] at g1
    have HV := Lib.hid (hA h1)
    clear hA h0 hI h1 g2 e1
    go_enter Tryz.func48, Tryz.ntmps48
    go_wp2
    go_ret
    exact ⟨by rw [HV.out]; rfl, rfl⟩

/-! ### extreme -/
def extF (most : Bool) : FuncId := if most then 52 else 51
theorem beyond_any (most : Bool) (a b : Nat) (w : World) :
    Calls Tryz.prog (extF most) #[.float .f64 a, .float .f64 b] w fun e w' => e = .returned (.bool (if most then gtB a b else ltB a b)) ∧ w = w' := by
  cases most
  · show Calls Tryz.prog 51 _ _ _
    go_enter Tryz.func51, Tryz.ntmps51
    go_wp2
    go_ret
    exact ⟨rfl, rfl⟩
  · show Calls Tryz.prog 52 _ _ _
    go_enter Tryz.func52, Tryz.ntmps52
    go_wp2
    go_ret
    exact ⟨rfl, rfl⟩
theorem extreme_any (most : Bool) (A : Option Addr) (cap x : Nat) (r : List Nat) (w : World) (h : FlL w A (x :: r)) (hc : r.length + 1 ≤ cap) (hn : r.length ≤ 1099511627776) :
    Calls Tryz.prog 50 #[.slice A (r.length + 1) cap, .func (.func (extF most)) #[] #[]] w fun e w' => e = .returned (.float .f64 (extL most (x :: r))) ∧ w = w' := by
  obtain ⟨b, off, rfl, hcells⟩ := h (by simp)
  obtain ⟨c0, HC⟩ := tail_cells hcells
  obtain ⟨m, hm⟩ : ∃ m, r.length = m := ⟨_, rfl⟩
  rw [hm] at hc hn ⊢
  have HS : Hid (∀ k y, r[k]? = some y → (r.take (k + 1)).foldl (extS most) x = extS most ((r.take k).foldl (extS most) x) y) := Lib.hid fun k y hy => foldl_s _ _ hy
  have HE : Hid ((r.take m).foldl (extS most) x = extL most (x :: r)) := Lib.hid (by rw [← hm, List.take_length]; rfl)
  have HL : Hid (∀ k, k < m → ∃ y, r[k]? = some y) := Lib.hid fun k hk => ⟨_, List.getElem?_eq_getElem (by omega)⟩
  have CH := Lib.hid (fun a b w => beyond_any most a b w)
  have eg : ∀ args w, (callFunc (extF most) args).run Tryz.prog w = .ok (.enter (extF most) args) w := by
    cases most
    · exact enters_of Tryz.func51 (by kernel_rfl) rfl
    · exact enters_of Tryz.func52 (by kernel_rfl) rfl
  have HX : Hid (∀ a y, extS most a y = if nanB a || (if most then gtB y a else ltB y a) then y else a) := Lib.hid fun _ _ => rfl
  obtain ⟨F, hF⟩ : ∃ F, extF most = F := ⟨_, rfl⟩
  rw [hF] at CH eg ⊢
  clear hcells h hm hF
  by_cases h1 : cap = 1
  · obtain rfl : m = 0 := by omega
    subst h1
    clear hc hn
    go_enter Tryz.func50, Tryz.ntmps50
    go_wp2
    refine wp_loop_rounds 1 ?_
    rw [rounds_succ]
    go_wp2
    go_ret
    exact ⟨by rw [← HE.out]; rfl, rfl⟩
  · have h2 : 1 < cap := by omega
    clear h1
    go_enter Tryz.func50, Tryz.ntmps50
    go_wp2
    go_loopw [5, 14] (fun s i wr => ∃ k : Nat, k ≤ m ∧ i = .int .i64 k ∧ s = .float .f64 ((r.take k).foldl (extS most) x) ∧ wr = w) (fun _ i _ => m - (intOf i).toNat)
    case atStart => exact ⟨0, Nat.zero_le _, rfl, rfl, rfl⟩
    case round =>
      obtain ⟨k, hk, rfl, rfl, rfl⟩ := hrel
      by_cases hlt : k < m
      · obtain ⟨y, hy⟩ := HL.out k hlt
        have hcell := HC.out k y hy
        have HY := Lib.hid (HS.out k y hy)
        obtain ⟨a, ha⟩ : ∃ a, (r.take k).foldl (extS most) x = a := ⟨_, rfl⟩
        rw [ha] at HY ⊢
        have CP := Lib.hid (fun w => CH.out y a w)
        have CN := Lib.hid (fun w => mnan_any a w)
        have HV := Lib.hid (HX.out a y)
        obtain ⟨c1, hc1⟩ : ∃ c, (if most then gtB y a else ltB y a) = c := ⟨_, rfl⟩
        obtain ⟨c2, hc2⟩ : ∃ c, nanB a = c := ⟨_, rfl⟩
        rw [hc1] at CP HV
        rw [hc2] at HV CN
        clear hy ha hc1 hc2
        cases c1
        · cases c2
          all_goals
            go_wp2_with fail
            refine (CP.out _).mono ?_
            rintro e w' ⟨rfl, rfl⟩
            go_wp2_with fail
            refine (CN.out _).mono ?_
            rintro e w' ⟨rfl, rfl⟩
            go_wp2
            go_roundw
            case rel => exact ⟨k + 1, by omega, by go_num, by rw [HY.out, HV.out]; rfl, trivial⟩
            case measure => simp [intOf]; omega
        · have HV2 : Hid (extS most a y = y) := Lib.hid (by rw [HV.out]; simp)
          go_wp2_with fail
          refine (CP.out _).mono ?_
          rintro e w' ⟨rfl, rfl⟩
          go_wp2
          go_roundw
          case rel => exact ⟨k + 1, by omega, by go_num, by rw [HY.out, HV2.out], trivial⟩
          case measure => simp [intOf]; omega
      · obtain rfl : k = m := by omega
        go_wp2
        go_ret
        exact ⟨by rw [← HE.out]; rfl, rfl⟩

/-! ### values -/
def vals (l : List Pt) : List Nat := l.map (·.2)
theorem vals_len (l : List Pt) : (vals l).length = l.length := by unfold vals; simp
/-- values laid so far, the others nought -/
def filled (l : List Pt) (k : Nat) : List Nat := vals (l.take k) ++ List.replicate (l.length - k) 0
theorem filled_len {l : List Pt} {k : Nat} (hk : k ≤ l.length) : (filled l k).length = l.length := by
  unfold filled vals; simp; omega
theorem filled_0 (l : List Pt) : filled l 0 = List.replicate l.length 0 := by unfold filled vals; simp
theorem filled_e (l : List Pt) : filled l l.length = vals l := by unfold filled vals; simp
theorem filled_s {l : List Pt} {k : Nat} {q : Pt} (h : l[k]? = some q) : (filled l k).set k q.2 = filled l (k + 1) := by
  obtain ⟨hk, hq⟩ := List.getElem?_eq_some_iff.1 h
  have hl : (vals (l.take k)).length = k := by unfold vals; simp; omega
  unfold filled
  rw [List.set_append_right _ _ (by omega), hl, Nat.sub_self, List.take_succ_eq_append_getElem hk, hq]
  obtain ⟨d, hd⟩ : ∃ d, l.length - k = d + 1 := ⟨l.length - k - 1, by omega⟩
  have hd2 : l.length - (k + 1) = d := by omega
  rw [hd, hd2, List.replicate_succ]
  unfold vals
  simp
theorem values_any (LA : Option Addr) (ln lc : Nat) (A : Option Addr) (c : Nat) (l : List Pt) (w : World) (h : PtsAt w A l) (hl : l.length ≤ 1000) :
    Calls Tryz.prog 21 #[.agg #[.slice LA ln lc, .slice A l.length c]] w fun E w' => ∃ g, E = .returned (.slice (some ⟨g, 0, none⟩) l.length l.length) ∧ FlL w' (some ⟨g, 0, none⟩) (vals l) ∧ Gr w w' := by
  have hmk := run_make_row' (P := Tryz.prog) 55 25 (.float .f64 0) 8 Tryz.underlying55 info_float rfl .i64 .i64 l.length (by omega) (by omega)
  obtain ⟨n, hn⟩ : ∃ n, l.length = n := ⟨_, rfl⟩
  obtain ⟨W1, hW1, g1, hb1⟩ := fresh w #[.slice LA ln lc, .slice A l.length c] 52
  have z1 : W1.heap.size = w.heap.size + 1 := by rw [← hW1]; simp
  have HM := Lib.hid (own1_made (enc := encF) (T := 25) (B := W1.heap.size) W1 0 n (Nat.le_refl _) (by unfold maxLen; omega))
  obtain ⟨W0, hW0, g0, -⟩ := fresh W1 (madeCells #[encF 0] n) 25
  have HW0 := Lib.hid hW0; have G0 := Lib.hid g0; have HW1 := Lib.hid hW1; have G1 := Lib.hid g1
  rw [hW0] at HM
  have HAT := Lib.hid h
  have HL : Hid (∀ k, k < n → ∃ q, l[k]? = some q) := Lib.hid fun k hk => ⟨_, List.getElem?_eq_getElem (by omega)⟩
  have H0 := Lib.hid (filled_0 l); have HE := Lib.hid (filled_e l)
  have HS : Hid (∀ k q, l[k]? = some q → (filled l k).set k q.2 = filled l (k + 1)) := Lib.hid fun k q => filled_s
  have HLEN : Hid (∀ k, k ≤ n → (filled l k).length = n) := Lib.hid fun k hk => by rw [filled_len (by omega), hn]
  have c0 := hb1 0 _ rfl
  have c1 := hb1 1 _ rfl
  rw [hn] at hmk hl H0 HE c1 ⊢
  rw [z1] at HM
  have HZ := Lib.hid z1; have HNN := Lib.hid hn
  have HPOST : Hid (∀ W, OwnF W (w.heap.size + 1) (.slice (some ⟨w.heap.size + 1, 0, none⟩) n n) (vals l) → FlL W (some ⟨w.heap.size + 1, 0, none⟩) (vals l)) := Lib.hid fun W ho => by
    obtain ⟨A', c', hv', hat, -, -, -, -⟩ := ho.form
    simp only [Value.slice.injEq] at hv'
    rw [hv'.1]; exact hat
  clear hW0 g0 h hn hW1 g1 hb1 z1
  go_enter Tryz.func21, Tryz.ntmps21
  go_wp2
  have hw1 : w.alloc (.cells #[.slice LA ln lc, .slice A n c] 52) = W1 := by rw [← HNN.out]; exact HW1.out
  rw [hw1]
  clear hw1
  rw [show W1.alloc (.cells (madeCells #[.float .f64 0] n) 25) = W0 from HW0.out]
  go_loopw [13] (fun i wr => ∃ k : Nat, k ≤ n ∧ i = .int .i64 k ∧ Hid (OwnF wr (w.heap.size + 1) (.slice (some ⟨w.heap.size + 1, 0, none⟩) n n) (filled l k)) ∧ Hid (Gr w wr)) (fun i _ => n - (intOf i).toNat)
  case atStart => exact ⟨0, Nat.zero_le _, rfl, Lib.hid (by rw [H0.out]; exact HM.out), Lib.hid (G1.out.trans G0.out)⟩
  case round =>
    obtain ⟨k, hk, rfl, HO, HG⟩ := hrel
    by_cases hlt : k < n
    · obtain ⟨q, hq⟩ := HL.out k hlt
      have hkl : k < l.length := (List.getElem?_eq_some_iff.1 hq).1
      obtain ⟨b, o, sa, sc, rfl, d1, d2, -, -⟩ := (HAT.out.gr HG.out).cell hkl
      have hqe : l[k] = q := (List.getElem?_eq_some_iff.1 hq).2
      rw [hqe] at d1 d2
      have HLS := Lib.hid (HS.out k q hq)
      obtain ⟨X, hX, g0, hb⟩ := fresh wr #[.slice sa q.1.length sc, .float .f64 q.2] 45
      have b0 := hb 0 _ rfl
      have b1 := hb 1 (.float .f64 q.2) rfl
      have hoX := HO.out.gr g0
      have hlen := HLEN.out k hk
      obtain ⟨c1, c2⟩ := hoX.cellAt hlen.symm (j := k) (by omega)
      have c1' : ∃ u, (filled l k)[k]'(by omega) = u := ⟨_, rfl⟩
      obtain ⟨u, hu⟩ := c1'
      rw [hu] at c1
      unfold encF at c1
      have hst := hoX.stored hlen.symm k q.2
      rw [HLS.out] at hst
      have HST := Lib.hid hst
      have HX := Lib.hid hX; have G0 := Lib.hid (HG.out.trans g0)
      obtain ⟨ql, qv⟩ := q
      simp only at d1 d2 HLS b0 b1 HX HST
      clear hq hqe hX g0 hb hoX hlen hu hst hkl
      go_upto_region 5 with fail
      rw [HX.out]
      clear d1 d2
      go_wp2_with fail
      go_roundw
      case rel => exact ⟨k + 1, by omega, by go_num, Lib.hid HST.out.1, Lib.hid (G0.out.grown HST.out.2 (fun k hk => by cases hk; omega))⟩
      case measure => simp [intOf]; omega
    · obtain rfl : k = n := by omega
      have HF := Lib.hid (HPOST.out wr (by have := HO.out; rwa [HE.out] at this))
      have n3 : ¬ (k : Int) < (k : Int) := by omega
      clear HO
      go_wp2
      go_ret
      exact ⟨_, rfl, HF.out, HG.out⟩

/-! ### outcome -/
/-- a value, up to the bits of a NaN -/
def CanPost (q : Nat) (w : World) (e : Ending) (w' : World) : Prop := ∃ b, e = .returned (.float .f64 b) ∧ canon b = canon q ∧ Gr w w'
theorem outcome_any (op : Int) (A : Option Addr) (cap x : Nat) (r : List Nat) (w : World) (h : FlL w A (x :: r)) (hc : r.length + 1 ≤ cap) (hn : r.length ≤ 1000) (ht : Tab w) (hop : op = 1 ∨ op = 2 ∨ op = 3 ∨ op = 4 ∨ op = 5 ∨ op = 8) :
    Calls Tryz.prog 20 #[.int .i64 op, .slice A (r.length + 1) cap] w (CanPost (oneV op (x :: r)) w) := by
  have CS := Lib.hid (sumP_any A cap (x :: r) w ht h hc (by simp; omega))
  have CE := Lib.hid (fun most => extreme_any most A cap x r w h hc (by omega))
  have HS : Hid (canon (sumL (x :: r)) = sumL (x :: r)) := Lib.hid (foldl_cn _ _ (canon_cn _))
  rw [show (x :: r).length = r.length + 1 from rfl] at CS
  have H1 : Hid (oneV 1 (x :: r) = sumL (x :: r)) := Lib.hid (by unfold oneV; rw [if_pos rfl])
  have H2 : Hid (oneV 2 (x :: r) = Wv.Flo.ofI ((r.length + 1 : Nat) : Int)) := Lib.hid (by unfold oneV; rw [if_neg (by decide)]; rw [if_pos rfl]; rw [List.length_cons])
  have H3 : Hid (oneV 3 (x :: r) = extL false (x :: r)) := Lib.hid (by unfold oneV; rw [if_neg (by decide)]; rw [if_neg (by decide)]; rw [if_pos rfl])
  have H4 : Hid (oneV 4 (x :: r) = extL true (x :: r)) := Lib.hid (by unfold oneV; rw [if_neg (by decide)]; rw [if_neg (by decide)]; rw [if_neg (by decide)]; rw [if_pos rfl])
  have H5 : Hid (oneV 5 (x :: r) = divC (sumL (x :: r)) (Wv.Flo.ofI ((r.length + 1 : Nat) : Int))) := Lib.hid (by unfold oneV; rw [if_neg (by decide)]; rw [if_neg (by decide)]; rw [if_neg (by decide)]; rw [if_neg (by decide)]; rw [if_pos rfl]; rw [List.length_cons])
  have H8 : Hid (oneV 8 (x :: r) = 4607182418800017408) := Lib.hid (by unfold oneV; rw [if_neg (by decide)]; rw [if_neg (by decide)]; rw [if_neg (by decide)]; rw [if_neg (by decide)]; rw [if_neg (by decide)]; rfl)
  obtain ⟨n, hnn⟩ : ∃ n, r.length + 1 = n := ⟨_, rfl⟩
  rw [hnn] at CS CE H2 H5 hc ⊢
  obtain ⟨s, hs⟩ : ∃ s, sumL (x :: r) = s := ⟨_, rfl⟩
  rw [hs] at CS HS H1 H5
  have hn' : n ≤ 1001 := by omega
  have hd : ∀ w, (binOp .quo 25 (.float .f64 s) (.float .f64 (floatOfInt FloatKind.f64 (n : Int)))).run Tryz.prog w = .ok (.float .f64 (divV w s (Wv.Flo.ofI n))) (w.drewN (divN s (Wv.Flo.ofI n))) := fun w => run_divF _ s (Wv.Flo.ofI n) w
  have e2 : floatOfInt FloatKind.f64 (n : Int) = Wv.Flo.ofI n := rfl
  clear h ht hnn hs hn
  rcases hop with rfl | rfl | rfl | rfl | rfl | rfl
  · go_enter Tryz.func20, Tryz.ntmps20
    go_wp2_with fail
    refine CS.out.mono ?_
    rintro e w' ⟨rfl, q, rfl⟩
    go_wp2
    go_ret
    exact ⟨s, rfl, by rw [H1.out], (Gr.refl _).drewN _⟩
  · go_enter Tryz.func20, Tryz.ntmps20
    go_wp2
    go_ret
    exact ⟨_, rfl, by rw [H2.out, ← e2], Gr.refl _⟩
  · have CE0 : Hid (Calls Tryz.prog 50 #[.slice A n cap, .func (.func 51) #[] #[]] w fun e w' => e = .returned (.float .f64 (extL false (x :: r))) ∧ w = w') := Lib.hid (CE.out false)
    go_enter Tryz.func20, Tryz.ntmps20
    go_wp2_with fail
    refine CE0.out.mono ?_
    rintro e w' ⟨rfl, rfl⟩
    go_wp2
    go_ret
    exact ⟨_, rfl, by rw [H3.out], Gr.refl _⟩
  · have CE0 : Hid (Calls Tryz.prog 50 #[.slice A n cap, .func (.func 52) #[] #[]] w fun e w' => e = .returned (.float .f64 (extL true (x :: r))) ∧ w = w') := Lib.hid (CE.out true)
    go_enter Tryz.func20, Tryz.ntmps20
    go_wp2_with fail
    refine CE0.out.mono ?_
    rintro e w' ⟨rfl, rfl⟩
    go_wp2
    go_ret
    exact ⟨_, rfl, by rw [H4.out], Gr.refl _⟩
  · go_enter Tryz.func20, Tryz.ntmps20
    go_wp2_with fail
    refine CS.out.mono ?_
    rintro e w' ⟨rfl, q, rfl⟩
    go_wp2
    go_ret
    exact ⟨_, rfl, by rw [H5.out, divV_c]; exact (canonO_cn _).symm, (Gr.refl _).drewN _⟩
  · go_enter Tryz.func20, Tryz.ntmps20
    go_wp2
    go_ret
    exact ⟨_, rfl, by rw [H8.out], Gr.refl _⟩
end Go.Proofs.YtllhkegefinlbaaGreatDoor.Pt
