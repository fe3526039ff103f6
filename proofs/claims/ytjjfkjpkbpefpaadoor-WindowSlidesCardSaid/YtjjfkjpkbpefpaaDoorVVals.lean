/- The values of samples: values; Cut. -/
import Derived.Test.YtjjfkjpkbpefpaaDoorVCut
namespace Go.Proofs.YtjjfkjpkbpefpaaDoor.Vn
open Go.RowKit Go.Sort
set_option maxRecDepth 100000
set_option maxHeartbeats 4000000

/-- the laws on stores lack floats -/
@[go_sem] theorem run_store_float (P : Program) (w : World) (a : Addr) (m : Mode) (k : FloatKind) (b : Nat) : (store a (.float k b) m).run P w = stored P w a (.float k b) m := run_store P w a _ m rfl
/-- values laid so far, the others nought -/
def filled (l : List Sm) (k : Nat) : List Nat := vals (l.take k) ++ List.replicate (l.length - k) 0
theorem filled_len {l : List Sm} {k : Nat} (hk : k ≤ l.length) : (filled l k).length = l.length := by
  unfold filled vals; simp; omega
theorem filled_0 (l : List Sm) : filled l 0 = List.replicate l.length 0 := by unfold filled vals; simp
theorem filled_e (l : List Sm) : filled l l.length = vals l := by unfold filled vals; simp
theorem filled_s {l : List Sm} {k : Nat} {q : Sm} (h : l[k]? = some q) : (filled l k).set k q.2 = filled l (k + 1) := by
  have hk := (List.getElem?_eq_some_iff.1 h).1
  have hl : (vals (l.take k)).length = k := by unfold vals; simp; omega
  unfold filled
  rw [List.set_append_right _ _ (by omega), hl, Nat.sub_self, take_s h]
  obtain ⟨d, hd⟩ : ∃ d, l.length - k = d + 1 := ⟨l.length - k - 1, by omega⟩
  have hd2 : l.length - (k + 1) = d := by omega
  rw [hd, hd2, List.replicate_succ]
  unfold vals
  simp
def ValsPost (l : List Sm) (w : World) (e : Ending) (w' : World) : Prop := Gr w w' ∧ ∃ A c, e = .returned (.slice A (vals l).length c) ∧ FlL w' A (vals l) ∧ (vals l).length ≤ c ∧ c ≤ maxLen ∧ (0 < (vals l).length → ∃ g, A = some ⟨g, 0, none⟩ ∧ w.heap.size ≤ g)
theorem vals_len (l : List Sm) : (vals l).length = l.length := by unfold vals; simp
theorem values_any (A : Option Addr) (c : Nat) (l : List Sm) (w : World) (h : At2 encP w A l) (hl : l.length ≤ 1099511627776) :
    Calls Tryd.prog 28 #[.slice A l.length c] w (ValsPost l w) := by
  have hmk := run_make_row' (P := Tryd.prog) 42 26 (.float .f64 0) 8 Tryd.underlying42 info_float rfl .i64 .i64 l.length (by omega) (by omega)
  obtain ⟨n, hn⟩ : ∃ n, l.length = n := ⟨_, rfl⟩
  have HM := Lib.hid (own1_made (enc := encF) (T := 26) (B := w.heap.size) w 0 n (Nat.le_refl _) (by unfold maxLen; omega))
  obtain ⟨W0, hW0, g0, -⟩ := fresh w (madeCells #[encF 0] n) 26
  have HW0 := Lib.hid hW0; have G0 := Lib.hid g0
  rw [hW0] at HM
  have HAT := Lib.hid h
  have HL : Hid (∀ k, k < n → ∃ q, l[k]? = some q) := Lib.hid fun k hk => ⟨_, List.getElem?_eq_getElem (by omega)⟩
  have H0 := Lib.hid (filled_0 l); have HE := Lib.hid (filled_e l)
  have HS : Hid (∀ k q, l[k]? = some q → (filled l k).set k q.2 = filled l (k + 1)) := Lib.hid fun k q => filled_s
  have HLEN : Hid (∀ k, k ≤ n → (filled l k).length = n) := Lib.hid fun k hk => by rw [filled_len (by omega), hn]
  have HVL : Hid ((vals l).length = n) := Lib.hid (by rw [vals_len, hn])
  rw [hn] at hmk hl H0 HE ⊢
  have HPOST : Hid (∀ W v, Gr w W → OwnF W w.heap.size v (vals l) → v = .slice (some ⟨w.heap.size, 0, none⟩) n n → ValsPost l w (.returned v) W) := Lib.hid fun W v g ho hv => by
    obtain ⟨A', c', hv', hat, h1, h2, -, h4⟩ := ho.form
    exact ⟨g, A', c', by rw [hv'], hat, h1, h2, h4⟩
  clear hW0 g0 h hn
  go_enter Tryd.func28, Tryd.ntmps28
  go_wp2
  go_loopw [11] (fun i wr => ∃ k : Nat, k ≤ n ∧ i = .int .i64 k ∧ Hid (OwnF wr w.heap.size (.slice (some ⟨w.heap.size, 0, none⟩) n n) (filled l k)) ∧ Hid (Gr w wr)) (fun i _ => n - (intOf i).toNat)
  case atStart => exact ⟨0, Nat.zero_le _, rfl, Lib.hid (by rw [H0.out]; exact HW0.out ▸ HM.out), Lib.hid (HW0.out ▸ G0.out)⟩
  case round =>
    obtain ⟨k, hk, rfl, HO, HG⟩ := hrel
    by_cases hlt : k < n
    · obtain ⟨q, hq⟩ := HL.out k hlt
      obtain ⟨b, o, rfl, hcells⟩ := (HAT.out.gr HG.out) (by have := (List.getElem?_eq_some_iff.1 hq).1; omega)
      obtain ⟨d1, d2⟩ := hcells k q hq _ _ rfl
      have HLS := Lib.hid (HS.out k q hq)
      obtain ⟨X, hX, g0, hb⟩ := fresh wr #[.int .i64 q.1, .float .f64 q.2] 34
      have b0 := hb 0 _ rfl
      have b1 := hb 1 (.float .f64 q.2) rfl
      have hoX := HO.out.gr g0
      have hlen := HLEN.out k hk
      obtain ⟨c1, c2⟩ := hoX.cellAt hlen.symm (j := k) (by omega)
      have c1' : ∃ u, (filled l k)[k]'(by omega) = u := ⟨_, rfl⟩
      obtain ⟨u, hu⟩ := c1'
      rw [hu] at c1
      unfold encF at c1
      have hst := hoX.stored hlen.symm k q.2
      rw [HLS.out] at hst
      have HST := Lib.hid hst
      have HX := Lib.hid hX; have G0 := Lib.hid (HG.out.trans g0)
      obtain ⟨qt, qv⟩ := q
      simp only at d1 d2 HLS b0 b1 HX HST
      clear hq hcells hX g0 hb hoX hlen hu hst
      go_upto_region 5 with fail
      rw [HX.out]
      clear d1 d2
      go_wp2_with fail
      go_roundw
      case rel => exact ⟨k + 1, by omega, by go_num, Lib.hid HST.out.1, Lib.hid (G0.out.grown HST.out.2 (fun k hk => by cases hk; exact Nat.le_refl _))⟩
      case measure => simp [intOf]; omega
    · obtain rfl : k = n := by omega
      have HF := Lib.hid (HPOST.out wr _ HG.out (by have := HO.out; rwa [HE.out] at this) rfl)
      have n3 : ¬ (k : Int) < (k : Int) := by omega
      clear HO
      go_wp2
      go_ret
      exact HF.out
theorem isFn_any (fn : Int) (w : World) :
    Calls Tryd.prog 26 #[.int .i64 fn] w fun e w' => e = .returned (.bool (isFn fn)) ∧ w = w' := by
  have H2 : Hid (isFn fn = (decide (1 ≤ fn) && decide (fn ≤ 14))) := Lib.hid rfl
  cases ha : decide (1 ≤ fn) <;> cases hb : decide (fn ≤ 14)
  all_goals
    go_enter Tryd.func26, Tryd.ntmps26
    go_wp2
    go_ret
    exact ⟨by rw [H2.out, ha, hb]; rfl, rfl⟩
def CutP (l : List Sm) (w : World) (e : Ending) (w' : World) : Prop := Gr w w' ∧ ∃ A c, e = .returned (.slice A l.length c) ∧ At2 encP w' A l ∧ l.length ≤ c
theorem clone_none (A : Option Addr) (c : Nat) (w : World) :
    Calls Tryd.prog 38 #[.slice A 0 c] w fun e w' => ∃ A' c', e = .returned (.slice A' 0 c') ∧ Gr w w' := by
  have q22 : ∀ (w : World) (a : Option Addr) (n c n' c' : Nat), (binOp .eql 22 (.slice a n c) (.slice none n' c')).run Tryd.prog w = .ok (.bool a.isNone) w := fun w a n c n' c' => Lib.run_eql_slice_nil w _ _ a n c n' c' Tryd.underlying22
  cases A with
  | none =>
    go_enter Tryd.func38, Tryd.ntmps38
    go_wp2
    go_ret
    exact ⟨none, 0, rfl, Gr.refl _⟩
  | some a =>
    go_enter Tryd.func38, Tryd.ntmps38
    go_wp2
    go_ret
    exact ⟨_, _, rfl, (Gr.refl _).alloc _ _⟩
theorem Cut_any (A : Option Addr) (c : Nat) (l : List Sm) (f t : Int) (w : World) (h : At2 encP w A l) (ha : AscT l) (hl : l.length ≤ 1099511627776) (hc : l.length ≤ c) :
    Calls Tryd.prog 16 #[.slice A l.length c, .int .i64 f, .int .i64 t] w (CutP (strL l f t) w) := by
  have CC := Lib.hid (cut_any A c l f t w h ha hl hc)
  unfold CutPost at CC
  rw [asc_cut ha] at CC
  have HLEN := Lib.hid (strL_len l f t)
  obtain ⟨L, hL⟩ : ∃ L, strL l f t = L := ⟨_, rfl⟩
  rw [hL] at CC HLEN ⊢
  clear h ha hc hL
  go_enter Tryd.func16, Tryd.ntmps16
  go_wp2_with fail
  refine CC.out.mono ?_
  rintro e w2 ⟨g2, A', c', rfl, hat2, hc2⟩
  by_cases h0 : 0 < L.length
  · have CL := Lib.hid (pclone_any A' c' L w2 hat2 h0 (by have := HLEN.out; omega))
    have HG := Lib.hid g2
    clear hat2 hc2 g2 h0
    go_wp2_with fail
    refine CL.out.mono ?_
    rintro e w3 ⟨A3, c3, rfl, hat3, hc3, g3⟩
    have HR : Hid (CutP L w (.returned (.slice A3 L.length c3)) w3) := Lib.hid ⟨HG.out.trans g3, A3, c3, rfl, hat3, hc3⟩
    clear hat3 hc3 g3
    go_wp2
    go_ret
    exact HR.out
  · obtain rfl : L = [] := List.eq_nil_of_length_eq_zero (by omega)
    have CL := Lib.hid (clone_none A' c' w2)
    have HG := Lib.hid g2
    clear hat2 hc2 g2 h0
    simp only [List.length_nil]
    go_wp2_with fail
    refine CL.out.mono ?_
    rintro e w3 ⟨A3, c3, rfl, g3⟩
    have HR : Hid (CutP [] w (.returned (.slice A3 0 c3)) w3) := Lib.hid ⟨HG.out.trans g3, A3, c3, rfl, At2.nil _ _, Nat.zero_le _⟩
    clear g3
    go_wp2
    go_ret
    exact HR.out
end Go.Proofs.YtjjfkjpkbpefpaaDoor.Vn
