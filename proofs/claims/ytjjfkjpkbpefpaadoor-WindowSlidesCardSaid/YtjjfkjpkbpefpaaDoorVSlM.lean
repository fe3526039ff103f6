/- Slide's windows: where they begin and end; what memory holds on the way. -/
import Derived.Test.YtjjfkjpkbpefpaaDoorVRsl
namespace Go.Proofs.YtjjfkjpkbpefpaaDoor.Vn
open Go.RowKit
set_option maxRecDepth 100000
set_option maxHeartbeats 4000000

/-- places of a row that rises, by their times -/
theorem cnt_lt {L : List Sm} (h : AscT L) {f : Int} {k : Nat} {q : Sm} (hq : L[k]? = some q) : q.1 ≤ f ↔ k < cntT L f := by
  have hk := (List.getElem?_eq_some_iff.1 hq).1
  constructor
  · intro hle
    rcases Nat.lt_or_ge k (cntT L f) with g | g
    · exact g
    · exfalso
      have h1 := asc_drop h f
      have h2 : q ∈ L.drop (cntT L f) := by
        refine List.mem_of_getElem? (i := k - cntT L f) ?_
        rw [List.getElem?_drop, show cntT L f + (k - cntT L f) = k by omega]; exact hq
      rw [h1] at h2
      have := (List.mem_filter.1 h2).2
      simp at this; omega
  · intro hlt
    have h1 := asc_take h f
    have h2 : q ∈ L.take (cntT L f) := by
      refine List.mem_of_getElem? (i := k) ?_
      rw [List.getElem?_take, if_pos hlt]; exact hq
    rw [h1] at h2
    simpa using (List.mem_filter.1 h2).2
theorem cnt_mono (L : List Sm) {f t : Int} (h : f ≤ t) : cntT L f ≤ cntT L t := by
  unfold cntT
  exact List.countP_mono_left fun q _ hq => by simp at hq ⊢; omega
/-- a window within what was cut out -/
theorem str_in {l : List Sm} {F T f t : Int} (h1 : F ≤ f) (h2 : t ≤ T) : strL (strL l F T) f t = strL l f t := by
  unfold strL
  rw [List.filter_filter]
  refine List.filter_congr fun q _ => ?_
  unfold strP
  by_cases g1 : f < q.1
  · by_cases g2 : q.1 ≤ t
    · rw [decide_eq_true g1, decide_eq_true g2, decide_eq_true (by omega : F < q.1), decide_eq_true (by omega : q.1 ≤ T)]; rfl
    · rw [decide_eq_false g2]; simp
  · rw [decide_eq_false g1]; simp
/-- the values of a window -/
theorem win_vals {l : List Sm} {F T f t : Int} (ha : AscT l) (h1 : F ≤ f) (h2 : t ≤ T) : vals (strL l f t) = ((vals (strL l F T)).take (cntT (strL l F T) t)).drop (cntT (strL l F T) f) := by
  have e : cutL (strL l F T) f t = strL l f t := by rw [asc_cut (show AscT (strL l F T) from ha.filt _), str_in h1 h2]
  rw [← e]
  unfold cutL vals
  rw [List.map_drop, List.map_take]
/-- rows on the way: the first i told, the others nought -/
def fillV (V : Nat → List Nat) (n i : Nat) : List Nat := V i ++ List.replicate (n - i) 0
def fillH (H : Nat → List Bool) (n i : Nat) : List Bool := H i ++ List.replicate (n - i) false
theorem fill_set {α : Type} {V : Nat → List α} {n i : Nat} {z x : α} (hl : (V i).length = i) (hi : i < n) (hs : V (i + 1) = V i ++ [x]) : (V i ++ List.replicate (n - i) z).set i x = V (i + 1) ++ List.replicate (n - (i + 1)) z := by
  rw [List.set_append_right _ _ (by omega), hl, Nat.sub_self, hs]
  obtain ⟨d, hd⟩ : ∃ d, n - i = d + 1 := ⟨n - i - 1, by omega⟩
  rw [hd, show n - (i + 1) = d by omega, List.replicate_succ]
  simp
/-- what memory holds at a label: i points told; L: what was cut out; G, R, C: the blocks of the grid, the result, the column; NV, NH: the column's rows -/
structure SlS (w0 : World) (L : List Sm) (A1 A3 : Option Addr) (s e p : Int) (G R C NV NH n : Nat) (V : List Nat) (H : List Bool) (W : World) : Prop where
  gr : Gr w0 W
  g0 : W.cell? ⟨G, 0, none⟩ = some (.int .i64 s)
  g2 : W.cell? ⟨G, 2, none⟩ = some (.int .i64 p)
  cb : C < W.heap.size ∧ W.heap[C]? = some (.cells #[.slice (some ⟨NV, 0, none⟩) n n, .slice (some ⟨NH, 0, none⟩) n n] 45 (0, 0))
  c0 : W.cell? ⟨C, 0, none⟩ = some (.slice (some ⟨NV, 0, none⟩) n n)
  c1 : W.cell? ⟨C, 1, none⟩ = some (.slice (some ⟨NH, 0, none⟩) n n)
  r : W.heap[R]? = some (.cells #[.slice none 0 0, .slice none 0 0] 45 (0, 0))
  rv : OwnF W w0.heap.size (.slice (some ⟨NV, 0, none⟩) n n) V
  rh : OwnB W w0.heap.size (.slice (some ⟨NH, 0, none⟩) n n) H
  lv : V.length = n
  lh : H.length = n
  v : FlL W A3 (vals L)
  d : G ≠ NV ∧ G ≠ NH ∧ C ≠ NV ∧ C ≠ NH ∧ R ≠ NV ∧ R ≠ NH ∧ NV ≠ NH ∧ w0.heap.size ≤ NV ∧ w0.heap.size ≤ NH ∧ R < W.heap.size ∧ w0.heap.size ≤ R
  dv : ∀ b o, A3 = some ⟨b, o, none⟩ → b ≠ NV ∧ b ≠ NH
theorem SlS.next {w0 W W' : World} {L : List Sm} {A1 A3 : Option Addr} {s e p : Int} {G R C NV NH n : Nat} {V : List Nat} {H : List Bool} (h : SlS w0 L A1 A3 s e p G R C NV NH n V H W) (g : Gr W W') : SlS w0 L A1 A3 s e p G R C NV NH n V H W' :=
  ⟨h.gr.trans g, g.cell h.g0, g.cell h.g2, ⟨Nat.lt_of_lt_of_le h.cb.1 g.size, (g.b.block C h.cb.1).trans h.cb.2⟩, g.cell h.c0, g.cell h.c1, (g.b.block R h.d.2.2.2.2.2.2.2.2.2.1).trans h.r, h.rv.gr g, h.rh.gr g, h.lv, h.lh, h.v.gr g, by
    obtain ⟨d1, d2, d3, d4, d5, d6, d7, d8, d9, d10, d11⟩ := h.d
    exact ⟨d1, d2, d3, d4, d5, d6, d7, d8, d9, Nat.lt_of_lt_of_le d10 g.size, d11⟩, h.dv⟩
theorem FlL.far {W W' : World} {A : Option Addr} {l : List Nat} {N : Nat} (h : FlL W A l) (g : W.grownBy W' (some N)) (hd : ∀ b o, A = some ⟨b, o, none⟩ → b ≠ N) : FlL W' A l := fun h0 => by
  obtain ⟨b, o, e, hc⟩ := h h0
  exact ⟨b, o, e, fun i x hx => g.cell (hc i x hx) (by have := hd b o e; simpa using this)⟩
/-- a value laid into the column -/
theorem SlS.putV {w0 W : World} {L : List Sm} {A1 A3 : Option Addr} {s e p : Int} {G R C NV NH n : Nat} {V : List Nat} {H : List Bool} (h : SlS w0 L A1 A3 s e p G R C NV NH n V H W) (i x : Nat) : SlS w0 L A1 A3 s e p G R C NV NH n (V.set i x) H (W.setCell ⟨NV, i, none⟩ (.float .f64 x)) := by
  obtain ⟨d1, d2, d3, d4, d5, d6, d7, d8, d9, d10, d11⟩ := h.d
  have hst := h.rv.stored h.lv.symm i x
  have gg := hst.2
  refine ⟨h.gr.setCell d8 _, gg.cell h.g0 (by simpa using d1), gg.cell h.g2 (by simpa using d1), ⟨Nat.lt_of_lt_of_le h.cb.1 gg.size, (gg.block C h.cb.1 (by simpa using d3)).trans h.cb.2⟩, gg.cell h.c0 (by simpa using d3), gg.cell h.c1 (by simpa using d3), ?_, hst.1, h.rh.kept gg (.inr (by simp [Value.ownBlock]; omega)), by simpa using h.lv, h.lh, h.v.far gg (fun b o hb => (h.dv b o hb).1), ⟨d1, d2, d3, d4, d5, d6, d7, d8, d9, Nat.lt_of_lt_of_le d10 gg.size, d11⟩, h.dv⟩
  exact (gg.block R d10 (by simpa using d5)).trans h.r
theorem SlS.putH {w0 W : World} {L : List Sm} {A1 A3 : Option Addr} {s e p : Int} {G R C NV NH n : Nat} {V : List Nat} {H : List Bool} (h : SlS w0 L A1 A3 s e p G R C NV NH n V H W) (i : Nat) (x : Bool) : SlS w0 L A1 A3 s e p G R C NV NH n V (H.set i x) (W.setCell ⟨NH, i, none⟩ (.bool x)) := by
  obtain ⟨d1, d2, d3, d4, d5, d6, d7, d8, d9, d10, d11⟩ := h.d
  have hst := h.rh.stored h.lh.symm i x
  have gg := hst.2
  refine ⟨h.gr.setCell d9 _, gg.cell h.g0 (by simpa using d2), gg.cell h.g2 (by simpa using d2), ⟨Nat.lt_of_lt_of_le h.cb.1 gg.size, (gg.block C h.cb.1 (by simpa using d4)).trans h.cb.2⟩, gg.cell h.c0 (by simpa using d4), gg.cell h.c1 (by simpa using d4), ?_, h.rv.kept gg (.inr (by simp [Value.ownBlock]; omega)), hst.1, h.lv, by simpa using h.lh, h.v.far gg (fun b o hb => (h.dv b o hb).2), ⟨d1, d2, d3, d4, d5, d6, d7, d8, d9, Nat.lt_of_lt_of_le d10 gg.size, d11⟩, h.dv⟩
  exact (gg.block R d10 (by simpa using d6)).trans h.r
theorem values_any3 (A : Option Addr) (c : Nat) (l : List Sm) (w : World) (h : At2 encP w A l) (hl : l.length ≤ 1099511627776) :
    Calls Tryd.prog 28 #[.slice A l.length c] w fun E w' => E = .returned (.slice (some ⟨w.heap.size, 0, none⟩) l.length l.length) ∧ FlL w' (some ⟨w.heap.size, 0, none⟩) (vals l) ∧ Gr w w' := by
  have hmk := run_make_row' (P := Tryd.prog) 42 26 (.float .f64 0) 8 Tryd.underlying42 info_float rfl .i64 .i64 l.length (by omega) (by omega)
  obtain ⟨n, hn⟩ : ∃ n, l.length = n := ⟨_, rfl⟩
  have HM := Lib.hid (own1_made (enc := encF) (T := 26) (B := w.heap.size) w 0 n (Nat.le_refl _) (by unfold maxLen; omega))
  obtain ⟨W0, hW0, g0, -⟩ := fresh w (madeCells #[encF 0] n) 26
  have HW0 := Lib.hid hW0; have G0 := Lib.hid g0
  rw [hW0] at HM
  have HAT := Lib.hid h
  have HL : Hid (∀ k, k < n → ∃ q, l[k]? = some q) := Lib.hid fun k hk => ⟨_, List.getElem?_eq_getElem (by omega)⟩
  have H0 := Lib.hid (filled_0 l); have HE := Lib.hid (filled_e l)
  have HS : Hid (∀ k q, l[k]? = some q → (filled l k).set k q.2 = filled l (k + 1)) := Lib.hid fun k q => filled_s
  have HLEN : Hid (∀ k, k ≤ n → (filled l k).length = n) := Lib.hid fun k hk => by rw [filled_len (by omega), hn]
  have HVL : Hid ((vals l).length = n) := Lib.hid (by rw [vals_len, hn])
  rw [hn] at hmk hl H0 HE ⊢
  have HPOST : Hid (∀ W, Gr w W → OwnF W w.heap.size (.slice (some ⟨w.heap.size, 0, none⟩) n n) (vals l) → FlL W (some ⟨w.heap.size, 0, none⟩) (vals l)) := Lib.hid fun W g ho => by
    obtain ⟨A', c', hv', hat, -, -, -, -⟩ := ho.form
    simp only [Value.slice.injEq] at hv'
    rw [hv'.1]; exact hat
  clear hW0 g0 h hn
  go_enter Tryd.func28, Tryd.ntmps28
  go_wp2
  go_loopw [11] (fun i wr => ∃ k : Nat, k ≤ n ∧ i = .int .i64 k ∧ Hid (OwnF wr w.heap.size (.slice (some ⟨w.heap.size, 0, none⟩) n n) (filled l k)) ∧ Hid (Gr w wr)) (fun i _ => n - (intOf i).toNat)
  case atStart => exact ⟨0, Nat.zero_le _, rfl, Lib.hid (by rw [H0.out]; exact HW0.out ▸ HM.out), Lib.hid (HW0.out ▸ G0.out)⟩
  case round =>
    obtain ⟨k, hk, rfl, HO, HG⟩ := hrel
    by_cases hlt : k < n
    · obtain ⟨q, hq⟩ := HL.out k hlt
      obtain ⟨b, o, rfl, hcells⟩ := (HAT.out.gr HG.out) (by have := (List.getElem?_eq_some_iff.1 hq).1; omega)
      obtain ⟨d1, d2⟩ := hcells k q hq _ _ rfl
      have HLS := Lib.hid (HS.out k q hq)
      obtain ⟨X, hX, g0, hb⟩ := fresh wr #[.int .i64 q.1, .float .f64 q.2] 34
      have b0 := hb 0 _ rfl
      have b1 := hb 1 (.float .f64 q.2) rfl
      have hoX := HO.out.gr g0
      have hlen := HLEN.out k hk
      obtain ⟨c1, c2⟩ := hoX.cellAt hlen.symm (j := k) (by omega)
      have c1' : ∃ u, (filled l k)[k]'(by omega) = u := ⟨_, rfl⟩
      obtain ⟨u, hu⟩ := c1'
      rw [hu] at c1
      unfold encF at c1
      have hst := hoX.stored hlen.symm k q.2
      rw [HLS.out] at hst
      have HST := Lib.hid hst
      have HX := Lib.hid hX; have G0 := Lib.hid (HG.out.trans g0)
      obtain ⟨qt, qv⟩ := q
      simp only at d1 d2 HLS b0 b1 HX HST
      clear hq hcells hX g0 hb hoX hlen hu hst
      go_upto_region 5 with fail
      rw [HX.out]
      clear d1 d2
      go_wp2_with fail
      go_roundw
      case rel => exact ⟨k + 1, by omega, by go_num, Lib.hid HST.out.1, Lib.hid (G0.out.grown HST.out.2 (fun k hk => by cases hk; exact Nat.le_refl _))⟩
      case measure => simp [intOf]; omega
    · obtain rfl : k = n := by omega
      have HF := Lib.hid (HPOST.out wr HG.out (by have := HO.out; rwa [HE.out] at this))
      have n3 : ¬ (k : Int) < (k : Int) := by omega
      clear HO
      go_wp2
      go_ret
      exact ⟨rfl, HF.out, HG.out⟩
end Go.Proofs.YtjjfkjpkbpefpaaDoor.Vn
