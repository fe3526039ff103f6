/- Columns: Same. -/
import Derived.Test.YtjjfkjpkbpefpaaDoorVRef
namespace Go.Proofs.YtjjfkjpkbpefpaaDoor.Vn
open Go.RowKit
set_option maxRecDepth 100000
set_option maxHeartbeats 4000000
attribute [local irreducible] wpQuiet

theorem colSame_any (A1 A2 A3 A4 : Option Addr) (c1 c2 c3 c4 : Nat) (V V' : List Nat) (H : List Bool) (w : World) (ht : Tab w) (h1 : FlL w A1 V) (h2 : At1 encB w A2 H) (h3 : FlL w A3 V') (h4 : At1 encB w A4 H)
    (hv : V'.length = V.length) (hs : ∀ (i a b : Nat), V[i]? = some a → V'[i]? = some b → sameB a b = true) (hn : V.length ≤ 1000000) (hm : H.length ≤ 1000000) :
    Calls Tryd.prog 25 #[.agg #[.slice A1 V.length c1, .slice A2 H.length c2], .agg #[.slice A3 V.length c3, .slice A4 H.length c4]] w fun e w' => e = .returned (.bool true) ∧ Gr w w' := by
  obtain ⟨X1, hX1, g1, b1⟩ := fresh w #[.slice A1 V.length c1, .slice A2 H.length c2] 45
  obtain ⟨X2, hX2, g2, b2⟩ := fresh X1 #[.slice A3 V.length c3, .slice A4 H.length c4] 45
  have p0 := g2.cell (b1 0 _ rfl)
  have p1 := g2.cell (b1 1 (.slice A2 H.length c2) rfl)
  have p2 := b2 0 _ rfl
  have p3 := b2 1 (.slice A4 H.length c4) rfl
  have hsz : X1.heap.size = w.heap.size + 1 := by rw [← hX1]; simp
  rw [hsz] at p2 p3
  have G := g1.trans g2
  have H1 := Lib.hid (h1.gr G); have H2 := Lib.hid (h2.gr G); have H3 := Lib.hid (h3.gr G); have H4 := Lib.hid (h4.gr G)
  have HT := Lib.hid (ht.gv G)
  have HG := Lib.hid G
  have HX1 := Lib.hid hX1; have HX2 := Lib.hid hX2; have HSZ := Lib.hid hsz
  have HS := Lib.hid hs
  have HVL := Lib.hid hv
  obtain ⟨n, hnn⟩ : ∃ n, V.length = n := ⟨_, rfl⟩
  obtain ⟨m, hmm⟩ : ∃ m, H.length = m := ⟨_, rfl⟩
  rw [hnn] at p0 p2 hn HVL
  rw [hmm] at p1 p3 hm
  have HNN := Lib.hid hnn; have HMM := Lib.hid hmm
  rw [hnn, hmm] at HX1 HX2 ⊢
  clear h1 h2 h3 h4 ht hv hs hX1 hX2 g1 g2 b1 b2 G hsz hnn hmm
  go_enter Tryd.func25, Tryd.ntmps25
  go_upto_region 1 with fail
  rw [HX1.out, HX2.out]
  go_wp2
  go_loopw [28] (fun i9 wr => ∃ k : Nat, k ≤ m ∧ i9 = .int .i64 k ∧ ∃ d, wr = X2.drewN d) (fun i9 _ => m - (intOf i9).toNat)
  case atStart => exact ⟨0, by omega, rfl, 0, rfl⟩
  case round =>
    obtain ⟨k, hk, rfl, d, rfl⟩ := hrel
    by_cases hlt : k < m
    · obtain ⟨x, hx⟩ : ∃ x, H[k]? = some x := ⟨_, List.getElem?_eq_getElem (by rw [HMM.out]; exact hlt)⟩
      obtain ⟨b, o, rfl, hc⟩ := H2.out (by rw [HMM.out]; omega)
      obtain ⟨b', o', rfl, hc'⟩ := H4.out (by rw [HMM.out]; omega)
      have d1 := hc k x hx
      have d2 := hc' k x hx
      unfold encB at d1 d2
      have m1 : (k : Int) < (m : Int) := by omega
      have m2 : (0 : Int) ≤ (k : Int) := by omega
      clear hx hc hc'
      go_wp2
      go_roundw
      case rel => exact ⟨k + 1, by omega, by go_num, _, rfl⟩
      case measure => simp [intOf]; omega
    · obtain rfl : k = m := by omega
      have n3 : ¬ (k : Int) < (k : Int) := by omega
      clear hlt hk
      go_wp2
      go_loopw [44] (fun i9 wr => ∃ k : Nat, k ≤ n ∧ i9 = .int .i64 k ∧ ∃ d, wr = X2.drewN d) (fun i9 _ => n - (intOf i9).toNat)
      case atStart => exact ⟨0, by omega, rfl, _, rfl⟩
      case round =>
        obtain ⟨j, hj, rfl, d', rfl⟩ := hrel
        by_cases hlt : j < n
        · obtain ⟨x, hx⟩ : ∃ x, V[j]? = some x := ⟨_, List.getElem?_eq_getElem (by rw [HNN.out]; exact hlt)⟩
          obtain ⟨y, hy⟩ : ∃ y, V'[j]? = some y := ⟨_, List.getElem?_eq_getElem (by rw [HVL.out]; exact hlt)⟩
          obtain ⟨b, o, rfl, hc⟩ := H1.out (by rw [HNN.out]; omega)
          obtain ⟨b', o', rfl, hc'⟩ := H3.out (by rw [HVL.out]; omega)
          have d1 := hc j x hx
          have d2 := hc' j y hy
          unfold encF at d1 d2
          have CS := Lib.hid (fun e => same_any x y (X2.drewN e) (HT.out.drewN e))
          rw [HS.out j x y hx hy] at CS
          have m1 : (j : Int) < (n : Int) := by omega
          have m2 : (0 : Int) ≤ (j : Int) := by omega
          clear hx hy hc hc'
          go_wp2_with (first | (go_at_call 46; refine (CS.out _).mono ?_; rintro e w' ⟨rfl, rfl⟩) | fail)
          go_roundw
          case rel => exact ⟨j + 1, by omega, by go_num, _, rfl⟩
          case measure => simp [intOf]; omega
        · obtain rfl : j = n := by omega
          have n4 : ¬ (j : Int) < (j : Int) := by omega
          clear hlt hj
          go_wp2
          go_ret
          exact ⟨rfl, HG.out.drewN _⟩
/-- a new block reads as a row -/
theorem blk_at {α : Type} {enc : α → Value} (W : World) (l : List α) (t : TypeId) : At1 enc (W.alloc (.cells (l.map enc).toArray t)) (some ⟨W.heap.size, 0, none⟩) l := fun _ => ⟨W.heap.size, 0, rfl, fun i x hx => by
  rw [World.cell?_alloc_at _ _ _ _ (by simp)]
  simp [hx]⟩
/-- two columns, newly laid, side by side -/
theorem cols_any (W : World) (ht : Tab W) (V V' : List Nat) (H : List Bool) (hv : V'.length = V.length) (hs : ∀ (i a b : Nat), V[i]? = some a → V'[i]? = some b → sameB a b = true) (hn : V.length ≤ 1000000) (hm : H.length ≤ 1000000) :
    Calls Tryd.prog 25 #[.agg #[.slice (some ⟨W.heap.size, 0, none⟩) V.length V.length, .slice (some ⟨W.heap.size + 1, 0, none⟩) H.length H.length], .agg #[.slice (some ⟨W.heap.size + 2, 0, none⟩) V.length V.length, .slice (some ⟨W.heap.size + 3, 0, none⟩) H.length H.length]]
      ((((W.alloc (.cells (V.map encF).toArray 26)).alloc (.cells (H.map encB).toArray 4)).alloc (.cells (V'.map encF).toArray 26)).alloc (.cells (H.map encB).toArray 4))
      fun e w' => e = .returned (.bool true) ∧ Gr W w' := by
  have a1 := blk_at (enc := encF) W V 26
  obtain ⟨W1, hW1⟩ : ∃ W1, W.alloc (.cells (V.map encF).toArray 26) = W1 := ⟨_, rfl⟩
  have s1 : W1.heap.size = W.heap.size + 1 := by rw [← hW1]; simp
  have g1 : Gr W W1 := hW1 ▸ (Gr.refl W).alloc _ _
  rw [hW1] at a1 ⊢
  have a2 := blk_at (enc := encB) W1 H 4
  obtain ⟨W2, hW2⟩ : ∃ W2, W1.alloc (.cells (H.map encB).toArray 4) = W2 := ⟨_, rfl⟩
  have s2 : W2.heap.size = W.heap.size + 2 := by rw [← hW2]; simp; omega
  have g2 : Gr W1 W2 := hW2 ▸ (Gr.refl W1).alloc _ _
  rw [hW2] at a2 ⊢
  have a3 := blk_at (enc := encF) W2 V' 26
  obtain ⟨W3, hW3⟩ : ∃ W3, W2.alloc (.cells (V'.map encF).toArray 26) = W3 := ⟨_, rfl⟩
  have s3 : W3.heap.size = W.heap.size + 3 := by rw [← hW3]; simp; omega
  have g3 : Gr W2 W3 := hW3 ▸ (Gr.refl W2).alloc _ _
  rw [hW3] at a3 ⊢
  have a4 := blk_at (enc := encB) W3 H 4
  obtain ⟨W4, hW4⟩ : ∃ W4, W3.alloc (.cells (H.map encB).toArray 4) = W4 := ⟨_, rfl⟩
  have g4 : Gr W3 W4 := hW4 ▸ (Gr.refl W3).alloc _ _
  rw [hW4] at a4 ⊢
  rw [s1] at a2
  rw [s2] at a3
  rw [s3] at a4
  have G := ((g1.trans g2).trans g3).trans g4
  refine (colSame_any _ _ _ _ V.length H.length V.length H.length V V' H W4 (ht.gv G) (a1.gr ((g2.trans g3).trans g4)) (a2.gr (g3.trans g4)) (a3.gr g4) a4 hv hs hn hm).mono ?_
  rintro e w' ⟨he, hg⟩
  exact ⟨he, G.trans hg⟩
end Go.Proofs.YtjjfkjpkbpefpaaDoor.Vn
