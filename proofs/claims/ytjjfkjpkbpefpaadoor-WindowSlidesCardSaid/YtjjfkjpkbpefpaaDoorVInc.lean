/- The window's increase. -/
import Derived.Test.YtjjfkjpkbpefpaaDoorVTail
namespace Go.Proofs.YtjjfkjpkbpefpaaDoor.Vn
open Go.RowKit
set_option maxRecDepth 100000
set_option maxHeartbeats 4000000

theorem two_at (W : World) (a b : Nat) : FlL (W.alloc (.cells #[.float .f64 a, .float .f64 b] 26)) (some ⟨W.heap.size, 0, none⟩) [a, b] := fun _ => ⟨_, 0, rfl, fun i y hi => by
  rw [World.cell?_alloc_at _ _ _ _ (by simp)]
  match i, hi with
  | 0, hi => simp at hi; subst hi; rfl
  | 1, hi => simp at hi; subst hi; rfl⟩
theorem sum_two (W : World) (ht : Tab W) (s g : Nat) (hs : canon s = s) :
    Calls Tryd.prog 47 #[.slice (some ⟨W.heap.size, 0, none⟩) 2 2] (W.alloc (.cells #[.float .f64 s, .float .f64 g] 26)) fun e w' => e = .returned (.float .f64 (addC s g)) ∧ ∃ n, w' = (W.alloc (.cells #[.float .f64 s, .float .f64 g] 26)).drewN n := by
  have h := sumP_any (some ⟨W.heap.size, 0, none⟩) 2 [s, g] _ (ht.gv ((Gr.refl W).alloc #[.float .f64 s, .float .f64 g] 26)) (two_at W s g) (by simp) (by simp)
  have e : sumL [s, g] = addC s g := by unfold sumL; simp [hs]
  rw [e] at h
  exact h
/-- how much it rose, step by step -/
def incK (v : List Nat) (k : Nat) : Nat := (((prsL v).map gain).take k).foldl addC 0
theorem incK_s {v : List Nat} {k a y : Nat} (ha : v[k]? = some a) (hy : v[k + 1]? = some y) : incK v (k + 1) = addC (incK v k) (gain (y, a)) := by
  unfold incK
  exact foldl_s _ _ (by rw [List.getElem?_map, prsL_get ha hy]; rfl)
theorem incK_e (v : List Nat) : incK v (v.length - 1) = incL v := by
  unfold incK incL
  rw [← prsL_len, ← List.length_map (f := gain), List.take_length]
theorem incK_cn (v : List Nat) (k : Nat) : canon (incK v k) = incK v k := foldl_cn _ _ canon_0
theorem increase_any (A : Option Addr) (cap x : Nat) (r : List Nat) (w : World) (ht : Tab w) (h : FlL w A (x :: r)) (hc : r.length + 1 ≤ cap) (hn : r.length ≤ 1099511627776) :
    Calls Tryd.prog 49 #[.slice A (r.length + 1) cap] w fun e w' => e = .returned (.float .f64 (incL (x :: r))) ∧ Gr w w' := by
  obtain ⟨b, off, rfl, hcells⟩ := h (by simp)
  obtain ⟨c0, -⟩ := tail_cells hcells
  have HC : Hid (∀ W, Gr w W → ∀ i y, r[i]? = some y → W.cell? ⟨b, off + 1 + i, none⟩ = some (.float .f64 y)) := Lib.hid fun W g i y hi => g.cell ((tail_cells hcells).2.out i y hi)
  have HC0 : Hid (∀ W, Gr w W → ∀ i y, (x :: r)[i]? = some y → W.cell? ⟨b, off + i, none⟩ = some (.float .f64 y)) := Lib.hid fun W g i y hi => g.cell (hcells i y hi)
  obtain ⟨m, hm⟩ : ∃ m, r.length = m := ⟨_, rfl⟩
  have HE : Hid (incK (x :: r) m = incL (x :: r)) := Lib.hid (by rw [← incK_e, ← hm]; rfl)
  have HL : Hid (∀ k, k < m → ∃ a y, (x :: r)[k]? = some a ∧ r[k]? = some y ∧ incK (x :: r) (k + 1) = addC (incK (x :: r) k) (gain (y, a))) := Lib.hid fun k hk => by
    have h1 : (x :: r)[k]? = some ((x :: r)[k]'(by simp; omega)) := List.getElem?_eq_getElem _
    have h2 : r[k]? = some (r[k]'(by omega)) := List.getElem?_eq_getElem _
    exact ⟨_, _, h1, h2, incK_s h1 h2⟩
  have HN : Hid (∀ k, canon (incK (x :: r) k) = incK (x :: r) k) := Lib.hid (incK_cn _)
  rw [hm] at hc hn ⊢
  have HT := Lib.hid ht
  have hZ : incK (x :: r) 0 = 0 := rfl
  obtain ⟨F, hF⟩ : ∃ F : Nat → Nat, incK (x :: r) = F := ⟨_, rfl⟩
  rw [hF] at HE HL HN hZ
  have HZ := Lib.hid hZ
  clear hcells h hm ht hZ hF
  by_cases h1 : cap = 1
  · obtain rfl : m = 0 := by omega
    subst h1
    have HE0 : Hid (incL (x :: r) = 0) := Lib.hid (by rw [← HE.out, HZ.out])
    clear hc hn
    rw [HE0.out]
    go_enter Tryd.func49, Tryd.ntmps49
    go_wp2
    refine wp_loop_rounds 1 ?_
    rw [rounds_succ]
    go_wp2
    go_ret
    exact ⟨rfl, Gr.refl _⟩
  · have h2 : 1 < cap := by omega
    clear h1
    go_enter Tryd.func49, Tryd.ntmps49
    go_wp2
    go_loopw [3, 10] (fun s i wr => ∃ k : Nat, k ≤ m ∧ i = .int .i64 k ∧ s = .float .f64 (F k) ∧ Hid (Gr w wr)) (fun _ i _ => m - (intOf i).toNat)
    case atStart => exact ⟨0, Nat.zero_le _, rfl, by rw [HZ.out], Lib.hid (Gr.refl _)⟩
    case round =>
      obtain ⟨k, hk, rfl, rfl, HG⟩ := hrel
      by_cases hlt : k < m
      · obtain ⟨a, y, ha, hy, hs⟩ := HL.out k hlt
        have hcell := HC.out wr HG.out k y hy
        have hcell0 := HC0.out wr HG.out k a ha
        have hcs := HN.out k
        have HY := Lib.hid hs
        obtain ⟨f, hf⟩ : ∃ f, F k = f := ⟨_, rfl⟩
        rw [hf] at HY hcs ⊢
        obtain ⟨c1, hc1⟩ : ∃ c, ltB y a = c := ⟨_, rfl⟩
        have hlw := lt_walk hc1
        have HGN : Hid (gain (y, a) = if c1 then canon y else subC y a) := Lib.hid (by rw [← hc1]; rfl)
        have CS := Lib.hid (fun n g => sum_two (wr.drewN n) ((HT.out.gv HG.out).drewN n) f g hcs)
        have HG2 := Lib.hid (fun n g => ((HG.out.drewN n).alloc #[.float .f64 f, .float .f64 g] 26))
        clear hy ha hs hf hc1 hcs
        cases c1
        all_goals
          go_wp2_with (first | (go_at_call 47; refine (CS.out _ _).mono ?_; rintro e w' ⟨rfl, n5, rfl⟩) | fail)
          go_roundw
          case rel => exact ⟨k + 1, by omega, by go_num, by rw [HY.out, HGN.out]; first | (rw [addC_r _ (subV_c _ _ _)]; rfl) | (rw [addC_r f (rfl : canon y = canon y)]; rfl), Lib.hid ((HG2.out _ _).drewN _)⟩
          case measure => simp [intOf]; omega
      · obtain rfl : k = m := by omega
        have HEE := HE.out
        rw [HEE]
        go_wp2
        go_ret
        exact ⟨rfl, HG.out⟩
end Go.Proofs.YtjjfkjpkbpefpaaDoor.Vn
