/- The reference's increase, Cut. -/
import Derived.Test.YtjjfkjpkbpefpaaDoorVRef
import Derived.Test.YtjjfkjpkbpefpaaDoorVCut
namespace Go.Proofs.YtjjfkjpkbpefpaaDoor.Vn
open Go.RowKit
set_option maxRecDepth 100000
set_option maxHeartbeats 4000000
attribute [local irreducible] wpQuiet

/-- a nought, then how much it rose, as yet raw -/
def incR (v : List Nat) (k : Nat) (l : List Nat) : Prop := ∃ g : List Nat, l = 0 :: g ∧ g.map canon = ((prsL v).map gain).take k
theorem incR_0 (v : List Nat) : incR v 0 [0] := ⟨[], rfl, rfl⟩
theorem gain_cn (p : Nat × Nat) : canon (gain p) = gain p := by
  unfold gain; split
  · exact canon_idem _
  · exact subC_cn _ _
theorem incR_s {v : List Nat} {k a y z : Nat} {l : List Nat} (h : incR v k l) (ha : v[k]? = some a) (hy : v[k + 1]? = some y) (hz : canon z = gain (y, a)) : incR v (k + 1) (l ++ [z]) := by
  obtain ⟨g, rfl, e⟩ := h
  refine ⟨g ++ [z], rfl, ?_⟩
  rw [List.map_append, e, take_s (x := gain (y, a)) (by rw [List.getElem?_map, prsL_get ha hy]; rfl)]
  simp [hz]
theorem incR_e {v : List Nat} {l : List Nat} (h : incR v (v.length - 1) l) : sumL l = incL v := by
  obtain ⟨g, rfl, e⟩ := h
  have h1 : sumL (0 :: g) = g.foldl addC (canon 0) := rfl
  unfold incL
  rw [h1, ← foldl_canon, e, ← prsL_len, ← List.length_map (f := gain), List.take_length, canon_0]
theorem incR_len {v : List Nat} {k : Nat} {l : List Nat} (h : incR v k l) : l.length ≤ k + 1 := by
  obtain ⟨g, rfl, e⟩ := h
  have := congrArg List.length e
  simp at this
  simp; omega
theorem rinc_any (A : Option Addr) (cap x : Nat) (r : List Nat) (w : World) (h : FlL w A (x :: r)) (hn : r.length ≤ 1000000) :
    Calls Tryd.prog 33 #[.slice A (r.length + 1) cap] w fun e w' => e = .returned (.float .f64 (incL (x :: r))) ∧ Gr w w' := by
  obtain ⟨b, off, rfl, hcells⟩ := h (by simp)
  have HC0 : Hid (∀ W, Gr w W → ∀ i y, (x :: r)[i]? = some y → W.cell? ⟨b, off + i, none⟩ = some (.float .f64 y)) := Lib.hid fun W g i y hi => g.cell (hcells i y hi)
  have HC : Hid (∀ W, Gr w W → ∀ i y, r[i]? = some y → W.cell? ⟨b, off + (i + 1), none⟩ = some (.float .f64 y)) := Lib.hid fun W g i y hi => g.cell (hcells (i + 1) y hi)
  obtain ⟨m, hm⟩ : ∃ m, r.length = m := ⟨_, rfl⟩
  have HE : Hid (∀ l, incR (x :: r) m l → sumL l = incL (x :: r)) := Lib.hid fun l h => incR_e (by rw [← hm] at h; exact h)
  have HL : Hid (∀ k, k < m → ∃ a y, (x :: r)[k]? = some a ∧ r[k]? = some y ∧ ∀ l z, incR (x :: r) k l → canon z = gain (y, a) → incR (x :: r) (k + 1) (l ++ [z])) := Lib.hid fun k hk => by
    have h1 : (x :: r)[k]? = some ((x :: r)[k]'(by simp; omega)) := List.getElem?_eq_getElem _
    have h2 : r[k]? = some (r[k]'(by omega)) := List.getElem?_eq_getElem _
    exact ⟨_, _, h1, h2, fun l z h hz => incR_s h h1 h2 hz⟩
  rw [hm] at hn ⊢
  obtain ⟨I, hI⟩ : ∃ I : Nat → List Nat → Prop, incR (x :: r) = I := ⟨_, rfl⟩
  have HZ := Lib.hid (incR_0 (x :: r))
  have HLEN : Hid (∀ k l, I k l → l.length ≤ k + 1) := Lib.hid fun k l h => incR_len (by rw [← hI] at h; exact h)
  rw [hI] at HE HL HZ
  clear hcells h hm hI
  have CS := Lib.hid (fun A c (l : List Nat) W (h : FlL W A l) (hn : l.length ≤ 1099511627776) => rsumL_any A c l W h hn)
  go_enter Tryd.func33, Tryd.ntmps33
  go_wp2
  go_loopw [3, 4] (fun s i wr => ∃ k : Nat, k ≤ m ∧ i = .int .i64 ((k : Int) + 1) ∧ (∃ l, Hid (OwnF wr w.heap.size s l) ∧ Hid (I k l)) ∧ Hid (Gr w wr)) (fun _ i _ => m + 1 - (intOf i).toNat)
  case atStart => exact ⟨0, Nat.zero_le _, rfl, ⟨[0], Lib.hid (World.ownsRow_lit (size := 1) w #[.float .f64 0] 1 (Nat.le_refl _) (by decide) rfl), HZ⟩, Lib.hid ((Gr.refl _).alloc _ _)⟩
  case round =>
    obtain ⟨k, hk, rfl, ⟨l, HO, HI⟩, HG⟩ := hrel
    by_cases hlt : k < m
    · obtain ⟨a, y, ha, hy, hs⟩ := HL.out k hlt
      have hcell := HC.out _ HG.out k y hy
      have hcell0 := HC0.out _ HG.out k a ha
      have HS := Lib.hid (hs l)
      have hll := HLEN.out k l HI.out
      obtain ⟨c1, hc1⟩ : ∃ c, ltB y a = c := ⟨_, rfl⟩
      have HGN : Hid (gain (y, a) = if c1 then canon y else subC y a) := Lib.hid (by rw [← hc1]; rfl)
      have hn3 := lt_walk hc1
      have n1 : (0 : Int) ≤ (k : Int) + 1 := by omega
      have n2 : (k : Int) + 1 < (m : Int) + 1 := by omega
      have n4 : (k : Int) < (m : Int) + 1 := by omega
      have n5 : (0 : Int) ≤ (k : Int) := by omega
      have w3 : IntKind.i64.wrap (k : Int) = (k : Int) := by rw [IntKind.wrap_i64]; omega
      clear hy ha hs hc1
      cases c1
      · have HA : Hid (∀ n z, canon z = subC y a → ∃ v' W', (Builtin.append_ #[42, 42] 42 #[u3, .slice (some ⟨(wr.drewN n).heap.size, 0, none⟩) 1 1]).run Tryd.prog ((wr.drewN n).alloc (.cells #[.float .f64 z] 26)) = .ok v' W' ∧ OwnF W' w.heap.size v' (l ++ [z]) ∧ I (k + 1) (l ++ [z]) ∧ Gr w W') := Lib.hid fun n z hz => by
          have ho := HO.out.gr (((Gr.refl wr).drewN n).alloc #[.float .f64 z] 26)
          have gz := (HG.out.drewN n).alloc #[.float .f64 z] 26
          obtain ⟨v', W', h1, h2, h3, -⟩ := run_appF (c := 1) (m := [z]) ho (at1_one (enc := encF) (wr.drewN n) z 26) (by simp; omega) gz.size
          exact ⟨v', W', h1, h2, HS.out z HI.out (by rw [HGN.out]; exact hz), gz.grown h3 (fun k hk => (ho.lt hk).1)⟩
        go_wp2
        go_quiet (fail)
        go_upto_region 7 with fail
        go_region_law (first
          | (refine step_app2 rfl (.tmp 29) (.tmp 40) (by rfl) (by rfl) (by rfl) (by rfl) (HA.out _ _ (subV_c _ _ _)) ?_
             rintro v5 w5 ⟨ho5, hi5, hg5⟩
             have HO5 := Lib.hid ho5; have HI5 := Lib.hid hi5; have HG5 := Lib.hid hg5
             clear ho5 hi5 hg5)
          | fail)
        all_goals go_wp2
        all_goals go_roundw
        all_goals first
          | exact ⟨k + 1, by omega, by go_num, ⟨_, HO5, HI5⟩, HG5⟩
          | (simp [intOf]; omega)
      · have HA : Hid (∀ n, ∃ v' W', (Builtin.append_ #[42, 42] 42 #[u3, .slice (some ⟨(wr.drewN n).heap.size, 0, none⟩) 1 1]).run Tryd.prog ((wr.drewN n).alloc (.cells #[.float .f64 y] 26)) = .ok v' W' ∧ OwnF W' w.heap.size v' (l ++ [y]) ∧ I (k + 1) (l ++ [y]) ∧ Gr w W') := Lib.hid fun n => by
          have ho := HO.out.gr (((Gr.refl wr).drewN n).alloc #[.float .f64 y] 26)
          have gz := (HG.out.drewN n).alloc #[.float .f64 y] 26
          obtain ⟨v', W', h1, h2, h3, -⟩ := run_appF (c := 1) (m := [y]) ho (at1_one (enc := encF) (wr.drewN n) y 26) (by simp; omega) gz.size
          exact ⟨v', W', h1, h2, HS.out y HI.out (by rw [HGN.out]; rfl), gz.grown h3 (fun k hk => (ho.lt hk).1)⟩
        go_wp2
        go_quiet (fail)
        go_wp2_with (first
          | (at_builtin
             refine wpList_app2 rfl (.tmp 22) (.tmp 27) (by rfl) (by rfl) (by rfl) (by rfl) (HA.out _) ?_
             rintro v5 w5 ⟨ho5, hi5, hg5⟩
             have HO5 := Lib.hid ho5; have HI5 := Lib.hid hi5; have HG5 := Lib.hid hg5
             clear ho5 hi5 hg5)
          | fail)
        go_roundw
        case rel => exact ⟨k + 1, by omega, by go_num, ⟨_, HO5, HI5⟩, HG5⟩
        case measure => simp [intOf]; omega
    · obtain rfl : k = m := by omega
      have n3 : ¬ (k : Int) + 1 < (k : Int) + 1 := by omega
      obtain ⟨A', c', rfl, hat, -, -, -, -⟩ := HO.out.form
      have hll := HLEN.out k l HI.out
      have C2 := Lib.hid (CS.out A' c' l wr hat (by omega))
      rw [HE.out l HI.out] at C2
      clear hat HO
      go_wp2_with (first | (go_at_call 31; refine C2.out.mono ?_; rintro e w' ⟨rfl, n5, rfl⟩) | fail)
      go_ret
      exact ⟨rfl, HG.out.drewN _⟩
end Go.Proofs.YtjjfkjpkbpefpaaDoor.Vn
