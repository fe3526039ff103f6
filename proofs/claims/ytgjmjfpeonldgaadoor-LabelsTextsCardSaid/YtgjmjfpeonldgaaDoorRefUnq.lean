/- Unquote, the reference's. -/
import Derived.Test.YtgjmjfpeonldgaaDoorRefQuote
import Derived.Test.YtgjmjfpeonldgaaDoorUnq
namespace Go.Proofs.YtgjmjfpeonldgaaDoor
open Go.RowKit Go.Sort
set_option maxRecDepth 100000
set_option maxHeartbeats 40000000

theorem spell_q34 (s : ByteArray) (k : Nat) (h : k < s.size) (h34 : s[k].toNat = 34) : spellL (s.data.toList.drop k) = none := sp_no s k h (.inl h34)
theorem rUnquote_any (s : ByteArray) (w : World) (hs : s.size ≤ 68719476736) :
    Calls Tryd.prog 36 #[.string s] w fun e w' => e = .returned (uqV (unquoteL s.data.toList)) ∧ Gr w w' := by
  by_cases h0 : s.size = 0
  · have HN := Lib.hid (unq_no s (.inl h0))
    obtain rfl : s = ⟨#[]⟩ := by
      cases s with
      | mk d => exact congrArg _ (Array.eq_empty_of_size_eq_zero h0)
    clear h0 hs
    go_enter Tryd.func36, Tryd.ntmps36
    go_wp2
    go_ret3
    exact ⟨by rw [HN.out]; rfl, Gr.refl _⟩
  have hpos : 0 < s.size := by omega
  obtain ⟨n1, n2, n3⟩ := ne_facts hpos
  have f0 : (0 : Int) < (s.size : Int) := by omega
  by_cases h34 : s[0].toNat = 34
  case neg =>
    have HN := Lib.hid (unq_no s (.inr ⟨hpos, h34⟩))
    obtain ⟨q, hq⟩ : ∃ q, s[0].toNat = q := ⟨_, rfl⟩
    have g1 : ((q : Int) == 34) = false := by simp; omega
    have g2 : (q : Int) ≠ 34 := by omega
    clear h34
    go_enter Tryd.func36, Tryd.ntmps36
    go_wp2
    go_ret3
    exact ⟨by rw [HN.out]; rfl, Gr.refl _⟩
  have HU := Lib.hid (unq_yes s hpos h34)
  have hs34 : s[0].toNat = 34 := h34
  go_enter Tryd.func36, Tryd.ntmps36
  go_wp2
  clear h34 hs34
  go_loopg [5, 6] s.size (fun g v i wr => ∃ (k : Nat) (acc : List UInt8), 1 ≤ k ∧ k ≤ s.size ∧ i = .int .i64 k ∧ s.size ≤ k + g ∧ acc.length ≤ k ∧ Hid (OwnB wr w.heap.size v acc) ∧ Hid (unquoteL s.data.toList = unqL (g + 1) (s.data.toList.drop k) acc k) ∧ Bk w.heap.size w wr)
  case atStart => exact ⟨1, [], Nat.le_refl _, by omega, rfl, by omega, by simp, OwnB.nil _ _, HU, Bk.refl _ _⟩
  case round =>
    obtain ⟨k, acc, hk1, hk, rfl, hkg, hal, HO, HQ, hg⟩ := hrel
    obtain ⟨wo, rfl⟩ : ∃ wo : World, wo = wr := ⟨_, rfl⟩
    have hB : w.heap.size ≤ wo.heap.size := hg.b.size
    by_cases hlt : k < s.size
    case neg =>
      obtain rfl : k = s.size := by omega
      have HE := Lib.hid (unq_end s s.size (f := gk) (acc := acc) (Nat.le_refl _))
      go_wp2
      go_ret3
      exact ⟨by rw [HQ.out, HE.out]; rfl, hg.gr⟩
    cases gk with
    | zero => omega
    | succ gk =>
    have p0 := s[k].toNat_lt
    obtain ⟨n0, hn0⟩ : ∃ n, s[k].toNat = n := ⟨_, rfl⟩
    have fk : (k : Int) < (s.size : Int) := by omega
    have NO : spellL (s.data.toList.drop k) = none → n0 ≠ 34 → Hid (uqV (unquoteL s.data.toList) = .tuple #[.string ⟨#[]⟩, .int .i64 0, .int .i64 2]) := fun h1 h2 => Lib.hid (by rw [HQ.out, unq_none s k hlt h1, if_neg (by rw [hn0]; exact h2)]; rfl)
    by_cases h34 : n0 = 34
    · subst h34
      have HV : Hid (uqV (unquoteL s.data.toList) = .tuple #[.string ⟨acc.toArray⟩, .int .i64 ((k + 1 : Nat) : Int), .int .i64 0]) := Lib.hid (by rw [HQ.out, unq_none s k hlt (sp_no s k hlt (.inl hn0)), if_pos hn0]; rfl)
      have hcv := conv_own HO.out
      clear NO
      go_wp2
      go_ret3
      exact ⟨by rw [HV.out]; rfl, hg.gr⟩
    have h34' : ((n0 : Int) == 34) = false := by simp; omega
    cases hp : prnI n0
    · have HV := NO (sp_no s k hlt (.inr (by rw [hn0]; exact hp))) h34
      have key : decide ((n0 : Int) < 32) = true ∨ (decide ((n0 : Int) < 32) = false ∧ decide ((127 : Int) ≤ (n0 : Int)) = true) := by unfold prnI at hp; simp at hp ⊢; omega
      clear NO h34 hp
      rcases key with g1 | ⟨g1, g2⟩
      all_goals
        go_wp2
        go_ret3
        exact ⟨by rw [HV.out]; rfl, hg.gr⟩
    have l1 : decide ((n0 : Int) < 32) = false := by unfold prnI at hp; simp at hp ⊢; omega
    have l2 : decide ((127 : Int) ≤ (n0 : Int)) = false := by unfold prnI at hp; simp at hp ⊢; omega
    by_cases h92 : n0 = 92
    case neg =>
      have HS := Lib.hid (unq_some s k (f := gk + 1) (acc := acc) (sp_1 s k hlt (by rw [hn0, hp]; simp; exact h34) (by rw [hn0]; exact h92)))
      have h92' : ((n0 : Int) == 92) = false := by simp; omega
      obtain ⟨c, hc⟩ : ∃ c, s[k] = c := ⟨_, rfl⟩
      rw [hc] at HS hn0
      have HC := Lib.hid hn0
      clear NO h34 h92 hp
      go_wp2_with (at_builtin; refine wpList_appB rfl rfl (.tmp 93) (.tmp 95) (by rfl) (by rfl) (B := w.heap.size) (l := acc) (m := [c]) (HO.out.alloc _) (readsB_new _ _ _ 1 rfl (by simp [Lib.byteCells, HC.out])) (by simp) (by simp; omega) (by simp; omega) ?_; intro v2 W2 hown2 hbk2)
      go_roundg gk
      case measure => omega
      case rel => exact ⟨k + 1, acc ++ [c], by omega, by omega, by go_num, by omega, by simp; omega, hown2, Lib.hid (by rw [HQ.out, HS.out]), (hg.alloc (Nat.le_refl _) _ _).trans hbk2⟩
    subst h92
    clear h34 h34' hp
    by_cases hk1s : s.size ≤ k + 1
    · have HV := NO (sp_e1 s k hlt hn0 hk1s) (by decide)
      have t1 : decide ((k : Int) + 1 < (s.size : Int)) = false := by simp; omega
      have t3 : decide ((s.size : Int) ≤ (k : Int) + 3) = true := by simp; omega
      clear NO hk1s
      go_wp2
      go_ret3
      exact ⟨by rw [HV.out]; rfl, hg.gr⟩
    have hj1 : k + 1 < s.size := by omega
    have t1 : decide ((k : Int) + 1 < (s.size : Int)) = true := by simp; omega
    have p1 := (s[k + 1]'hj1).toNat_lt
    obtain ⟨c1, hc1⟩ : ∃ c, s[k + 1]'hj1 = c := ⟨_, rfl⟩
    obtain ⟨n1, hn1⟩ : ∃ n, c1.toNat = n := ⟨_, rfl⟩
    rw [hc1] at p1
    have HC1 := Lib.hid hn1
    by_cases hb : n1 = 92 ∨ n1 = 34
    · have HS := Lib.hid (unq_some s k (f := gk + 1) (acc := acc) (sp_2 s k hj1 hn0 (by rw [hc1, hn1]; exact hb)))
      rw [hc1] at HS
      clear NO hk1s
      rcases hb with rfl | rfl
      all_goals
        go_wp2_with (at_builtin; refine wpList_appB rfl rfl (.tmp 119) (.tmp 124) (by rfl) (by rfl) (B := w.heap.size) (l := acc) (m := [c1]) (HO.out.alloc _) (readsB_new _ _ _ 1 rfl (by simp [Lib.byteCells, HC1.out])) (by simp) (by simp; omega) (by simp; omega) ?_; intro v2 W2 hown2 hbk2)
        go_roundg gk
        case measure => omega
        case rel => exact ⟨k + 2, acc ++ [c1], by omega, by omega, by go_num, by omega, by simp; omega, hown2, Lib.hid (by rw [HQ.out, HS.out]), (hg.alloc (Nat.le_refl _) _ _).trans hbk2⟩
    have b1 : ((n1 : Int) == 92) = false := by simp; omega
    have b2 : ((n1 : Int) == 34) = false := by simp; omega
    by_cases hx : s.size ≤ k + 3 ∨ n1 ≠ 120
    · have HV := NO (sp_ex s k hj1 hn0 (by rw [hc1, hn1]; exact hb) (by rw [hc1, hn1]; exact hx)) (by decide)
      clear hb NO hk1s
      rcases hx with hx | hx
      · have t3 : decide ((s.size : Int) ≤ (k : Int) + 3) = true := by simp; omega
        clear hx
        go_wp2
        go_ret3
        exact ⟨by rw [HV.out]; rfl, hg.gr⟩
      · have b3 : ((n1 : Int) == 120) = false := by simp; omega
        have b4 : (n1 : Int) ≠ 120 := by omega
        cases t3 : decide ((s.size : Int) ≤ (k : Int) + 3)
        all_goals
          clear hx
          go_wp2
          go_ret3
          exact ⟨by rw [HV.out]; rfl, hg.gr⟩
    have hj3 : k + 3 < s.size := by omega
    have hj2 : k + 2 < s.size := Nat.lt_of_succ_lt hj3
    have t3 : decide ((s.size : Int) ≤ (k : Int) + 3) = false := by simp; omega
    obtain rfl : n1 = 120 := by omega
    clear hb hx b1 b2 hk1s
    have p2 := (s[k + 2]'hj2).toNat_lt
    have p3 := (s[k + 3]'hj3).toNat_lt
    have H := sp_h s k hj3 hn0 (by rw [hc1]; exact hn1)
    unfold hexB at H
    obtain ⟨n2, hn2⟩ : ∃ n, (s[k + 2]'hj2).toNat = n := ⟨_, rfl⟩
    obtain ⟨n3, hn3⟩ : ∃ n, (s[k + 3]'hj3).toNat = n := ⟨_, rfl⟩
    rw [hn2, hn3] at H
    rw [hn2] at p2
    rw [hn3] at p3
    have CD := Lib.hid (fun n (h : n < 256) W => rDig_any n h W)
    have X0 := hexV_bd n2
    have Y0 := hexV_bd n3
    obtain ⟨x, hx⟩ : ∃ x, hexV n2 = x := ⟨_, rfl⟩
    obtain ⟨y, hy⟩ : ∃ y, hexV n3 = y := ⟨_, rfl⟩
    rw [hx] at H X0
    rw [hy] at H Y0
    have g1 : k + 1 < s.size := hj1
    by_cases hxn : x < 0
    · rw [if_pos (.inl hxn)] at H
      have HV := NO H (by decide)
      clear NO H
      go_wp2_with (go_at_call 62; refine (CD.out _ (by assumption) _).mono ?_; rintro e w' ⟨rfl, rfl⟩)
      go_ret3
      exact ⟨by rw [HV.out]; rfl, hg.gr⟩
    by_cases hyn : y < 0
    · rw [if_pos (.inr hyn)] at H
      have HV := NO H (by decide)
      clear NO H
      go_wp2_with (go_at_call 62; refine (CD.out _ (by assumption) _).mono ?_; rintro e w' ⟨rfl, rfl⟩)
      go_ret3
      exact ⟨by rw [HV.out]; rfl, hg.gr⟩
    rw [if_neg (by omega)] at H
    obtain ⟨m2, rfl⟩ : ∃ m : Nat, x = (m : Int) := ⟨x.toNat, by omega⟩
    obtain ⟨m3, rfl⟩ : ∃ m : Nat, y = (m : Int) := ⟨y.toNat, by omega⟩
    obtain ⟨m, hm⟩ : ∃ m, 16 * m2 + m3 = m := ⟨_, rfl⟩
    rw [show (16 * (m2 : Int) + (m3 : Int)) = (m : Int) by omega] at H
    have hm2 : m < 256 := by omega
    have hz : 16 * (m2 : Int) + (m3 : Int) = (m : Int) := by omega
    have nx : decide ((m2 : Int) < 0) = false := by simp
    have ny : decide ((m3 : Int) < 0) = false := by simp
    clear hxn hyn
    cases hpm : prnI (m : Int)
    · rw [hpm] at H
      have HS := Lib.hid (unq_some s k (f := gk + 1) (acc := acc) (c := UInt8.ofNat m) (n := 4) (by rw [H]; rfl))
      have hmu : Hid ((UInt8.ofNat m).toNat = m) := Lib.hid (by simp; omega)
      have key : decide ((32 : Int) ≤ (m : Int)) = false ∨ (decide ((32 : Int) ≤ (m : Int)) = true ∧ decide ((m : Int) < 127) = false) := by unfold prnI at hpm; simp at hpm ⊢; omega
      clear NO H hm hpm
      rcases key with g2 | ⟨g2, g3⟩
      all_goals
        go_wp2_with (go_at_call 62; refine (CD.out _ (by assumption) _).mono ?_; rintro e w' ⟨rfl, rfl⟩)
        go_quiet ((go_at_call 62; exact quiet_left (CD.out _ (by assumption) _)))
        go_wp2_with (at_builtin; refine wpList_appB rfl rfl (.tmp 70) (.tmp 72) (by rfl) (by rfl) (B := w.heap.size) (l := acc) (m := [UInt8.ofNat m]) ((HO.out.drewN _).alloc _) (readsB_new _ _ _ 1 rfl (by simp only [Lib.byteCells, List.map_cons, List.map_nil, hmu.out])) (by simp) (by simp; omega) (Nat.le_trans hB (Nat.le_of_lt (by simp))) ?_; intro v2 W2 hown2 hbk2)
        go_roundg gk
        case measure => omega
        case rel => exact ⟨k + 4, acc ++ [UInt8.ofNat m], by omega, by omega, by go_num, by omega, by simp; omega, hown2, Lib.hid (by rw [HQ.out, HS.out]), ((hg.drewN _).alloc (Nat.le_refl _) _ _).trans hbk2⟩
    · rw [hpm] at H
      have HV := NO H (by decide)
      have g2 : decide ((32 : Int) ≤ (m : Int)) = true := by unfold prnI at hpm; simp at hpm ⊢; omega
      have g3 : decide ((m : Int) < 127) = true := by unfold prnI at hpm; simp at hpm ⊢; omega
      clear NO H hm hpm
      go_wp2_with (go_at_call 62; refine (CD.out _ (by assumption) _).mono ?_; rintro e w' ⟨rfl, rfl⟩)
      go_quiet ((go_at_call 62; exact quiet_left (CD.out _ (by assumption) _)))
      go_wp2
      go_ret3
      exact ⟨by rw [HV.out]; rfl, (hg.drewN _).gr⟩
end Go.Proofs.YtgjmjfpeonldgaaDoor
