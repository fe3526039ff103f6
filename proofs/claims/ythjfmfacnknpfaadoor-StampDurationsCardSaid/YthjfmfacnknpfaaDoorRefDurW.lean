/- The reference's Duration: the walk. -/
import Derived.Test.YthjfmfacnknpfaaDoorRefMath
namespace Go.Proofs.YthjfmfacnknpfaaDoor
open Go.RowKit
set_option maxRecDepth 100000
set_option maxHeartbeats 4000000

/-- what holds at the head of the outer loop -/
def OutR (s : ByteArray) (i nx T : Nat) (b : Bool) (t : Nat) : Prop :=
  i ≤ s.size ∧ nx ≤ 5 ∧ Sum2 T b t ∧ durO s.data.toList = (partsE (s.data.toList.drop i) nx).map (T + ·)
/-- and of the inner one -/
def InR (s : ByteArray) (i nx T : Nat) (b0 : Bool) (p k n C : Nat) (b : Bool) : Prop :=
  i ≤ p ∧ p ≤ s.size ∧ k = p - i ∧ Num2 b0 C b n ∧ ((k = 0 ∧ C = 0) ∨ (1 ≤ k ∧ durO s.data.toList = (partsD C (s.data.toList.drop p) nx).map (T + ·)))
def DurPost2 (s : ByteArray) (w : World) (e : Ending) (w' : World) : Prop := e = .returned (.tuple #[.int .i64 (resV (durO s.data.toList)), .int .i64 (resE (durO s.data.toList))]) ∧ Gr w w'

theorem unit_as (s : ByteArray) (i : Nat) (w : World) (hi : i ≤ s.size) (hs : s.size ≤ 64) (u : Int) (k : Nat) (h1 : (unitL (s.data.toList.drop i)).1 = u) (h2 : (unitL (s.data.toList.drop i)).2 = k) :
    Calls Tryd.prog 36 #[.string s, .int .i64 i] w fun e w' => e = .returned (.tuple #[.int .i64 u, .int .i64 (k : Nat)]) ∧ w = w' := by
  subst h1 h2
  exact unit_any s i w hi hs
theorem size_bd (j : Nat) (hj : j < 5) : 1 ≤ unitSize j ∧ unitSize j ≤ 86400000 := by
  rcases (by omega : j = 0 ∨ j = 1 ∨ j = 2 ∨ j = 3 ∨ j = 4) with rfl | rfl | rfl | rfl | rfl <;> decide
theorem partsE_none {l : List UInt8} {next : Nat} (hl : l ≠ []) (h : ∀ x t, l = x :: t → dgt x = false) : partsE l next = none := by
  unfold partsE
  rw [if_neg hl]
  cases l with
  | nil => exact absurd rfl hl
  | cons x t => exact parts_not (h x t rfl) next
theorem partsD_end {l : List UInt8} {C next : Nat} (h : ∀ x t, l = x :: t → dgt x = false) : partsD C l next = partsS C (l.takeWhile ndg) (l.dropWhile ndg) next := by
  cases l with
  | nil => rfl
  | cons x t => rw [partsD_stop (h x t rfl)]; unfold partsL; rw [List.nil_append]
theorem dgt_f {c : UInt8} (h : dgt c = false) : c.toNat < 48 ∨ (48 ≤ c.toNat ∧ 57 < c.toNat) := by
  have : ¬ (48 ≤ c.toNat ∧ c.toNat ≤ 57) := by intro hh; rw [dgt] at h; simp [hh] at h
  omega

theorem ref_duration_any (s : ByteArray) (w : World) (hs : s.size ≤ maxLen) :
    Calls Tryd.prog 18 #[.string s] w (DurPost2 s w) := by
  unfold maxLen at hs
  by_cases h64 : 64 < s.size
  · have hm2 : durO s.data.toList = none := by unfold durO; rw [if_pos (by simpa using h64)]
    have HM := Lib.hid hm2; clear hm2
    go_enter Tryd.func18, Tryd.ntmps18
    go_wp2
    go_ret2
    exact ⟨by rw [HM.out]; rfl, Gr.refl _⟩
  have h64' : s.size ≤ 64 := by omega
  clear hs
  by_cases h00 : s.size = 0
  · have hm2 : durO s.data.toList = none := by
      unfold durO
      rw [if_neg (by simpa using h64)]
      have : s.data.toList = [] := List.eq_nil_of_length_eq_zero (by simpa using h00)
      rw [this, parts_nil]
    have HM := Lib.hid hm2; clear hm2
    have hE : s.toList = [] := by rw [Lib.toList_data]; exact List.eq_nil_of_length_eq_zero (by simpa using h00)
    have hE2 : (!s.toList.isEmpty) = false := by rw [hE]; rfl
    have hE3 : s.toList.isEmpty = true := by rw [hE]; rfl
    go_enter Tryd.func18, Tryd.ntmps18
    go_wp2
    go_ret2
    exact ⟨by rw [HM.out]; rfl, Gr.refl _⟩
  have hne : ¬ s.toList = [] := by
    rw [Lib.toList_data]; intro h
    have := congrArg List.length h
    simp at this; exact h00 (by rw [this]; rfl)
  have hne2 : (!s.toList.isEmpty) = true := by
    cases h : s.toList with
    | nil => exact absurd h hne
    | cons a b => rfl
  have hne3 : s.toList.isEmpty = false := by
    cases h : s.toList with
    | nil => exact absurd h hne
    | cons a b => rfl
  have h0 : OutR s 0 0 0 false 0 := by
    refine ⟨by omega, by omega, ⟨fun _ => ⟨rfl, rfl⟩, fun h => by omega, by omega⟩, ?_⟩
    unfold durO partsE
    rw [if_neg (by simpa using h64), List.drop_zero, if_neg]
    · simp
    · intro h
      have := congrArg List.length h
      simp at this; exact h00 (by rw [this]; rfl)
  go_enter Tryd.func18, Tryd.ntmps18
  go_wp2
  clear hne hne2 hne3 h00
  go_loopw [4, 5, 6, 7] (fun t l b i wr => ∃ ti nx ii T : Nat, ∃ bb : Bool, t = .int .i64 ti ∧ l = .int .i64 ((nx : Int) - 1) ∧ b = .bool bb ∧ i = .int .i64 ii ∧ OutR s ii nx T bb ti ∧ Gr w wr) (fun _ _ _ i _ => s.size - (intOf i).toNat)
  case atStart => exact ⟨0, 0, 0, 0, false, rfl, rfl, rfl, rfl, h0, Gr.refl _⟩
  case round =>
    obtain ⟨t, nx, i, T, b, rfl, rfl, rfl, rfl, ⟨hi, hnx, hT, hd⟩, hg⟩ := hrel
    have Hd := Lib.hid hd; have HT := Lib.hid hT
    have ht := hT.2.2
    clear hd hT h0
    by_cases hlt : i < s.size
    · go_wp2
      go_loop [6, 7, 8, 9] (fun b' p n k => ∃ p1 k1 n1 C : Nat, ∃ bb : Bool, b' = .bool bb ∧ p = .int .i64 p1 ∧ n = .int .i64 n1 ∧ k = .int .i64 k1 ∧ InR s i nx T b p1 k1 n1 C bb) (fun _ p _ _ => s.size - (intOf p).toNat)
      case atStart => exact ⟨i, 0, 0, 0, b, rfl, rfl, rfl, rfl, ⟨Nat.le_refl _, hi, by omega, Num2.zero b, .inl ⟨rfl, rfl⟩⟩⟩
      case round =>
        obtain ⟨p, k, n, C, b', rfl, rfl, rfl, rfl, ⟨hip, hp, hk, hN, hC⟩⟩ := hrel
        have HN := Lib.hid hN
        have hn := hN.2.2.1
        have hkb : k ≤ 64 := by omega
        have HK := Lib.hid hk; have HC := Lib.hid hC
        clear hk hC hN
        by_cases hdig : ∃ h : p < s.size, dgt s[p] = true
        · obtain ⟨hlp, hdg⟩ := hdig
          obtain ⟨d1, d2⟩ := dgt_bd hdg
          have hnew : 1 ≤ k + 1 ∧ durO s.data.toList = (partsD (10 * C + (s[p].toNat - 48)) (s.data.toList.drop (p + 1)) nx).map (T + ·) := by
            refine ⟨by omega, ?_⟩
            rcases HC.out with ⟨e1, e2⟩ | ⟨_, e⟩
            · have hpi : p = i := by have := HK.out; omega
              subst hpi e2
              rw [Hd.out]
              unfold partsE
              rw [if_neg (by rw [drop_some hlp]; simp), drop_some hlp, parts_dig hdg, partsD_step hdg]
            · rw [e, drop_some hlp, partsD_step hdg]
          have HW := Lib.hid hnew; clear hnew hdg
          have k1 : (48 : Int) ≤ s[p].toNat := by omega
          have k2 : (s[p].toNat : Int) ≤ 57 := by omega
          by_cases hbig : 1125899906842624 < n
          · go_wp2
            go_round
            case rel => exact ⟨p + 1, k + 1, n, 10 * C + (s[p].toNat - 48), true, rfl, by go_num, rfl, by go_num, ⟨by omega, by omega, by have := HK.out; omega, HN.out.big hbig, .inr HW.out⟩⟩
            case measure => simp [intOf]; omega
          · go_wp2
            go_round
            case rel => exact ⟨p + 1, k + 1, 10 * n + (s[p].toNat - 48), 10 * C + (s[p].toNat - 48), b', rfl, by go_num, by congr 1; omega, by go_num, ⟨by omega, by omega, by have := HK.out; omega, HN.out.step (by omega) (by omega), .inr HW.out⟩⟩
            case measure => simp [intOf]; omega
        · have hx : p = s.size ∨ ∃ h : p < s.size, s[p].toNat < 48 ∨ (48 ≤ s[p].toNat ∧ 57 < s[p].toNat) := by
            rcases Nat.lt_or_ge p s.size with h | h
            · right
              refine ⟨h, dgt_f ?_⟩
              cases hg : dgt s[p]
              · rfl
              · exact absurd ⟨h, hg⟩ hdig
            · left; omega
          have hhead : ∀ x t, s.data.toList.drop p = x :: t → dgt x = false := by
            intro x t e
            rcases Nat.lt_or_ge p s.size with h | h
            · rw [drop_some h] at e
              have : s[p] = x := by injection e
              subst this
              cases hg : dgt s[p]
              · rfl
              · exact absurd ⟨h, hg⟩ hdig
            · rw [drop_nil h] at e; cases e
          clear hdig
          have hend : (k = 0 ∧ durO s.data.toList = none) ∨ (1 ≤ k ∧ durO s.data.toList = (partsS C ((s.data.toList.drop p).takeWhile ndg) ((s.data.toList.drop p).dropWhile ndg) nx).map (T + ·)) := by
            rcases HC.out with ⟨e1, e2⟩ | ⟨e1, e⟩
            · left
              refine ⟨e1, ?_⟩
              have hpi : p = i := by have := HK.out; omega
              subst hpi
              rw [Hd.out, partsE_none (by rw [drop_some hlt]; simp) hhead]
              rfl
            · right
              exact ⟨e1, by rw [e, partsD_end hhead]⟩
          clear hhead
          rcases hend with ⟨rfl, hE⟩ | ⟨hk1, hE⟩
          · have HE := Lib.hid hE; clear hE
            rcases hx with hx | ⟨hlp, hx | ⟨hx1, hx2⟩⟩
            all_goals
              generalize hu1 : (unitL (s.data.toList.drop p)).1 = u
              generalize hu2 : (unitL (s.data.toList.drop p)).2 = wd
              have HU1 := Lib.hid hu1; have HU2 := Lib.hid hu2
              clear hu1 hu2
              try (have hz : decide ((48 : Int) ≤ s[p].toNat) = false := by simp; omega)
              try (have hz : decide ((48 : Int) ≤ s[p].toNat) = true := by simp; omega)
              try (have hz2 : decide ((s[p].toNat : Int) ≤ 57) = false := by simp; omega)
              try (have hz4 : ¬ p < s.size := by omega)
              try clear hx
              go_wp2_with (go_at_call 36; refine (unit_as s p _ hp h64' _ _ HU1.out HU2.out).mono ?_; rintro e w' ⟨rfl, rfl⟩)
              go_ret2
              exact ⟨by rw [HE.out]; rfl, hg⟩
          · have hk2 : ((k : Int) == 0) = false := by rw [beq_eq_false_iff_ne]; omega
            rcases unit_spec C nx (s.data.toList.drop p) with ⟨hlt2, hnone⟩ | ⟨j, hj, hnj, hu, hwl, hsp⟩
            · rw [hnone] at hE
              have HE := Lib.hid hE; clear hE hnone
              generalize hu1 : (unitL (s.data.toList.drop p)).1 = u at hlt2
              generalize hu2 : (unitL (s.data.toList.drop p)).2 = wd
              have HU1 := Lib.hid hu1; have HU2 := Lib.hid hu2
              clear hu1 hu2
              have hle : u ≤ (nx : Int) - 1 := by omega
              have hle2 : decide (u ≤ (nx : Int) - 1) = true := by simp; omega
              rcases hx with hx | ⟨hlp, hx | ⟨hx1, hx2⟩⟩
              all_goals
                try (have hz : decide ((48 : Int) ≤ s[p].toNat) = false := by simp; omega)
                try (have hz : decide ((48 : Int) ≤ s[p].toNat) = true := by simp; omega)
                try (have hz2 : decide ((s[p].toNat : Int) ≤ 57) = false := by simp; omega)
                try (have hz4 : ¬ p < s.size := by omega)
                try clear hx
                go_wp2_with (go_at_call 36; refine (unit_as s p _ hp h64' _ _ HU1.out HU2.out).mono ?_; rintro e w' ⟨rfl, rfl⟩)
                go_ret2
                exact ⟨by rw [HE.out]; rfl, hg⟩
            · rw [hsp, map_map_add] at hE
              rw [List.length_drop, Array.length_toList, ByteArray.size_data] at hwl
              generalize hu2 : (unitL (s.data.toList.drop p)).2 = wd at hE hwl
              have HU1 := Lib.hid hu; have HU2 := Lib.hid hu2
              rw [List.drop_drop] at hE
              have HE := Lib.hid hE; clear hE hsp hu hu2
              have hle : ¬ ((j : Nat) : Int) ≤ (nx : Int) - 1 := by omega
              have hle2 : decide (((j : Nat) : Int) ≤ (nx : Int) - 1) = false := by simp; omega
              obtain ⟨z1, z2⟩ := size_bd j hj
              have z3 : (1 : Int) ≤ unitSize j := by omega
              have z4 : (unitSize j : Int) ≤ 86400000 := by omega
              have z5 : ¬ (unitSize j : Int) = 0 := by omega
              have hwl2 : p + wd ≤ s.size := by omega
              obtain ⟨q, hq, q1⟩ : ∃ q : Nat, 1125899906842624 / unitSize j = q ∧ (1125899906842624 : Int) / (unitSize j : Int) = (q : Int) := ⟨_, rfl, by rw [Int.natCast_ediv]; rfl⟩
              obtain ⟨mm, hm, m1⟩ : ∃ mm : Nat, n * unitSize j = mm ∧ (n : Int) * (unitSize j : Int) = (mm : Int) := ⟨_, rfl, by rw [Int.natCast_mul]⟩
              have hq2 : q ≤ 1125899906842624 := by rw [← hq]; exact Nat.div_le_self _ _
              have Hq := Lib.hid hq; have Hm := Lib.hid hm
              clear hq hm
              rcases (by omega : q < n ∨ (n ≤ q ∧ 1125899906842624 - mm < t) ∨ (n ≤ q ∧ t ≤ 1125899906842624 - mm)) with hA | ⟨hA, hB⟩ | ⟨hA, hB⟩
              · have hS := Lib.hid (sum_big HT.out HN.out z1 (.inl (by rw [Hq.out]; exact hA)))
                have hA2 : decide ((q : Int) < (n : Int)) = true := by simp; omega
                rcases hx with hx | ⟨hlp, hx | ⟨hx1, hx2⟩⟩
                all_goals
                  try (have hz : decide ((48 : Int) ≤ s[p].toNat) = false := by simp; omega)
                  try (have hz : decide ((48 : Int) ≤ s[p].toNat) = true := by simp; omega)
                  try (have hz2 : decide ((s[p].toNat : Int) ≤ 57) = false := by simp; omega)
                  try (have hz4 : ¬ p < s.size := by omega)
                  try clear hx
                  clear m1
                  go_wp2_with (first | (go_at_call 36; refine (unit_as s p _ hp h64' _ _ HU1.out HU2.out).mono ?_; rintro e w' ⟨rfl, rfl⟩) | (go_at_call 37; refine (size_any j hj _).mono ?_; rintro e w2 ⟨rfl, hg2⟩))
                  go_roundw
                  case rel => exact ⟨t, j + 1, p + wd, T + C * unitSize j, true, rfl, by congr 1; omega, rfl, by go_num, ⟨by omega, by omega, hS.out, HE.out⟩, hg.trans hg2⟩
                  case measure => have := HK.out; simp [intOf]; omega
              · have hmm : mm ≤ 1125899906842624 := by
                  have := (Nat.le_div_iff_mul_le (by omega : 0 < unitSize j)).1 (by rw [Hq.out]; exact hA)
                  rw [Hm.out] at this; exact this
                have hS := Lib.hid (sum_big HT.out HN.out z1 (.inr (by rw [Hm.out]; exact hB)))
                have hA2 : decide ((q : Int) < (n : Int)) = false := by simp; omega
                have hB2 : decide ((1125899906842624 : Int) - (mm : Int) < (t : Int)) = true := by simp; omega
                rcases hx with hx | ⟨hlp, hx | ⟨hx1, hx2⟩⟩
                all_goals
                  try (have hz : decide ((48 : Int) ≤ s[p].toNat) = false := by simp; omega)
                  try (have hz : decide ((48 : Int) ≤ s[p].toNat) = true := by simp; omega)
                  try (have hz2 : decide ((s[p].toNat : Int) ≤ 57) = false := by simp; omega)
                  try (have hz4 : ¬ p < s.size := by omega)
                  try clear hx
                  go_wp2_with (go_at_call 36; refine (unit_as s p _ hp h64' _ _ HU1.out HU2.out).mono ?_; rintro e w' ⟨rfl, rfl⟩)
                  refine (size_any j hj _).mono ?_
                  rintro e w2 ⟨rfl, hg2⟩
                  go_wp2_with fail
                  refine (size_any j hj _).mono ?_
                  rintro e w3 ⟨rfl, hg3⟩
                  go_wp2_with fail
                  go_roundw
                  case rel => exact ⟨t, j + 1, p + wd, T + C * unitSize j, true, rfl, by congr 1; omega, rfl, by go_num, ⟨by omega, by omega, hS.out, HE.out⟩, (hg.trans hg2).trans hg3⟩
                  case measure => have := HK.out; simp [intOf]; omega
              · have hmm : mm ≤ 1125899906842624 := by
                  have := (Nat.le_div_iff_mul_le (by omega : 0 < unitSize j)).1 (by rw [Hq.out]; exact hA)
                  rw [Hm.out] at this; exact this
                have hS' := sum_ok HT.out HN.out z1 (by rw [Hq.out]; exact hA) (by rw [Hm.out]; exact hB)
                rw [Hm.out] at hS'
                have hS := Lib.hid hS'; clear hS'
                have hA2 : decide ((q : Int) < (n : Int)) = false := by simp; omega
                have hB2 : decide ((1125899906842624 : Int) - (mm : Int) < (t : Int)) = false := by simp; omega
                rcases hx with hx | ⟨hlp, hx | ⟨hx1, hx2⟩⟩
                all_goals
                  try (have hz : decide ((48 : Int) ≤ s[p].toNat) = false := by simp; omega)
                  try (have hz : decide ((48 : Int) ≤ s[p].toNat) = true := by simp; omega)
                  try (have hz2 : decide ((s[p].toNat : Int) ≤ 57) = false := by simp; omega)
                  try (have hz4 : ¬ p < s.size := by omega)
                  try clear hx
                  go_wp2_with (go_at_call 36; refine (unit_as s p _ hp h64' _ _ HU1.out HU2.out).mono ?_; rintro e w' ⟨rfl, rfl⟩)
                  refine (size_any j hj _).mono ?_
                  rintro e w2 ⟨rfl, hg2⟩
                  go_wp2_with fail
                  refine (size_any j hj _).mono ?_
                  rintro e w3 ⟨rfl, hg3⟩
                  go_wp2_with fail
                  refine (size_any j hj _).mono ?_
                  rintro e w4 ⟨rfl, hg4⟩
                  go_wp2_with fail
                  go_roundw
                  case rel => exact ⟨t + mm, j + 1, p + wd, T + C * unitSize j, b', by go_num, by congr 1; omega, rfl, by go_num, ⟨by omega, by omega, hS.out, HE.out⟩, ((hg.trans hg2).trans hg3).trans hg4⟩
                  case measure => have := HK.out; simp [intOf]; omega
    · have hN : durO s.data.toList = some T := by
        rw [Hd.out, drop_nil (by omega)]
        unfold partsE
        rw [if_pos rfl]; rfl
      have hni : ¬ i < s.size := hlt
      have HN := Lib.hid hN; clear hN
      cases b
      · by_cases ht0 : t = 0
        · subst ht0
          obtain ⟨v1, v2⟩ := res_big HT.out (.inr rfl)
          have H1 := Lib.hid v1; have H2 := Lib.hid v2; clear v1 v2
          go_wp2
          go_ret2
          exact ⟨by rw [HN.out, H1.out, H2.out]; rfl, hg⟩
        · obtain ⟨v1, v2⟩ := res_ok HT.out ht0
          have H1 := Lib.hid v1; have H2 := Lib.hid v2; clear v1 v2
          have ht1 : ((t : Int) == 0) = false := by rw [beq_eq_false_iff_ne]; omega
          go_wp2
          go_ret2
          exact ⟨by rw [HN.out, H1.out, H2.out]; rfl, hg⟩
      · obtain ⟨v1, v2⟩ := res_big HT.out (.inl rfl)
        have H1 := Lib.hid v1; have H2 := Lib.hid v2; clear v1 v2
        go_wp2
        go_ret2
        exact ⟨by rw [HN.out, H1.out, H2.out]; rfl, hg⟩
end Go.Proofs.YthjfmfacnknpfaaDoor
