/- Quote, Get, digit, the reference's. -/
import Derived.Test.YtgjmjfpeonldgaaDoorSpell
import Derived.Test.YtgjmjfpeonldgaaDoorParts
namespace Go.Proofs.YtgjmjfpeonldgaaDoor
open Go.RowKit Go.Sort
set_option maxRecDepth 100000
set_option maxHeartbeats 4000000

theorem rDig_any (n : Nat) (h : n < 256) (w : World) :
    Calls Tryd.prog 62 #[.int .u8 n] w fun e w' => e = .returned (.int .i64 (hexV n)) ∧ w = w' := by
  by_cases h1 : 48 ≤ n ∧ n ≤ 57
  · have HV : Hid (hexV n = (n : Int) - 48) := Lib.hid (by unfold hexV; rw [if_pos h1])
    obtain ⟨a1, a2⟩ := h1
    obtain ⟨m, hm⟩ : ∃ m : Nat, n = m + 48 := ⟨n - 48, by omega⟩
    subst hm
    have f1 : ((m + 48 : Nat) : Int) - 48 = (m : Int) := by omega
    go_enter Tryd.func62, Tryd.ntmps62
    go_wp2
    go_ret
    exact ⟨by rw [HV.out]; simp <;> omega, rfl⟩
  by_cases h2 : 97 ≤ n ∧ n ≤ 102
  · have HV : Hid (hexV n = (n : Int) - 87) := Lib.hid (by unfold hexV; rw [if_neg h1, if_pos h2])
    have h3 : ¬ (n ≤ 57) := by omega
    obtain ⟨a1, a2⟩ := h2
    clear h1
    go_enter Tryd.func62, Tryd.ntmps62
    go_wp2
    go_ret
    exact ⟨by rw [HV.out]; simp <;> omega, rfl⟩
  · have HV : Hid (hexV n = -1) := Lib.hid (by unfold hexV; rw [if_neg h1, if_neg h2])
    have key : n < 48 ∨ (57 < n ∧ n < 97) ∨ 102 < n := by omega
    clear h1 h2
    rcases key with k | ⟨k1, k2⟩ | k
    all_goals
      go_enter Tryd.func62, Tryd.ntmps62
      go_wp2
      go_ret
      exact ⟨by rw [HV.out]; rfl, rfl⟩

/-- a new row of bytes is the call's own -/
theorem own_lit (w : World) (bs : List UInt8) (n : Nat) (cs : Array Value) (hn : n = bs.length) (h : cs = (Lib.byteCells bs).toArray) (hm : n ≤ maxLen) : Hid (OwnB (w.alloc (.cells cs 5)) w.heap.size (.slice (some ⟨w.heap.size, 0, none⟩) n n) bs) := by
  subst h hn
  refine Lib.hid ⟨by simp [Lib.byteCells], .inr ⟨w.heap.size, bs.length, _, rfl, Nat.le_refl _, heap_alloc_new w _, Nat.le_refl _, hm, by simp [Lib.byteCells], ?_⟩⟩
  rw [List.take_of_length_le (by simp [Lib.byteCells])]
theorem rQuote_any (s : ByteArray) (w : World) (hn : 4 * s.size + 2 ≤ 549755813888) :
    Calls Tryd.prog 37 #[.string s] w fun e w' => e = .returned (.string ⟨(quoteL s.data.toList).toArray⟩) ∧ Gr w w' := by
  go_enter Tryd.func37, Tryd.ntmps37
  go_wp2
  go_loopw [4, 5] (fun v i wr => ∃ k : Nat, k ≤ s.size ∧ i = .int .i64 k ∧ Hid (OwnB wr w.heap.size v (34 :: (s.data.toList.take k).flatMap qB)) ∧ Bk w.heap.size w wr) (fun _ i _ => s.size - (intOf i).toNat)
  case atStart => exact ⟨0, Nat.zero_le _, rfl, own_lit w [34] 1 _ rfl rfl (by unfold maxLen; omega), (Bk.refl _ _).alloc (Nat.le_refl _) _ _⟩
  case round =>
    obtain ⟨k, hk, rfl, HO, hg⟩ := hrel
    have hBr : w.heap.size ≤ wr.heap.size := hg.b.size
    by_cases hlt : k < s.size
    · have hts := take_byte s k hlt
      have HT : Hid (34 :: (s.data.toList.take (k + 1)).flatMap qB = 34 :: (s.data.toList.take k).flatMap qB ++ qB s[k]) := Lib.hid (by rw [hts, List.flatMap_append]; simp)
      have hlen : (34 :: (s.data.toList.take k).flatMap qB).length ≤ 549755813888 := by
        have := qBs_len (s.data.toList.take k)
        simp at this ⊢
        omega
      clear hts
      generalize 34 :: (s.data.toList.take k).flatMap qB = cur at *
      obtain ⟨c, hc⟩ : ∃ c, s[k] = c := ⟨_, rfl⟩
      rw [hc] at HT
      have hc256 := c.toNat_lt
      obtain ⟨n, hcn⟩ : ∃ n, c.toNat = n := ⟨_, rfl⟩
      have HC := Lib.hid hcn
      by_cases h1 : n = 92 ∨ n = 34
      · have HQB : Hid (qB c = [92, c]) := Lib.hid (by unfold qB; rw [hcn, if_pos h1])
        have key : ∀ m : Nat, n = m → ((m : Int) == 34) = true ∨ (((m : Int) == 34) = false ∧ ((m : Int) == 92) = true) := fun m hm => by
          simp; omega
        rcases key n rfl with g1 | ⟨g1, g2⟩
        all_goals
          clear h1 key
          go_wp2_with (at_builtin; refine wpList_appB rfl rfl (.tmp 28) (.tmp 30) (by rfl) (by rfl) (B := w.heap.size) (l := cur) (m := [92, c]) (HO.out.alloc _) (readsB_new _ _ _ 2 rfl (by simp [Lib.byteCells, HC.out])) (by simp) (by simp; omega) (by simp; omega) ?_; intro v2 W2 hown2 hbk2)
          go_roundw
          case rel => exact ⟨k + 1, by omega, by go_num, Lib.hid (by rw [HT.out, HQB.out]; exact hown2), (hg.alloc (Nat.le_refl _) _ _).trans hbk2⟩
          case measure => simp [intOf]; omega
      by_cases h2 : 32 ≤ n ∧ n < 127
      · have hp : prnI n = true := by unfold prnI; simp; omega
        have HQB : Hid (qB c = [c]) := Lib.hid (by unfold qB; rw [hcn, if_neg h1, hp]; rfl)
        have h92 : ((n : Int) == 92) = false := by simp; omega
        have h34 : ((n : Int) == 34) = false := by simp; omega
        have l1 : decide ((n : Int) < 32) = false := by simp; omega
        have l2 : decide ((127 : Int) ≤ (n : Int)) = false := by simp; omega
        clear h1 h2
        go_wp2_with (at_builtin; refine wpList_appB rfl rfl (.tmp 17) (.tmp 19) (by rfl) (by rfl) (B := w.heap.size) (l := cur) (m := [c]) (HO.out.alloc _) (readsB_new _ _ _ 1 rfl (by simp [Lib.byteCells, HC.out])) (by simp) (by simp; omega) (by simp; omega) ?_; intro v2 W2 hown2 hbk2)
        go_roundw
        case rel => exact ⟨k + 1, by omega, by go_num, Lib.hid (by rw [HT.out, HQB.out]; exact hown2), (hg.alloc (Nat.le_refl _) _ _).trans hbk2⟩
        case measure => simp [intOf]; omega
      · have hp : prnI n = false := by unfold prnI; simp; omega
        have h92 : ((n : Int) == 92) = false := by simp; omega
        have h34 : ((n : Int) == 34) = false := by simp; omega
        have HQB0 : Hid (qB c = [92, 120, hexD (n / 16), hexD (n % 16)]) := Lib.hid (by unfold qB; rw [hcn, if_neg h1, hp]; rfl)
        have key : decide ((n : Int) < 32) = true ∨ (decide ((n : Int) < 32) = false ∧ decide ((127 : Int) ≤ (n : Int)) = true) := by simp; omega
        clear h1 h2
        obtain ⟨q, hq⟩ : ∃ q, n / 16 = q := ⟨_, rfl⟩
        obtain ⟨r, hr⟩ : ∃ r, n % 16 = r := ⟨_, rfl⟩
        have hq1 : (n : Int) / 16 = (q : Int) := by omega
        have hr1 : (n : Int) % 16 = (r : Int) := by omega
        have hq2 : (n : Int).tdiv 16 = (q : Int) := by rw [Int.tdiv_eq_ediv_of_nonneg (by omega)]; exact hq1
        have hr2 : (n : Int).tmod 16 = (r : Int) := by rw [Int.tmod_eq_emod_of_nonneg (by omega)]; exact hr1
        have q0 : (0 : Int) ≤ q := by omega
        have q1 : (q : Int) < 16 := by omega
        have r0 : (0 : Int) ≤ r := by omega
        have r1 : (r : Int) < 16 := by omega
        have HQ := Lib.hid hq; have HR := Lib.hid hr
        have HQB : Hid (qB c = [92, 120, hexD q, hexD r]) := Lib.hid (by rw [HQB0.out, hq, hr])
        clear hq hr
        have hw1 : IntKind.u8.wrap (q : Int) = (q : Int) := IntWalk.u8_in _ (by omega)
        rcases key with g1 | ⟨g1, g2⟩
        all_goals
          go_wp2_with fail
          go_region_law ((refine step_appB rfl (by rfl) (.tmp 39) (.tmp 48) (by rfl) (by rfl) (B := w.heap.size) (l := cur) (m := [92, 120, hexD q, hexD r]) (HO.out.alloc _).drew (readsB_new _ _ _ 4 rfl ?_) (by simp) (by simp; omega) ?_ ?_
                          · exact hex_cells q r _ _ (by omega) (by omega)
                          · simp
                            omega
                          intro v2 W2 hown2 hbk2))
          all_goals
            go_wp2
            go_roundw
            case rel => exact ⟨k + 1, by omega, by go_num, Lib.hid (by rw [HT.out, HQB.out]; exact hown2), (hg.alloc (Nat.le_refl _) _ _).drew.trans hbk2⟩
            case measure => simp [intOf]; omega
    · obtain rfl : k = s.size := by omega
      have hlen : (34 :: (s.data.toList.take s.size).flatMap qB).length ≤ 549755813888 := by
        have := qBs_len (s.data.toList.take s.size)
        simp at this ⊢
        omega
      have HT : Hid (quoteL s.data.toList = 34 :: (s.data.toList.take s.size).flatMap qB ++ [34]) := Lib.hid (by rw [List.take_of_length_le (by simp)]; simp [quoteL])
      generalize 34 :: (s.data.toList.take s.size).flatMap qB = cur at *
      go_wp2_with (at_builtin; refine wpList_appB rfl rfl (.tmp 50) (.tmp 51) (by rfl) (by rfl) (B := w.heap.size) (l := cur) (m := [34]) (HO.out.alloc _) (readsB_new _ _ _ 1 rfl (by rfl)) (by simp) (by simp; omega) (by simp; omega) ?_; intro v2 W2 hown2 hbk2; have hcv := conv_own hown2)
      go_ret
      exact ⟨by rw [HT.out]; rfl, ((hg.alloc (Nat.le_refl _) _ _).trans hbk2).gr⟩

theorem rGet_any (A : Option Addr) (l : List Lb) (c : Nat) (n : ByteArray) (w : World) (h : LabsAt w A l) (hl : l.length ≤ 1099511627776) :
    Calls Tryd.prog 19 #[.slice A l.length c, .string n] w fun e w' => e = .returned (.string (getL l n)) ∧ Gr w w' := by
  have HL := Lib.hid h
  clear h
  go_enter Tryd.func19, Tryd.ntmps19
  go_wp2
  go_loopw [5] (fun i wr => ∃ k : Nat, k ≤ l.length ∧ i = .int .i64 k ∧ Hid (getL l n = getL (l.drop k) n) ∧ Gr w wr) (fun i _ => l.length - (intOf i).toNat)
  case atStart => exact ⟨0, Nat.zero_le _, rfl, rfl, Gr.refl _⟩
  case round =>
    obtain ⟨k, hk, rfl, HR, hg⟩ := hrel
    by_cases hlt : k < l.length
    · obtain ⟨b, o, rfl, c1, c2, -⟩ := (HL.out.gr hg).at_ hlt
      have HS := Lib.hid (getL_step hlt n)
      obtain ⟨x, hx⟩ : ∃ x, l[k] = x := ⟨_, rfl⟩
      rw [hx] at c1 c2 HS
      clear hx
      cases e1 : (x.1.toList == n.toList)
      · have HN : Hid (getL l n = getL (l.drop (k + 1)) n) := Lib.hid (by rw [HR.out, HS.out, e1]; rfl)
        go_wp2
        go_roundw
        case rel => exact ⟨k + 1, by omega, by go_num, HN, hg⟩
        case measure => simp [intOf]; omega
      · have HN : Hid (getL l n = x.2) := Lib.hid (by rw [HR.out, HS.out, e1]; rfl)
        go_wp2
        go_ret
        exact ⟨by rw [HN.out]; rfl, hg⟩
    · obtain rfl : k = l.length := by omega
      have HN : Hid (getL l n = ⟨#[]⟩) := Lib.hid (by rw [HR.out, List.drop_length]; rfl)
      go_wp2
      go_ret
      exact ⟨by rw [HN.out]; rfl, hg⟩
end Go.Proofs.YtgjmjfpeonldgaaDoor
