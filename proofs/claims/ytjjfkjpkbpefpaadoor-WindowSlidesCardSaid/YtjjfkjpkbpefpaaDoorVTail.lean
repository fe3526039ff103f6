/- fval's Sum and Holds, the window's extremes, rises and counts. -/
import Derived.Test.YtjjfkjpkbpefpaaDoorVBase
import Derived.Shelf.Abstract
import Derived.Deep.Cut
import Derived.Deep.CutBlock
import Derived.Deep.CutRange
namespace Go.Proofs.YtjjfkjpkbpefpaaDoor.Vn
open Go.RowKit
set_option maxRecDepth 100000
set_option maxHeartbeats 4000000

/-- the cells of a row of numbers, those behind the first apart -/
theorem tail_cells {W : World} {b o : Nat} {x : Nat} {r : List Nat} (hc : ∀ i y, (x :: r)[i]? = some y → W.cell? ⟨b, o + i, none⟩ = some (encF y)) :
    W.cell? ⟨b, o, none⟩ = some (.float .f64 x) ∧ Hid (∀ i y, r[i]? = some y → W.cell? ⟨b, o + 1 + i, none⟩ = some (.float .f64 y)) := by
  refine ⟨hc 0 x rfl, Lib.hid fun i y hi => ?_⟩
  have := hc (i + 1) y hi
  rw [show o + 1 + i = o + (i + 1) by omega]; exact this
theorem sumP_any (A : Option Addr) (cap : Nat) (l : List Nat) (w : World) (ht : Tab w) (h : FlL w A l) (hc : l.length ≤ cap) (hn : l.length ≤ 1099511627776) :
    Calls Tryd.prog 47 #[.slice A l.length cap] w fun e w' => e = .returned (.float .f64 (sumL l)) ∧ ∃ n, w' = w.drewN n := by
  cases l with
  | nil =>
    clear h ht
    go_enter Tryd.func47, Tryd.ntmps47
    go_wp2
    go_ret
    exact ⟨rfl, 0, rfl⟩
  | cons x r =>
    obtain ⟨b, off, rfl, hcells⟩ := h (by simp)
    obtain ⟨c0, HC⟩ := tail_cells hcells
    obtain ⟨m, hm⟩ : ∃ m, r.length = m := ⟨_, rfl⟩
    have hl : (x :: r).length = m + 1 := by rw [← hm]; rfl
    rw [hl] at hc hn ⊢
    have HM := Lib.hid hm
    have HS : Hid (∀ k y, r[k]? = some y → (r.take (k + 1)).foldl addC (canon x) = addC ((r.take k).foldl addC (canon x)) y) := Lib.hid fun k y hy => foldl_s _ _ hy
    have HE : Hid ((r.take m).foldl addC (canon x) = sumL (x :: r)) := Lib.hid (by rw [← hm, List.take_length]; rfl)
    have HL : Hid (∀ k, k < m → ∃ y, r[k]? = some y) := Lib.hid fun k hk => ⟨_, List.getElem?_eq_getElem (by omega)⟩
    have HN : Hid (∀ n, canon ((r.take n).foldl addC (canon x)) = (r.take n).foldl addC (canon x)) := Lib.hid fun n => foldl_cn _ _ (canon_idem _)
    have HT := Lib.hid ht
    clear hcells h ht hl hm
    by_cases h1 : cap = 1
    · obtain rfl : m = 0 := by omega
      subst h1
      clear hc hn
      go_enter Tryd.func47, Tryd.ntmps47
      go_wp2
      refine wp_loop_rounds 1 ?_
      rw [rounds_succ]
      go_wp2_with (go_at_call 56; refine (canon_any _ _ HT.out).mono ?_; rintro e w' ⟨rfl, rfl⟩)
      go_ret
      exact ⟨by rw [← HE.out]; rfl, 0, rfl⟩
    · have h2 : 1 < cap := by omega
      clear h1
      go_enter Tryd.func47, Tryd.ntmps47
      go_wp2
      go_loopw [3, 15] (fun s i wr => ∃ k : Nat, k ≤ m ∧ i = .int .i64 k ∧ (∃ c, s = .float .f64 c ∧ Hid (canon c = (r.take k).foldl addC (canon x))) ∧ ∃ n, wr = w.drewN n) (fun _ i _ => m - (intOf i).toNat)
      case atStart => exact ⟨0, Nat.zero_le _, rfl, ⟨_, rfl, Lib.hid rfl⟩, 0, rfl⟩
      case round =>
        obtain ⟨k, hk, rfl, ⟨c, rfl, HCC⟩, n, rfl⟩ := hrel
        by_cases hlt : k < m
        · obtain ⟨y, hy⟩ := HL.out k hlt
          have hcell := HC.out k y hy
          have HY := Lib.hid (HS.out k y hy)
          clear hy
          go_wp2
          go_roundw
          case rel => exact ⟨k + 1, by omega, by go_num, ⟨_, rfl, Lib.hid (by rw [HY.out]; exact (addV_c _ _ _).trans (addC_l _ HCC.out))⟩, _, rfl⟩
          case measure => simp [intOf]; omega
        · obtain rfl : k = m := by omega
          go_wp2_with (go_at_call 56; refine (canon_any _ _ (by exact HT.out.drewN _)).mono ?_; rintro e w' ⟨rfl, rfl⟩)
          go_ret
          exact ⟨by rw [HCC.out, HE.out]; rfl, _, rfl⟩
/-- Holds at less and at greater -/
theorem holds_lt (a b : Nat) (w : World) :
    Calls Tryd.prog 62 #[.int .i64 8, .float .f64 a, .float .f64 b] w fun e w' => e = .returned (.bool (ltB a b)) ∧ w = w' := by
  go_enter Tryd.func62, Tryd.ntmps62
  go_wp2
  go_ret
  exact ⟨rfl, rfl⟩
theorem holds_gt (a b : Nat) (w : World) :
    Calls Tryd.prog 62 #[.int .i64 7, .float .f64 a, .float .f64 b] w fun e w' => e = .returned (.bool (gtB a b)) ∧ w = w' := by
  go_enter Tryd.func62, Tryd.ntmps62
  go_wp2
  go_ret
  exact ⟨rfl, rfl⟩
def opOf (most : Bool) : Int := if most then 7 else 8
theorem holds_op (most : Bool) (a b : Nat) (w : World) :
    Calls Tryd.prog 62 #[.int .i64 (opOf most), .float .f64 a, .float .f64 b] w fun e w' => e = .returned (.bool (if most then gtB a b else ltB a b)) ∧ w = w' := by
  cases most
  · exact holds_lt a b w
  · exact holds_gt a b w
theorem extreme_any (most : Bool) (A : Option Addr) (cap x : Nat) (r : List Nat) (w : World) (h : FlL w A (x :: r)) (hc : r.length + 1 ≤ cap) (hn : r.length ≤ 1099511627776) :
    Calls Tryd.prog 48 #[.int .i64 (opOf most), .slice A (r.length + 1) cap] w fun e w' => e = .returned (.float .f64 (extL most (x :: r))) ∧ w = w' := by
  obtain ⟨b, off, rfl, hcells⟩ := h (by simp)
  obtain ⟨c0, HC⟩ := tail_cells hcells
  obtain ⟨m, hm⟩ : ∃ m, r.length = m := ⟨_, rfl⟩
  rw [hm] at hc hn ⊢
  have HS : Hid (∀ k y, r[k]? = some y → (r.take (k + 1)).foldl (extS most) x = extS most ((r.take k).foldl (extS most) x) y) := Lib.hid fun k y hy => foldl_s _ _ hy
  have HE : Hid ((r.take m).foldl (extS most) x = extL most (x :: r)) := Lib.hid (by rw [← hm, List.take_length]; rfl)
  have HL : Hid (∀ k, k < m → ∃ y, r[k]? = some y) := Lib.hid fun k hk => ⟨_, List.getElem?_eq_getElem (by omega)⟩
  have CH := Lib.hid (fun a b w => holds_op most a b w)
  obtain ⟨op, hop⟩ : ∃ op, opOf most = op := ⟨_, rfl⟩
  rw [hop] at CH ⊢
  have HX : Hid (∀ a y, extS most a y = if nanB a || (if most then gtB y a else ltB y a) then y else a) := Lib.hid fun _ _ => rfl
  clear hcells h hm hop
  by_cases h1 : cap = 1
  · obtain rfl : m = 0 := by omega
    subst h1
    clear hc hn
    go_enter Tryd.func48, Tryd.ntmps48
    go_wp2
    refine wp_loop_rounds 1 ?_
    rw [rounds_succ]
    go_wp2
    go_ret
    exact ⟨by rw [← HE.out]; rfl, rfl⟩
  · have h2 : 1 < cap := by omega
    clear h1
    go_enter Tryd.func48, Tryd.ntmps48
    go_wp2
    go_loopw [5, 14] (fun s i wr => ∃ k : Nat, k ≤ m ∧ i = .int .i64 k ∧ s = .float .f64 ((r.take k).foldl (extS most) x) ∧ wr = w) (fun _ i _ => m - (intOf i).toNat)
    case atStart => exact ⟨0, Nat.zero_le _, rfl, rfl, rfl⟩
    case round =>
      obtain ⟨k, hk, rfl, rfl, rfl⟩ := hrel
      by_cases hlt : k < m
      · obtain ⟨y, hy⟩ := HL.out k hlt
        have hcell := HC.out k y hy
        have HY := Lib.hid (HS.out k y hy)
        obtain ⟨a, ha⟩ : ∃ a, (r.take k).foldl (extS most) x = a := ⟨_, rfl⟩
        rw [ha] at HY ⊢
        have CP := Lib.hid (fun w => CH.out y a w)
        have HV := Lib.hid (HX.out a y)
        obtain ⟨c1, hc1⟩ : ∃ c, (if most then gtB y a else ltB y a) = c := ⟨_, rfl⟩
        obtain ⟨c2, hc2⟩ : ∃ c, nanB a = c := ⟨_, rfl⟩
        rw [hc1] at CP HV
        rw [hc2] at HV
        have hn2 := nan_walk hc2
        clear hy ha hc1 hc2
        cases c1 <;> cases c2
        all_goals
          go_wp2_with (go_at_call 62; refine (CP.out _).mono ?_; rintro e w' ⟨rfl, rfl⟩)
          go_roundw
          case rel => exact ⟨k + 1, by omega, by go_num, by rw [HY.out, HV.out]; rfl, trivial⟩
          case measure => simp [intOf]; omega
      · obtain rfl : k = m := by omega
        go_wp2
        go_ret
        exact ⟨by rw [← HE.out]; rfl, rfl⟩
theorem fsame_any (a b : Nat) (w : World) (ht : Tab w) :
    Calls Tryd.prog 51 #[.float .f64 a, .float .f64 b] w fun e w' => e = .returned (.bool (unlike a b)) ∧ w = w' := by
  go_enter Tryd.func51, Tryd.ntmps51
  go_wp2_with (go_at_call 46; refine (same_any _ _ _ ht).mono ?_; rintro e w' ⟨rfl, rfl⟩)
  go_ret
  exact ⟨rfl, rfl⟩
theorem fless_any (a b : Nat) (w : World) :
    Calls Tryd.prog 52 #[.float .f64 a, .float .f64 b] w fun e w' => e = .returned (.bool (ltB a b)) ∧ w = w' := by
  go_enter Tryd.func52, Tryd.ntmps52
  go_wp2
  go_ret
  exact ⟨rfl, rfl⟩
/-- a count, step by step -/
def cntK (p : Nat → Nat → Bool) (v : List Nat) (k : Nat) : Nat := ((prsL v).take k).countP fun q => p q.1 q.2
theorem cntK_s {p : Nat → Nat → Bool} {v : List Nat} {k a y : Nat} (ha : v[k]? = some a) (hy : v[k + 1]? = some y) : cntK p v (k + 1) = cntK p v k + if p y a then 1 else 0 := by
  unfold cntK
  rw [take_s (prsL_get ha hy), List.countP_append]
  cases h : p y a <;> simp [h]
theorem cntK_e (p : Nat → Nat → Bool) (v : List Nat) : cntK p v (v.length - 1) = cntL p v := by
  unfold cntK cntL
  rw [← prsL_len, List.take_length]
theorem cntK_le (p : Nat → Nat → Bool) (v : List Nat) (k : Nat) : cntK p v k ≤ k := by
  unfold cntK
  refine Nat.le_trans List.countP_le_length ?_
  simp; omega
theorem count_any (g : FuncId) (p : Nat → Nat → Bool) (A : Option Addr) (cap x : Nat) (r : List Nat) (w : World) (h : FlL w A (x :: r)) (hc : r.length + 1 ≤ cap) (hn : r.length ≤ 1099511627776)
    (hg : g = 51 ∨ g = 52) (hp : ∀ a b, Calls Tryd.prog g #[.float .f64 a, .float .f64 b] w fun e w' => e = .returned (.bool (p a b)) ∧ w = w') :
    Calls Tryd.prog 50 #[.slice A (r.length + 1) cap, .func (.func g) #[] #[]] w fun e w' => e = .returned (.float .f64 (Flo.ofI (cntL p (x :: r)))) ∧ w = w' := by
  obtain ⟨b, off, rfl, hcells⟩ := h (by simp)
  obtain ⟨c0, HC⟩ := tail_cells hcells
  have HC0 : Hid (∀ i y, (x :: r)[i]? = some y → w.cell? ⟨b, off + i, none⟩ = some (.float .f64 y)) := Lib.hid hcells
  obtain ⟨m, hm⟩ : ∃ m, r.length = m := ⟨_, rfl⟩
  have HE : Hid (cntK p (x :: r) m = cntL p (x :: r)) := Lib.hid (by rw [← cntK_e, ← hm]; rfl)
  have HL : Hid (∀ k, k < m → ∃ a y, (x :: r)[k]? = some a ∧ r[k]? = some y ∧ cntK p (x :: r) (k + 1) = cntK p (x :: r) k + if p y a then 1 else 0) := Lib.hid fun k hk => by
    have h1 : (x :: r)[k]? = some ((x :: r)[k]'(by simp; omega)) := List.getElem?_eq_getElem _
    have h2 : r[k]? = some (r[k]'(by omega)) := List.getElem?_eq_getElem _
    exact ⟨_, _, h1, h2, cntK_s h1 h2⟩
  have HB : Hid (∀ k, cntK p (x :: r) k ≤ k) := Lib.hid (cntK_le p _)
  rw [hm] at hc hn ⊢
  have HP := Lib.hid hp
  have hZ : cntK p (x :: r) 0 = 0 := rfl
  obtain ⟨F, hF⟩ : ∃ F : Nat → Nat, cntK p (x :: r) = F := ⟨_, rfl⟩
  rw [hF] at HE HL HB hZ
  have HZ := Lib.hid hZ
  clear hcells h hm hp hZ hF
  by_cases h1 : cap = 1
  · obtain rfl : m = 0 := by omega
    subst h1
    have HE0 : Hid (cntL p (x :: r) = 0) := Lib.hid (by rw [← HE.out, HZ.out])
    clear hc hn
    rw [HE0.out]
    go_enter Tryd.func50, Tryd.ntmps50
    go_wp2
    refine wp_loop_rounds 1 ?_
    rw [rounds_succ]
    go_wp2
    go_ret
    exact ⟨rfl, rfl⟩
  · have h2 : 1 < cap := by omega
    clear h1
    have eg : ∀ args w, (callFunc g args).run Tryd.prog w = .ok (.enter g args) w := by
      rcases hg with rfl | rfl
      · exact enters_of Tryd.func51 (by kernel_rfl) rfl
      · exact enters_of Tryd.func52 (by kernel_rfl) rfl
    rcases hg with rfl | rfl
    all_goals
     go_enter Tryd.func50, Tryd.ntmps50
     go_wp2
     go_loopw [5, 11] (fun s i wr => ∃ k : Nat, k ≤ m ∧ i = .int .i64 k ∧ s = .int .i64 (F k : Nat) ∧ wr = w) (fun _ i _ => m - (intOf i).toNat)
     case atStart => exact ⟨0, Nat.zero_le _, rfl, by rw [HZ.out]; rfl, rfl⟩
     case round =>
       obtain ⟨k, hk, rfl, rfl, rfl⟩ := hrel
       by_cases hlt : k < m
       · obtain ⟨a, y, ha, hy, hs⟩ := HL.out k hlt
         have hcell := HC.out k y hy
         have hcell0 := HC0.out k a ha
         have hb := HB.out k
         have HY := Lib.hid hs
         have CP := Lib.hid (HP.out y a)
         obtain ⟨c1, hc1⟩ : ∃ c, p y a = c := ⟨_, rfl⟩
         obtain ⟨f, hf⟩ : ∃ f, F k = f := ⟨_, rfl⟩
         rw [hc1] at CP HY
         rw [hf] at HY hb ⊢
         clear hy ha hc1 hs hf
         cases c1
         all_goals
           go_wp2_with (first | (go_at_call 51; refine CP.out.mono ?_; rintro e w' ⟨rfl, rfl⟩) | (go_at_call 52; refine CP.out.mono ?_; rintro e w' ⟨rfl, rfl⟩) | fail)
           go_roundw
           case rel => exact ⟨k + 1, by omega, by go_num, by rw [HY.out]; first | rfl | (go_num), trivial⟩
           case measure => simp [intOf]; omega
       · obtain rfl : k = m := by omega
         have HEE := HE.out
         rw [HEE]
         go_wp2
         go_ret
         exact ⟨rfl, rfl⟩
end Go.Proofs.YtjjfkjpkbpefpaaDoor.Vn
