/- The reference's changes. -/
import Derived.Test.YtjjfkjpkbpefpaaDoorVRef
namespace Go.Proofs.YtjjfkjpkbpefpaaDoor.Vn
open Go.RowKit
set_option maxRecDepth 100000
set_option maxHeartbeats 4000000
attribute [local irreducible] wpQuiet

theorem rchg_any (below : Bool) (A : Option Addr) (cap x : Nat) (r : List Nat) (w : World) (h : FlL w A (x :: r)) (hn : r.length ≤ 1099511627776) :
    Calls Tryd.prog 34 #[.slice A (r.length + 1) cap, .bool below] w fun e w' => e = .returned (.float .f64 (Flo.ofI (cntL (if below then ltB else unlike) (x :: r)))) ∧ ∃ n, w' = w.drewN n := by
  obtain ⟨p, hp⟩ : ∃ p : Nat → Nat → Bool, (if below then ltB else unlike) = p := ⟨_, rfl⟩
  have HP : Hid (∀ a b, p a b = if below then ltB a b else !sameB a b) := Lib.hid (by rw [← hp]; intro a b; cases below <;> rfl)
  rw [hp]
  obtain ⟨b, off, rfl, hcells⟩ := h (by simp)
  have HC0 : Hid (∀ i y, (x :: r)[i]? = some y → w.cell? ⟨b, off + i, none⟩ = some (.float .f64 y)) := Lib.hid hcells
  have HC : Hid (∀ i y, r[i]? = some y → w.cell? ⟨b, off + (i + 1), none⟩ = some (.float .f64 y)) := Lib.hid fun i y hi => hcells (i + 1) y hi
  obtain ⟨m, hm⟩ : ∃ m, r.length = m := ⟨_, rfl⟩
  have HE : Hid (cntK p (x :: r) m = cntL p (x :: r)) := Lib.hid (by rw [← cntK_e, ← hm]; rfl)
  have HL : Hid (∀ k, k < m → ∃ a y, (x :: r)[k]? = some a ∧ r[k]? = some y ∧ cntK p (x :: r) (k + 1) = cntK p (x :: r) k + if p y a then 1 else 0) := Lib.hid fun k hk => by
    have h1 : (x :: r)[k]? = some ((x :: r)[k]'(by simp; omega)) := List.getElem?_eq_getElem _
    have h2 : r[k]? = some (r[k]'(by omega)) := List.getElem?_eq_getElem _
    exact ⟨_, _, h1, h2, cntK_s h1 h2⟩
  have HB : Hid (∀ k, cntK p (x :: r) k ≤ k) := Lib.hid (cntK_le p _)
  rw [hm] at hn ⊢
  have hZ : cntK p (x :: r) 0 = 0 := rfl
  obtain ⟨F, hF⟩ : ∃ F : Nat → Nat, cntK p (x :: r) = F := ⟨_, rfl⟩
  rw [hF] at HE HL HB hZ
  have HZ := Lib.hid hZ
  clear hcells h hm hZ hF hp
  go_enter Tryd.func34, Tryd.ntmps34
  go_wp2
  go_loopw [5, 6] (fun s i wr => ∃ k : Nat, k ≤ m ∧ i = .int .i64 ((k : Int) + 1) ∧ s = .int .i64 (F k : Nat) ∧ ∃ n, wr = w.drewN n) (fun _ i _ => m + 1 - (intOf i).toNat)
  case atStart => exact ⟨0, Nat.zero_le _, rfl, by rw [HZ.out]; rfl, 0, rfl⟩
  case round =>
    obtain ⟨k, hk, rfl, rfl, n, rfl⟩ := hrel
    by_cases hlt : k < m
    · obtain ⟨a, y, ha, hy, hs⟩ := HL.out k hlt
      have hcell := HC.out k y hy
      have hcell0 := HC0.out k a ha
      have hb := HB.out k
      have HY := Lib.hid hs
      have HPV := Lib.hid (HP.out y a)
      have CS := Lib.hid (fun W => rsame_any y a W)
      obtain ⟨f, hf⟩ : ∃ f, F k = f := ⟨_, rfl⟩
      rw [hf] at HY hb ⊢
      obtain ⟨c1, hc1⟩ : ∃ c, ltB y a = c := ⟨_, rfl⟩
      obtain ⟨c2, hc2⟩ : ∃ c, sameB y a = c := ⟨_, rfl⟩
      rw [hc1, hc2] at HPV
      rw [hc2] at CS
      have hn3 := lt_walk hc1
      have n1 : (0 : Int) ≤ (k : Int) + 1 := by omega
      have n2 : (k : Int) + 1 < (m : Int) + 1 := by omega
      have n4 : (k : Int) < (m : Int) + 1 := by omega
      have w3 : IntKind.i64.wrap (k : Int) = (k : Int) := by rw [IntKind.wrap_i64]; omega
      have n5 : (0 : Int) ≤ (k : Int) := by omega
      clear hy ha hs hf hc1 hc2
      cases below <;> cases c1 <;> cases c2
      all_goals
        go_wp2
        go_quiet (first | (go_at_call 18; first | exact quiet_left (CS.out _) | exact quiet_left2 (CS.out _)) | fail)
        go_wp2
        go_roundw
        case rel => exact ⟨k + 1, by omega, by go_num, by rw [HY.out, HPV.out]; first | rfl | (go_num), _, rfl⟩
        case measure => simp [intOf]; omega
    · obtain rfl : k = m := by omega
      have n3 : ¬ (k : Int) + 1 < (k : Int) + 1 := by omega
      have HEE := HE.out
      rw [HEE]
      go_wp2
      go_ret
      exact ⟨rfl, _, rfl⟩
end Go.Proofs.YtjjfkjpkbpefpaaDoor.Vn
