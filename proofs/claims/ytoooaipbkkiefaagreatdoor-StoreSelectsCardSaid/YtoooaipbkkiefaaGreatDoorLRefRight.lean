/- Right, the reference's; Few, names. -/
import Derived.Test.YtoooaipbkkiefaaGreatDoorLLabs
namespace Go.Proofs.YtoooaipbkkiefaaGreatDoor
open Go.RowKit
set_option maxRecDepth 100000
set_option maxHeartbeats 1000000

/-! Few -/
def fewP (l : List Lb) : Prop := l.length ≤ 80 ∧ ∀ x ∈ l, x.1.size ≤ 400 ∧ x.2.size ≤ 2000
instance (l : List Lb) : Decidable (fewP l) := by unfold fewP; infer_instance
def fewTo (l : List Lb) (k : Nat) : Prop := ∀ i x, i < k → l[i]? = some x → x.1.size ≤ 400 ∧ x.2.size ≤ 2000
theorem fewTo_end {l : List Lb} (h : fewTo l l.length) (hl : l.length ≤ 80) : decide (fewP l) = true := by
  rw [decide_eq_true_eq]
  refine ⟨hl, fun x hx => ?_⟩
  obtain ⟨i, hi, rfl⟩ := List.getElem_of_mem hx
  exact h i _ hi (List.getElem?_eq_getElem hi)
theorem fewTo_not {l : List Lb} {k : Nat} (hk : k < l.length) (h : 400 < (l[k]).1.size ∨ 2000 < (l[k]).2.size) : decide (fewP l) = false := by
  rw [decide_eq_false_iff_not]
  intro hf
  have := hf.2 _ (List.getElem_mem hk)
  omega
theorem fewTo_s {l : List Lb} {k : Nat} (hk : k < l.length) (h : fewTo l k) (h1 : (l[k]).1.size ≤ 400) (h2 : (l[k]).2.size ≤ 2000) : fewTo l (k + 1) := by
  intro i x hi hx
  by_cases e : i = k
  · subst e; rw [List.getElem?_eq_getElem hk] at hx; cases hx; exact ⟨h1, h2⟩
  · exact h i x (by omega) hx
theorem few_any (A : Option Addr) (l : List Lb) (c : Nat) (w : World) (h : LabsAt w A l) (hw : Wd l) (hl : l.length ≤ 1099511627776) :
    Calls Tryz.prog 53 #[.slice A l.length c] w fun e w' => e = .returned (.bool (decide (fewP l))) ∧ w = w' := by
  have HL := Lib.hid h; have HW := Lib.hid hw
  clear h hw
  by_cases h80 : 80 < l.length
  · have H : Hid (decide (fewP l) = false) := Lib.hid (by rw [decide_eq_false_iff_not]; intro hf; have := hf.1; omega)
    go_enter Tryz.func53, Tryz.ntmps53
    go_wp2
    go_ret
    exact ⟨by rw [H.out]; rfl, rfl⟩
  have h80 : l.length ≤ 80 := by omega
  go_enter Tryz.func53, Tryz.ntmps53
  go_wp2
  go_loop [3] (fun i => ∃ k : Nat, k ≤ l.length ∧ i = .int .i64 k ∧ Hid (fewTo l k)) (fun i => l.length - (intOf i).toNat)
  case atStart => exact ⟨0, Nat.zero_le _, rfl, fun i x hi => absurd hi (by omega)⟩
  case round =>
    obtain ⟨k, hk, rfl, HU⟩ := hrel
    by_cases hlt : k < l.length
    · obtain ⟨b, o, rfl, c1, c2, -⟩ := HL.out.at_ hlt
      have hn := HW.out _ (List.getElem_mem hlt)
      obtain ⟨x, hx⟩ : ∃ x, l[k] = x := ⟨_, rfl⟩
      have out : (400 < x.1.size ∨ 2000 < x.2.size) → Hid (decide (fewP l) = false) := fun h => fewTo_not hlt (by rw [hx]; exact h)
      have outy : x.1.size ≤ 400 → x.2.size ≤ 2000 → Hid (fewTo l (k + 1)) := fun h1 h2 => fewTo_s hlt HU.out (by rw [hx]; exact h1) (by rw [hx]; exact h2)
      have OUT := Lib.hid out; have OUTY := Lib.hid outy
      rw [hx] at c1 c2 hn
      clear hx out outy
      obtain ⟨nm, vl⟩ := x
      obtain ⟨hn1, hn2⟩ := hn
      simp only at hn1 hn2 c1 c2
      unfold maxLen at hn1 hn2
      by_cases g1 : nm.size ≤ 400
      · by_cases g2 : vl.size ≤ 2000
        · have HN := OUTY.out g1 g2
          go_wp2
          go_round
          case rel => exact ⟨k + 1, by omega, by go_num, HN⟩
          case measure => simp [intOf]; omega
        · have HN := OUT.out (.inr (by show 2000 < vl.size; omega))
          go_wp2
          go_ret
          exact ⟨by rw [HN.out]; rfl, rfl⟩
      · have HN := OUT.out (.inl (by show 400 < nm.size; omega))
        go_wp2
        go_ret
        exact ⟨by rw [HN.out]; rfl, rfl⟩
    · obtain rfl : k = l.length := by omega
      have H := Lib.hid (fewTo_end HU.out h80)
      go_wp2
      go_ret
      exact ⟨by rw [H.out]; rfl, rfl⟩
theorem few_big (A : Option Addr) (n c : Nat) (w : World) (h : 80 < n) (hn : n ≤ maxLen) :
    Calls Tryz.prog 53 #[.slice A n c] w fun e w' => e = .returned (.bool false) ∧ w = w' := by
  unfold maxLen at hn
  go_enter Tryz.func53, Tryz.ntmps53
  go_wp2
  go_ret
  exact ⟨rfl, rfl⟩
end Go.Proofs.YtoooaipbkkiefaaGreatDoor
