/- The contracts of Sum, the program's and the reference's. -/
import Derived.Test.YtihiklmomhhdbaaDoorLabs
import Derived.Test.YtihiklmomhhdbaaDoorFOps
import Derived.Deep.DeepMust
namespace Go.Proofs.YtihiklmomhhdbaaDoor
open Go.RowKit
set_option maxRecDepth 100000
set_option maxHeartbeats 1000000

/-! Few -/
def fewP (l : List Lb) : Prop := l.length ≤ 80 ∧ ∀ x ∈ l, x.1.size ≤ 400 ∧ x.2.size ≤ 2000
instance (l : List Lb) : Decidable (fewP l) := by unfold fewP; infer_instance
def fewTo (l : List Lb) (k : Nat) : Prop := ∀ i x, i < k → l[i]? = some x → x.1.size ≤ 400 ∧ x.2.size ≤ 2000
theorem fewTo_end {l : List Lb} (h : fewTo l l.length) (hl : l.length ≤ 80) : decide (fewP l) = true := by
  rw [decide_eq_true_eq]
  refine ⟨hl, fun x hx => ?_⟩
  obtain ⟨i, hi, rfl⟩ := List.getElem_of_mem hx
  exact h i _ hi (List.getElem?_eq_getElem hi)
theorem fewTo_not {l : List Lb} {k : Nat} (hk : k < l.length) (h : 400 < (l[k]).1.size ∨ 2000 < (l[k]).2.size) : decide (fewP l) = false := by
  rw [decide_eq_false_iff_not]
  intro hf
  have := hf.2 _ (List.getElem_mem hk)
  omega
theorem fewTo_s {l : List Lb} {k : Nat} (hk : k < l.length) (h : fewTo l k) (h1 : (l[k]).1.size ≤ 400) (h2 : (l[k]).2.size ≤ 2000) : fewTo l (k + 1) := by
  intro i x hi hx
  by_cases e : i = k
  · subst e; rw [List.getElem?_eq_getElem hk] at hx; cases hx; exact ⟨h1, h2⟩
  · exact h i x (by omega) hx
end Go.Proofs.YtihiklmomhhdbaaDoor
namespace Go.Proofs.YtihiklmomhhdbaaDoor.Fv
open Go.RowKit

theorem holds_rng {op : Int} (h : 5 ≤ op ∧ op ≤ 10) : op = 5 ∨ op = 6 ∨ op = 7 ∨ op = 8 ∨ op = 9 ∨ op = 10 := by omega

/-- a comparison with 0, as the walk says it -/
theorem gt0_walk {a : Nat} {c : Bool} (h : gtB a 0 = c) : (FloatKind.f64.format.order a 0 == some .gt) = c := h
theorem lt0_walk {a : Nat} {c : Bool} (h : ltB a 0 = c) : (FloatKind.f64.format.order a 0 == some .lt) = c := h
def sgV (v : Nat) : Nat := if gtB v 0 then one else if ltB v 0 then mone else v

end Go.Proofs.YtihiklmomhhdbaaDoor.Fv
namespace Go.Proofs.YtihiklmomhhdbaaDoor.Fv
open Go.RowKit
set_option maxHeartbeats 400000
set_option maxRecDepth 100000

theorem nanB_key (b : Nat) : nanB b = Flo.isNan b := by
  have e := Flo.order_key b b
  show (Ieee.double.order b b != some .eq) = _
  rw [e]
  cases h : Flo.isNan b
  · have c : compare (Flo.key b) (Flo.key b) = .eq := by simp
    rw [c]; rfl
  · simp

theorem add_nan {b : Nat} (v : Nat) (h : nanB b = true) : Ieee.double.add b v = none := by
  rw [nanB_key] at h
  have hr : 0x7FF0000000000000 < Flo.rung b := by simpa [Flo.isNan] using h
  rcases Flo.shape b with ⟨m, p, _, hx, _⟩ | ⟨hx, _⟩ | ⟨_, hrx⟩
  · omega
  · omega
  · unfold Ieee.Format.add
    rw [hrx]
    rfl

theorem kNaN_nan : nanB kNaN.toNat = true := by decide +kernel

def addC (c v : Nat) : Nat := canonO (Ieee.double.add c v)
theorem addC_canon {b c : Nat} (v : Nat) (h : canon b = c) : canonO (Ieee.double.add b v) = addC c v := by
  unfold addC
  cases hb : nanB b
  · have : canon b = b := by simp [canon, hb]
    rw [← h, this]
  · have h1 := add_nan v hb
    have h2 : c = kNaN.toNat := by rw [← h]; simp [canon, hb]
    have h3 := add_nan v (h2 ▸ kNaN_nan : nanB c = true)
    rw [h1, h3]
theorem addC_some {b c v r : Nat} (h : canon b = c) (ha : Ieee.double.add b v = some r) : canon r = addC c v := by
  rw [← addC_canon v h, ha]; rfl
theorem addC_none {b c v : Nat} (w : World) (h : canon b = c) (ha : Ieee.double.add b v = none) : canon (nanAt w b v) = addC c v := by
  rw [← addC_canon v h, ha, nanAt_canon]; rfl

/-- the sum from the left, of the first k + 1 -/
def sumF (x : Nat → Nat) : Nat → Nat
  | 0 => canon (x 0)
  | k + 1 => addC (sumF x k) (x (k + 1))

theorem sum_nil (w : World) :
    Calls Tryd.prog 41 #[.slice none 0 0] w fun e w' => e = .returned (.float .f64 0) ∧ ∃ n, w' = w.drewN n := by
  go_enter Tryd.func41, Tryd.ntmps41
  go_wp2
  go_ret
  exact ⟨rfl, 0, rfl⟩

theorem sum_one (b off cap : Nat) (x : Nat → Nat) (w : World) (ht : Tab w) (h1 : 1 ≤ cap)
    (c0 : w.cell? ⟨b, off, none⟩ = some (.float .f64 (x 0))) :
    Calls Tryd.prog 41 #[.slice (some ⟨b, off, none⟩) 1 cap] w fun e w' => e = .returned (.float .f64 (sumF x 0)) ∧ ∃ n, w' = w.drewN n := by
  by_cases hc : cap = 1
  · subst hc
    go_enter Tryd.func41, Tryd.ntmps41
    go_wp2
    refine wp_loop_rounds 1 ?_
    rw [rounds_succ]
    go_wp2_with (go_at_call 17; refine (canon_any _ _ ht).mono ?_; rintro e w' ⟨rfl, rfl⟩)
    go_ret
    exact ⟨rfl, 0, rfl⟩
  · have hc' : 1 < cap := by omega
    clear hc h1
    go_enter Tryd.func41, Tryd.ntmps41
    go_wp2
    refine wp_loop_rounds 1 ?_
    rw [rounds_succ]
    go_wp2_with (go_at_call 17; refine (canon_any _ _ ht).mono ?_; rintro e w' ⟨rfl, rfl⟩)
    go_ret
    exact ⟨rfl, 0, rfl⟩

theorem sum_any (b off m cap : Nat) (x : Nat → Nat) (w : World) (ht : Tab w) (h1 : 1 ≤ m) (hlc : m + 1 ≤ cap) (hm : cap ≤ maxLen)
    (hc : ∀ i, i ≤ m → w.cell? ⟨b, off + i, none⟩ = some (.float .f64 (x i))) :
    Calls Tryd.prog 41 #[.slice (some ⟨b, off, none⟩) (m + 1) cap] w fun e w' => e = .returned (.float .f64 (sumF x m)) ∧ ∃ n, w' = w.drewN n := by
  unfold maxLen at hm
  have c0 : w.cell? ⟨b, off, none⟩ = some (.float .f64 (x 0)) := hc 0 (by omega)
  have HC : Hid (∀ i, i < m → w.cell? ⟨b, off + 1 + i, none⟩ = some (.float .f64 (x (i + 1)))) := fun i hi => by
    have := hc (i + 1) (by omega)
    rw [show off + 1 + i = off + (i + 1) from by omega]; exact this
  have HT := Lib.hid ht; clear hc ht
  go_enter Tryd.func41, Tryd.ntmps41
  go_wp2
  go_loopw [3, 15] (fun s i wr => ∃ k : Nat, k ≤ m ∧ i = .int .i64 k ∧ (∃ c, s = .float .f64 c ∧ canon c = sumF x k) ∧ ∃ n, wr = w.drewN n) (fun _ i _ => m - (intOf i).toNat)
  case atStart => exact ⟨0, Nat.zero_le _, rfl, ⟨_, rfl, rfl⟩, 0, rfl⟩
  case round =>
    obtain ⟨k, hk, rfl, ⟨c, rfl, hcc⟩, n, rfl⟩ := hrel
    have HCC := Lib.hid hcc; clear hcc
    by_cases hlt : k < m
    · have hcell := HC.out k hlt
      cases ha : Ieee.double.add c (x (k + 1)) with
      | none =>
        have hr := fun t w => run_add_none (P := Tryd.prog) ha t w
        have HA := Lib.hid ha; clear ha
        go_wp2
        go_roundw
        case rel => exact ⟨k + 1, by omega, by go_num, ⟨_, rfl, addC_none _ HCC.out HA.out⟩, n + 1, rfl⟩
        case measure => simp [intOf]; omega
      | some r =>
        have hr := fun t w => run_add_some (P := Tryd.prog) ha t w
        have HA := Lib.hid ha; clear ha
        go_wp2
        go_roundw
        case rel => exact ⟨k + 1, by omega, by go_num, ⟨_, rfl, addC_some HCC.out HA.out⟩, n, rfl⟩
        case measure => simp [intOf]; omega
    · obtain rfl : k = m := by omega
      go_wp2_with (go_at_call 17; refine (canon_any _ _ (by exact HT.out.drewN _)).mono ?_; rintro e w' ⟨rfl, rfl⟩)
      go_ret
      exact ⟨by rw [HCC.out]; rfl, _, rfl⟩
end Go.Proofs.YtihiklmomhhdbaaDoor.Fv
