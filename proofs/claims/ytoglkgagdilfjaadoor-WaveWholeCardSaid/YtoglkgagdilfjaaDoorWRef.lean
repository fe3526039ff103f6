/- The reference's Turn, Plus, Mag; the laws' helpers. -/
import Derived.Test.YtoglkgagdilfjaaDoorWSum
namespace Go.Proofs.YtoglkgagdilfjaaDoor
open Go.RowKit
set_option maxRecDepth 100000
set_option maxHeartbeats 2000000

theorem rplus_any (a b c d : Nat) (w : World) :
    Calls Tryd.prog 10 #[.float .f64 a, .float .f64 b, .float .f64 c, .float .f64 d] w fun e w' => e = .returned (.tuple #[.float .f64 (addC a c), .float .f64 (addC b d)]) ∧ ∃ n, w' = w.drewN n := by
  go_enter Tryd.func10, Tryd.ntmps10
  go_wp2_with (go_at_call 26; refine (rcanon_any _ _).mono ?_; rintro e w' ⟨rfl, rfl⟩)
  go_ret2
  exact ⟨by rw [← addV_c w a c, ← addV_c (w.drewN (addN a c)) b d]; rfl, _, rfl⟩
theorem rmag_any (r i : Nat) (w : World) :
    Calls Tryd.prog 17 #[.float .f64 r, .float .f64 i] w fun e w' => e = .returned (.float .f64 (magV r i)) ∧ ∃ n, w' = w.drewN n := by
  go_enter Tryd.func17, Tryd.ntmps17
  go_wp2_with (go_at_call 26; refine (rcanon_any _ _).mono ?_; rintro e w' ⟨rfl, rfl⟩)
  go_ret
  exact ⟨by rw [magV_c]; rfl, _, rfl⟩
/-- one turn more -/
def tn : Nat → Nat × Nat → Nat × Nat
  | 0, p => p
  | k + 1, p => tn k (cneg p.2, p.1)
theorem rturn_any (r i : Nat) (n : Int) (w : World) (hr : r < 2 ^ 64) (hi : i < 2 ^ 64) :
    Calls Tryd.prog 9 #[.float .f64 r, .float .f64 i, .int .i64 n] w fun e w' => e = .returned (.tuple #[.float .f64 (tR (qn n) r i), .float .f64 (tI (qn n) r i)]) ∧ w = w' := by
  have hcr := canon_lt r hr
  have hci := canon_lt i hi
  have hnr : cneg r < 2 ^ 64 := canon_lt _ (neg_lt r hr)
  have hni : cneg i < 2 ^ 64 := canon_lt _ (neg_lt i hi)
  have C1 := Lib.hid (fun W => rfn_neg r 0 W hr)
  have C2 := Lib.hid (fun W => rfn_neg i 0 W hi)
  have C3 := Lib.hid (fun W => rfn_neg (cneg i) 0 W hni)
  rw [cneg_cneg i hi] at C3
  have ht : n.tmod 4 = n % 4 ∨ (n.tmod 4 = n % 4 - 4 ∧ n % 4 ≠ 0) := by
    rcases Int.lt_or_le n 0 with h | h
    · have e : n.tmod 4 = -((-n) % 4) := by
        obtain ⟨m, rfl⟩ : ∃ m : Nat, n = -(m : Int) := ⟨(-n).toNat, by omega⟩
        rw [Int.neg_tmod, Int.tmod_eq_emod_of_nonneg (by omega)]; simp
      omega
    · left; exact Int.tmod_eq_emod_of_nonneg h
  have hm0 : 0 ≤ n % 4 := Int.emod_nonneg _ (by omega)
  have hm1 : n % 4 < 4 := Int.emod_lt_of_pos _ (by omega)
  have hcs : ∀ m t : Int, 0 ≤ m → m < 4 → (t = m ∨ (t = m - 4 ∧ m ≠ 0)) → (m = 0 ∧ t = 0) ∨ (m = 1 ∧ t = 1) ∨ (m = 1 ∧ t = -3) ∨ (m = 2 ∧ t = 2) ∨ (m = 2 ∧ t = -2) ∨ (m = 3 ∧ t = 3) ∨ (m = 3 ∧ t = -1) := by omega
  rcases hcs _ _ hm0 hm1 ht with h | h | h | h | h | h | h
  · rw [qn_of (k := 0) (by rw [h.1]; rfl)]
    have h4 := h.2
    clear h ht hr hi hcr hci hnr hni
    go_enter Tryd.func9, Tryd.ntmps9
    go_wp2
    refine wp_loop_rounds 4 ?_
    rw [rounds_succ]
    go_wp2_with (go_at_call 26; refine (rcanon_any _ _).mono ?_; rintro e w' ⟨rfl, rfl⟩)
    go_ret2
    exact ⟨rfl, rfl⟩
  · rw [qn_of (k := 1) (by rw [h.1]; rfl)]
    have h4 := h.2
    clear h ht hr hi hcr hci hnr hni
    go_enter Tryd.func9, Tryd.ntmps9
    go_wp2
    refine wp_loop_rounds 4 ?_
    rw [rounds_succ]
    go_wp2_with (go_at_call 25; refine (C2.out _).mono ?_; rintro e w' ⟨rfl, rfl⟩)
    rw [rounds_succ]
    go_wp2_with (go_at_call 26; refine (rcanon_any _ _).mono ?_; rintro e w' ⟨rfl, rfl⟩)
    go_ret2
    exact ⟨by rw [canon_cneg]; rfl, rfl⟩
  · rw [qn_of (k := 1) (by rw [h.1]; rfl)]
    have h4 := h.2
    clear h ht hr hi hcr hci hnr hni
    go_enter Tryd.func9, Tryd.ntmps9
    go_wp2
    refine wp_loop_rounds 4 ?_
    rw [rounds_succ]
    go_wp2_with (go_at_call 25; refine (C2.out _).mono ?_; rintro e w' ⟨rfl, rfl⟩)
    rw [rounds_succ]
    go_wp2_with (go_at_call 26; refine (rcanon_any _ _).mono ?_; rintro e w' ⟨rfl, rfl⟩)
    go_ret2
    exact ⟨by rw [canon_cneg]; rfl, rfl⟩
  · rw [qn_of (k := 2) (by rw [h.1]; rfl)]
    have h4 := h.2
    clear h ht hr hi hcr hci hnr hni
    go_enter Tryd.func9, Tryd.ntmps9
    go_wp2
    refine wp_loop_rounds 4 ?_
    rw [rounds_succ]
    go_wp2_with (go_at_call 25; refine (C2.out _).mono ?_; rintro e w' ⟨rfl, rfl⟩)
    rw [rounds_succ]
    go_wp2_with (go_at_call 25; refine (C1.out _).mono ?_; rintro e w' ⟨rfl, rfl⟩)
    rw [rounds_succ]
    go_wp2_with (go_at_call 26; refine (rcanon_any _ _).mono ?_; rintro e w' ⟨rfl, rfl⟩)
    go_ret2
    exact ⟨by rw [canon_cneg, canon_cneg]; rfl, rfl⟩
  · rw [qn_of (k := 2) (by rw [h.1]; rfl)]
    have h4 := h.2
    clear h ht hr hi hcr hci hnr hni
    go_enter Tryd.func9, Tryd.ntmps9
    go_wp2
    refine wp_loop_rounds 4 ?_
    rw [rounds_succ]
    go_wp2_with (go_at_call 25; refine (C2.out _).mono ?_; rintro e w' ⟨rfl, rfl⟩)
    rw [rounds_succ]
    go_wp2_with (go_at_call 25; refine (C1.out _).mono ?_; rintro e w' ⟨rfl, rfl⟩)
    rw [rounds_succ]
    go_wp2_with (go_at_call 26; refine (rcanon_any _ _).mono ?_; rintro e w' ⟨rfl, rfl⟩)
    go_ret2
    exact ⟨by rw [canon_cneg, canon_cneg]; rfl, rfl⟩
  · rw [qn_of (k := 3) (by rw [h.1]; rfl)]
    have h4 := h.2
    clear h ht hr hi hcr hci hnr hni
    go_enter Tryd.func9, Tryd.ntmps9
    go_wp2
    refine wp_loop_rounds 4 ?_
    rw [rounds_succ]
    go_wp2_with (go_at_call 25; refine (C2.out _).mono ?_; rintro e w' ⟨rfl, rfl⟩)
    rw [rounds_succ]
    go_wp2_with (go_at_call 25; refine (C1.out _).mono ?_; rintro e w' ⟨rfl, rfl⟩)
    rw [rounds_succ]
    go_wp2_with (go_at_call 25; refine (C3.out _).mono ?_; rintro e w' ⟨rfl, rfl⟩)
    rw [rounds_succ]
    go_wp2_with (go_at_call 26; refine (rcanon_any _ _).mono ?_; rintro e w' ⟨rfl, rfl⟩)
    go_ret2
    exact ⟨by rw [canon_idem, canon_cneg]; rfl, rfl⟩
  · rw [qn_of (k := 3) (by rw [h.1]; rfl)]
    have h4 := h.2
    clear h ht hr hi hcr hci hnr hni
    go_enter Tryd.func9, Tryd.ntmps9
    go_wp2
    refine wp_loop_rounds 4 ?_
    rw [rounds_succ]
    go_wp2_with (go_at_call 25; refine (C2.out _).mono ?_; rintro e w' ⟨rfl, rfl⟩)
    rw [rounds_succ]
    go_wp2_with (go_at_call 25; refine (C1.out _).mono ?_; rintro e w' ⟨rfl, rfl⟩)
    rw [rounds_succ]
    go_wp2_with (go_at_call 25; refine (C3.out _).mono ?_; rintro e w' ⟨rfl, rfl⟩)
    rw [rounds_succ]
    go_wp2_with (go_at_call 26; refine (rcanon_any _ _).mono ?_; rintro e w' ⟨rfl, rfl⟩)
    go_ret2
    exact ⟨by rw [canon_idem, canon_cneg]; rfl, rfl⟩
/-- like: is a complex number of two parts? -/
theorem like_any (a b c d : Nat) (w : World) (ht : Tab w) :
    Calls Tryd.prog 11 #[.complex .f64 a b, .float .f64 c, .float .f64 d] w fun e w' => e = .returned (.bool (sameB a c && sameB b d)) ∧ w = w' := by
  go_enter Tryd.func11, Tryd.ntmps11
  go_wp2_with (go_at_call 19; refine (wsame_any _ _ _ _ _ ht).mono ?_; rintro e w' ⟨rfl, rfl⟩)
  go_ret
  exact ⟨rfl, rfl⟩
theorem same_refl (a : Nat) : sameB a a = true := by unfold sameB; simp
end Go.Proofs.YtoglkgagdilfjaaDoor
