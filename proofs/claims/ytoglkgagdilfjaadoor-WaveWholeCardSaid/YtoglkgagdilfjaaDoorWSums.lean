/- WaveSums: its walk. -/
import Derived.Test.YtoglkgagdilfjaaDoorWPairs
namespace Go.Proofs.YtoglkgagdilfjaaDoor
open Go.RowKit
set_option maxRecDepth 100000
set_option maxHeartbeats 4000000

theorem sumF_canon (x : Nat → Nat) (k : Nat) : canon (sumF x k).1 = (sumF x k).1 ∧ canon (sumF x k).2 = (sumF x k).2 := by
  induction k with
  | zero => rw [sumF_z]; exact ⟨canon_0, canon_0⟩
  | succ k ih =>
    rcases (by omega : k % 4 = 0 ∨ k % 4 = 1 ∨ k % 4 = 2 ∨ k % 4 = 3) with h | h | h | h
    · rw [sumF_0 h]; exact ⟨canonO_idem _, ih.2⟩
    · rw [sumF_1 h]; exact ⟨ih.1, canonO_idem _⟩
    · rw [sumF_2 h]; exact ⟨canonO_idem _, ih.2⟩
    · rw [sumF_3 h]; exact ⟨ih.1, canonO_idem _⟩
theorem walkSums_many (A : Option Addr) (n cap : Nat) (w : World) (ht : Tab w) (hn : n ≤ maxLen) (hb : 600 < n) :
    Calls Tryd.prog 4 #[.slice A n cap] w fun e w' => e = .returned (.bool true) ∧ Gr w w' := by
  have CK := Lib.hid (known_any w ht)
  unfold maxLen at hn
  clear ht
  go_enter Tryd.func4, Tryd.ntmps4
  go_wp2_with (first
    | (go_at_call 7; refine CK.out.mono ?_; rintro e w1 ⟨rfl, g1⟩)
    | fail)
  go_ret
  exact ⟨rfl, g1⟩
theorem walkSums_few (A : Option Addr) (n cap : Nat) (x : Nat → Nat) (w : World) (ht : Tab w) (h : UsAt w A n x) (hn : n ≤ 600) :
    Calls Tryd.prog 4 #[.slice A n cap] w fun e w' => e = .returned (.bool true) ∧ Gr w w' := by
  have HT := Lib.hid ht
  have CK := Lib.hid (known_any w ht)
  have CV := Lib.hid (fun W (g : Gr w W) => values_any A n cap x W (h.gr g) (by omega))
  obtain ⟨s, hs⟩ : ∃ p, (sumF x n).1 = p := ⟨_, rfl⟩
  obtain ⟨s2, hs2⟩ : ∃ p, (sumF x n).2 = p := ⟨_, rfl⟩
  have hcn := sumF_canon x n
  rw [hs, hs2] at hcn
  have CS := Lib.hid (fun W A' c' (t : Tab W) (h' : FlsAt W A' n x) => sum_any A' n c' x W t h' (by unfold maxLen; omega))
  have CRS := Lib.hid (fun W A' c' (h' : FlsAt W A' n x) => rsum_any A' n c' x W h' (by unfold maxLen; omega))
  rw [hs, hs2] at CS CRS
  have CL := Lib.hid (fun W (t : Tab W) => like_any s s2 s s2 W t)
  rw [same_refl, same_refl] at CL
  have CJ1 := Lib.hid (fun W g (t : Tab W) (hc : W.cell? ⟨g, 0, none⟩ = some (.complex .f64 s s2)) => join_one g 0 1 s s2 W t hc (by omega))
  rw [hcn.1, hcn.2] at CJ1
  have HS0 : Hid (n = 0 → s = 0 ∧ s2 = 0) := Lib.hid (fun e => by subst e; rw [← hs, ← hs2, sumF_z]; exact ⟨rfl, rfl⟩)
  have CJ0 := Lib.hid (fun W => join_nil none 0 W)
  have CL0 := Lib.hid (fun W (t : Tab W) => like_any 0 0 0 0 W t)
  rw [same_refl] at CL0
  clear ht h hs hs2 hcn
  by_cases h0 : n = 0
  · obtain ⟨rfl, rfl⟩ := HS0.out h0
    subst h0
    go_enter Tryd.func4, Tryd.ntmps4
    go_wp2_with (first
      | (go_at_call 7; refine CK.out.mono ?_; rintro e w1 ⟨rfl, g1⟩)
      | (go_at_call 8; refine (CV.out _ g1).mono ?_; rintro e w2 ⟨g2, A2, c2, rfl, h1, h2, h3⟩; have H3 : Hid (∀ k, FlsAt (w2.drewN k) A2 0 x) := Lib.hid (fun k => h3.drewN k); have G2 := Lib.hid (g1.trans g2); have HT2 : Hid (∀ n, Tab (w2.drewN n)) := Lib.hid (fun n => (HT.out.gr G2.out).drewN n); clear h3 h2 g2 g1)
      | (go_at_call 20; refine (CRS.out _ _ _ (H3.out 0)).mono ?_; rintro e w4 ⟨rfl, n4, rfl⟩)
      | (go_at_call 21; refine (CS.out _ _ _ (HT2.out _) (H3.out _)).mono ?_; rintro e w5 ⟨rfl, n5, rfl⟩)
      | (go_at_call 11; refine (CL.out _ (HT2.out _)).mono ?_; rintro e w6 ⟨rfl, rfl⟩)
      | (go_at_call 22; refine (CJ0.out _).mono ?_; rintro e w7 ⟨rfl, rfl⟩)
      | fail)
    go_ret
    exact ⟨rfl, G2.out.drewN _⟩
  · go_enter Tryd.func4, Tryd.ntmps4
    go_wp2_with (first
      | (go_at_call 7; refine CK.out.mono ?_; rintro e w1 ⟨rfl, g1⟩)
      | (go_at_call 8; refine (CV.out _ g1).mono ?_; rintro e w2 ⟨g2, A2, c2, rfl, h1, h2, h3⟩; have H3 : Hid (∀ k, FlsAt (w2.drewN k) A2 n x) := Lib.hid (fun k => h3.drewN k); have G2 := Lib.hid (g1.trans g2); have HT2 : Hid (∀ n, Tab (w2.drewN n)) := Lib.hid (fun n => (HT.out.gr G2.out).drewN n); have HT3 : Hid (∀ n, Tab ((w2.drewN n).alloc (.cells #[.complex .f64 s s2] 27))) := Lib.hid (fun n => ((HT.out.gr G2.out).drewN n).gr ((Gr.refl _).alloc _ _)); clear h3 h2 g2 g1)
      | (go_at_call 20; refine (CRS.out _ _ _ (H3.out 0)).mono ?_; rintro e w4 ⟨rfl, n4, rfl⟩)
      | (go_at_call 21; refine (CS.out _ _ _ (HT2.out _) (H3.out _)).mono ?_; rintro e w5 ⟨rfl, n5, rfl⟩)
      | (go_at_call 22; refine (CJ1.out _ _ (HT3.out _) ?hj).mono ?_; (case hj => rw [World.cell?_alloc_at _ _ _ _ (by simp)]; rfl); rintro e w7 ⟨rfl, rfl⟩)
      | (go_at_call 11; first | (refine (CL.out _ (HT2.out _)).mono ?_; rintro e w6 ⟨rfl, rfl⟩) | (refine (CL.out _ (HT3.out _)).mono ?_; rintro e w6 ⟨rfl, rfl⟩))
      | fail)
    go_ret
    exact ⟨rfl, (G2.out.drewN _).alloc _ _⟩
theorem walkSums (A : Option Addr) (n cap : Nat) (x : Nat → Nat) (w : World) (ht : Tab w) (h : UsAt w A n x) (hn : n ≤ maxLen) :
    Calls Tryd.prog 4 #[.slice A n cap] w fun e w' => e = .returned (.bool true) ∧ Gr w w' := by
  by_cases hb : 600 < n
  · exact walkSums_many A n cap w ht hn hb
  · exact walkSums_few A n cap x w ht h (by omega)
end Go.Proofs.YtoglkgagdilfjaaDoor
