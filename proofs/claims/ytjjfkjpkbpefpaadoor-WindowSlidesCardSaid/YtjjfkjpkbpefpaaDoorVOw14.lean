/- The window's outcome, one way. -/
import Derived.Test.YtjjfkjpkbpefpaaDoorVOut
namespace Go.Proofs.YtjjfkjpkbpefpaaDoor.Vn
open Go.RowKit
set_option maxRecDepth 100000
set_option maxHeartbeats 4000000

theorem outW14 (A : Option Addr) (cap x : Nat) (r : List Nat) (len : Nat) (w : World) (H : OutH 14 A cap x r w) : OutC 14 A cap x r len w := by
  have HT := Lib.hid H.ht
  have c1 := H.c1
  have hn := H.hn
  have hm := H.hm
  obtain ⟨s, hs⟩ : ∃ s, (sumF (seqOf (x :: r)) (r.length + 1)).1 = s := ⟨_, rfl⟩
  obtain ⟨t, hts⟩ : ∃ t, (sumF (seqOf (x :: r)) (r.length + 1)).2 = t := ⟨_, rfl⟩
  have CW := Lib.hid (sum_any A (r.length + 1) cap (seqOf (x :: r)) w H.ht (FlL.seq H.h) (by unfold maxLen; omega))
  rw [hs, hts] at CW
  have CQ := Lib.hid (fun W => qu_any s t W)
  have HV : Hid (∀ W, canon (divV W (floatOfInt .f64 ((quV s t : Nat) : Int)) 4607182418800017408) = valF 14 (x :: r) len) := Lib.hid fun W => fin_one (Flo.ofI_lt _) (by rw [← hs, ← hts]; exact ofI_cn _ (by have := quV_le (sumF (seqOf (x :: r)) (r.length + 1)).1 (sumF (seqOf (x :: r)) (r.length + 1)).2; omega))
  clear hs hts
  obtain ⟨V, hV⟩ : ∃ V, valF 14 (x :: r) len = V := ⟨_, rfl⟩
  unfold OutC OutPost
  rw [hV] at HV ⊢
  clear H hV
  go_enter Tryd.func27, Tryd.ntmps27
  go_wp2_with (first
    | (go_at_call 54; refine CW.out.mono ?_; rintro e w' ⟨rfl, n5, rfl⟩)
    | (go_at_call 55; refine (CQ.out _).mono ?_; rintro e w' ⟨rfl, rfl⟩)
    | (go_at_call 56; refine (canon_any _ _ (by exact HT.out.drewN _)).mono ?_; rintro e w' ⟨rfl, rfl⟩)
    | fail)
  go_ret2
  exact ⟨by rw [HV.out]; rfl, by first | exact (Gr.refl _).drewN _ | exact ((Gr.refl _).drewN _).drewN _ | exact (((Gr.refl _).drewN _).drewN _).drewN _⟩
end Go.Proofs.YtjjfkjpkbpefpaaDoor.Vn
