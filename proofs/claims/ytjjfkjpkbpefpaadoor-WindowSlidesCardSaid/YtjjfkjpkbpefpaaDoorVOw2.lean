/- The window's outcome, one way. -/
import Derived.Test.YtjjfkjpkbpefpaaDoorVOut
namespace Go.Proofs.YtjjfkjpkbpefpaaDoor.Vn
open Go.RowKit
set_option maxRecDepth 100000
set_option maxHeartbeats 4000000

theorem outW2 (A : Option Addr) (cap x : Nat) (r : List Nat) (len : Nat) (w : World) (H : OutH 2 A cap x r w) : OutC 2 A cap x r len w := by
  have HT := Lib.hid H.ht
  have c1 := H.c1
  have hn := H.hn
  have hm := H.hm
  have CS := Lib.hid (sumP_any A cap (x :: r) w H.ht H.h H.hc (by simp; have := H.hn; omega))
  have HV : Hid (∀ W, canon (divV W (sumL (x :: r)) 4607182418800017408) = valF 2 (x :: r) len) := Lib.hid fun W => fin_one (sumL_lt H.hb) (sumL_cn _)
  obtain ⟨V, hV⟩ : ∃ V, valF 2 (x :: r) len = V := ⟨_, rfl⟩
  unfold OutC OutPost
  rw [hV] at HV ⊢
  clear H hV
  go_enter Tryd.func27, Tryd.ntmps27
  go_wp2_with (first
    | (go_at_call 47; refine CS.out.mono ?_; rintro e w' ⟨rfl, n5, rfl⟩)
    | (go_at_call 56; refine (canon_any _ _ (by exact HT.out.drewN _)).mono ?_; rintro e w' ⟨rfl, rfl⟩)
    | fail)
  go_ret2
  exact ⟨by rw [HV.out]; rfl, by first | exact (Gr.refl _).drewN _ | exact ((Gr.refl _).drewN _).drewN _ | exact (((Gr.refl _).drewN _).drewN _).drewN _⟩
end Go.Proofs.YtjjfkjpkbpefpaaDoor.Vn
