/- The window's outcome, one way. -/
import Derived.Test.YtjjfkjpkbpefpaaDoorVOut
namespace Go.Proofs.YtjjfkjpkbpefpaaDoor.Vn
open Go.RowKit
set_option maxRecDepth 100000
set_option maxHeartbeats 4000000

theorem outW3 (A : Option Addr) (cap x : Nat) (r : List Nat) (len : Nat) (w : World) (H : OutH 3 A cap x r w) : OutC 3 A cap x r len w := by
  have HT := Lib.hid H.ht
  have c1 := H.c1
  have hn := H.hn
  have hm := H.hm
  have CS := Lib.hid (fun W (g : Gr w W) => sumP_any A cap (x :: r) W (H.ht.gv g) (H.h.gr g) H.hc (by simp; have := H.hn; omega))
  have HV : Hid (∀ W, canon (divV W (sumL (x :: r)) (floatOfInt .f64 ((r.length : Int) + 1))) = valF 3 (x :: r) len) := Lib.hid fun W => fin_div (by rw [foi]; unfold valF; simp)
  obtain ⟨V, hV⟩ : ∃ V, valF 3 (x :: r) len = V := ⟨_, rfl⟩
  unfold OutC OutPost
  rw [hV] at HV ⊢
  clear H hV
  go_enter Tryd.func27, Tryd.ntmps27
  go_wp2_with (first
    | (go_at_call 47; refine (CS.out _ (Gr.refl _)).mono ?_; rintro e w' ⟨rfl, n5, rfl⟩)
    | (go_at_call 56; refine (canon_any _ _ (by exact HT.out.drewN _)).mono ?_; rintro e w' ⟨rfl, rfl⟩)
    | fail)
  go_ret2
  exact ⟨by rw [HV.out]; rfl, by first | exact (Gr.refl _).drewN _ | exact ((Gr.refl _).drewN _).drewN _ | exact (((Gr.refl _).drewN _).drewN _).drewN _⟩
end Go.Proofs.YtjjfkjpkbpefpaaDoor.Vn
