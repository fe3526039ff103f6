/- The window's outcome, one way. -/
import Derived.Test.YtjjfkjpkbpefpaaDoorVOut
namespace Go.Proofs.YtjjfkjpkbpefpaaDoor.Vn
open Go.RowKit
set_option maxRecDepth 100000
set_option maxHeartbeats 4000000

theorem outW9 (A : Option Addr) (cap x : Nat) (r : List Nat) (len : Nat) (w : World) (H : OutH 9 A cap x r w) : OutC 9 A cap x r len w := by
  have HT := Lib.hid H.ht
  have c1 := H.c1
  have hn := H.hn
  have hm := H.hm
  have CI := Lib.hid (fun W (g : Gr w W) => increase_any A cap x r W (H.ht.gv g) (H.h.gr g) H.hc (by have := H.hn; omega))
  have HV : Hid (∀ W W', canon (divV W (incL (x :: r)) (divV W' len 4652007308841189376)) = valF 9 (x :: r) len) := Lib.hid fun W W' => fin_div (by unfold valF; exact divC_r _ (divV_c ..))
  obtain ⟨V, hV⟩ : ∃ V, valF 9 (x :: r) len = V := ⟨_, rfl⟩
  unfold OutC OutPost
  rw [hV] at HV ⊢
  clear H hV
  go_enter Tryd.func27, Tryd.ntmps27
  go_wp2_with (first
    | (go_at_call 49; refine (CI.out _ ((Gr.refl _).drewN _)).mono ?_; rintro e w5 ⟨rfl, g5⟩; have HT5 := Lib.hid (HT.out.gv (((Gr.refl _).drewN _).trans g5)); have G5 := Lib.hid (((Gr.refl _).drewN _).trans g5); clear g5)
    | (go_at_call 56; refine (canon_any _ _ (by exact HT5.out.drewN _)).mono ?_; rintro e w' ⟨rfl, rfl⟩)
    | fail)
  go_ret2
  exact ⟨by rw [HV.out]; rfl, by exact G5.out.drewN _⟩
end Go.Proofs.YtjjfkjpkbpefpaaDoor.Vn
