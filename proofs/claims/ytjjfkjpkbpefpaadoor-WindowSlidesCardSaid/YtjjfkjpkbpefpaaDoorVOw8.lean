/- The window's outcome, one way. -/
import Derived.Test.YtjjfkjpkbpefpaaDoorVOut
namespace Go.Proofs.YtjjfkjpkbpefpaaDoor.Vn
open Go.RowKit
set_option maxRecDepth 100000
set_option maxHeartbeats 4000000

theorem outW8 (A : Option Addr) (cap x : Nat) (r : List Nat) (len : Nat) (w : World) (H : OutH 8 A cap x r w) : OutC 8 A cap x r len w := by
  have HT := Lib.hid H.ht
  have c1 := H.c1
  have hn := H.hn
  have hm := H.hm
  have CI := Lib.hid (fun W (g : Gr w W) => increase_any A cap x r W (H.ht.gv g) (H.h.gr g) H.hc (by have := H.hn; omega))
  have HV : Hid (∀ W, canon (divV W (incL (x :: r)) 4607182418800017408) = valF 8 (x :: r) len) := Lib.hid fun W => fin_one (incL_lt _) (incL_cn _)
  obtain ⟨V, hV⟩ : ∃ V, valF 8 (x :: r) len = V := ⟨_, rfl⟩
  unfold OutC OutPost
  rw [hV] at HV ⊢
  clear H hV
  go_enter Tryd.func27, Tryd.ntmps27
  go_wp2_with (first
    | (go_at_call 49; refine (CI.out _ (Gr.refl _)).mono ?_; rintro e w5 ⟨rfl, g5⟩; have HT5 := Lib.hid (HT.out.gv g5); have G5 := Lib.hid g5; clear g5)
    | (go_at_call 56; refine (canon_any _ _ (by exact HT5.out.drewN _)).mono ?_; rintro e w' ⟨rfl, rfl⟩)
    | fail)
  go_ret2
  exact ⟨by rw [HV.out]; rfl, by exact G5.out.drewN _⟩
end Go.Proofs.YtjjfkjpkbpefpaaDoor.Vn
