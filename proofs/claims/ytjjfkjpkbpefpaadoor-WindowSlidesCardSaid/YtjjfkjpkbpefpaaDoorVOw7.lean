/- The window's outcome, one way. -/
import Derived.Test.YtjjfkjpkbpefpaaDoorVOut
namespace Go.Proofs.YtjjfkjpkbpefpaaDoor.Vn
open Go.RowKit
set_option maxRecDepth 100000
set_option maxHeartbeats 4000000

theorem outW7 (A : Option Addr) (cap x : Nat) (r : List Nat) (len : Nat) (w : World) (H : OutH 7 A cap x r w) : OutC 7 A cap x r len w := by
  have HT := Lib.hid H.ht
  have c1 := H.c1
  have hn := H.hn
  have hm := H.hm
  obtain ⟨z, hz⟩ : ∃ z, (x :: r).getLastD 0 = z := ⟨_, rfl⟩
  have hlast := last_get x r
  rw [hz] at hlast
  obtain ⟨b, off, rfl, hcells⟩ := H.h (by simp)
  have d0 : w.cell? ⟨b, off, none⟩ = some (.float .f64 x) := hcells 0 x rfl
  have d1 : w.cell? ⟨b, off + r.length, none⟩ = some (.float .f64 z) := hcells _ z hlast
  clear hcells hlast
  have HV : Hid (∀ W, canon (divV W x 4607182418800017408) = valF 7 (x :: r) len) := Lib.hid fun W => fin_one (H.hb _ (List.mem_cons_self ..)) rfl
  obtain ⟨m, hm0⟩ : ∃ m, r.length = m := ⟨_, rfl⟩
  rw [hm0] at d1
  obtain ⟨V, hV⟩ : ∃ V, valF 7 (x :: r) len = V := ⟨_, rfl⟩
  unfold OutC OutPost
  rw [hV] at HV ⊢
  rw [hm0] at hn hm ⊢
  have hcap := H.hc
  rw [hm0] at hcap
  clear H hV hz hm0
  go_enter Tryd.func27, Tryd.ntmps27
  go_wp2_with (first
    | (go_at_call 56; refine (canon_any _ _ (by exact HT.out.drewN _)).mono ?_; rintro e w' ⟨rfl, rfl⟩)
    | fail)
  go_ret2
  exact ⟨by rw [HV.out]; rfl, by first | exact (Gr.refl _).drewN _ | exact ((Gr.refl _).drewN _).drewN _ | exact (((Gr.refl _).drewN _).drewN _).drewN _⟩
end Go.Proofs.YtjjfkjpkbpefpaaDoor.Vn
