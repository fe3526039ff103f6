/- The window's outcome, one way. -/
import Derived.Test.YtjjfkjpkbpefpaaDoorVOut
namespace Go.Proofs.YtjjfkjpkbpefpaaDoor.Vn
open Go.RowKit
set_option maxRecDepth 100000
set_option maxHeartbeats 4000000

theorem outW10 (A : Option Addr) (cap x : Nat) (r : List Nat) (len : Nat) (w : World) (H : OutH 10 A cap x r w) : OutC 10 A cap x r len w := by
  have HT := Lib.hid H.ht
  have c1 := H.c1
  have hn := H.hn
  have hm := H.hm
  obtain ⟨z, hz⟩ : ∃ z, (x :: r).getLastD 0 = z := ⟨_, rfl⟩
  have hlast := last_get x r
  rw [hz] at hlast
  obtain ⟨b, off, rfl, hcells⟩ := H.h (by simp)
  have d0 : w.cell? ⟨b, off, none⟩ = some (.float .f64 x) := hcells 0 x rfl
  have d1 : w.cell? ⟨b, off + r.length, none⟩ = some (.float .f64 z) := hcells _ z hlast
  clear hcells hlast
  have HV : Hid (∀ W W', canon (divV W (subV W' z x) 4607182418800017408) = valF 10 (x :: r) len) := Lib.hid fun W W' => fin_one (subV_lt ..) (by rw [subV_c, ← hz]; rfl)
  obtain ⟨m, hm0⟩ : ∃ m, r.length = m := ⟨_, rfl⟩
  rw [hm0] at d1
  obtain ⟨V, hV⟩ : ∃ V, valF 10 (x :: r) len = V := ⟨_, rfl⟩
  unfold OutC OutPost
  rw [hV] at HV ⊢
  rw [hm0] at hn hm ⊢
  have hcap := H.hc
  rw [hm0] at hcap
  clear H hV hz hm0
  have f1 : (0 : Int) ≤ (m : Int) := by omega
  have f2 : (m : Int) < (m : Int) + 1 := by omega
  have f3 : (0 : Int) < (m : Int) + 1 := by omega
  have w3 : IntKind.i64.wrap ((m : Int) + 1 - 1) = (m : Int) := by rw [IntKind.wrap_i64]; omega
  go_enter Tryd.func27, Tryd.ntmps27
  go_wp2
  go_region
  all_goals go_wp2_with (first
    | (go_at_call 56; refine (canon_any _ _ (by exact HT.out.drewN _)).mono ?_; rintro e w' ⟨rfl, rfl⟩)
    | fail)
  all_goals go_ret2
  all_goals exact ⟨by rw [HV.out]; rfl, by first | exact (Gr.refl _).drewN _ | exact ((Gr.refl _).drewN _).drewN _ | exact (((Gr.refl _).drewN _).drewN _).drewN _⟩
end Go.Proofs.YtjjfkjpkbpefpaaDoor.Vn
