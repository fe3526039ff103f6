/- The laws' first test: it answers true. -/
import Derived.Test.YtegbenbhiadnbaaDoorKey
import Derived.Test.YtegbenbhiadnbaaDoorRefSet
namespace Go.Proofs.YtegbenbhiadnbaaDoor
open Go.RowKit Go.Sort
set_option maxRecDepth 100000
set_option maxHeartbeats 2000000

def kl0 : List Lb := [(⟨#[98]⟩, ⟨#[50]⟩), (⟨#[97]⟩, ⟨#[49]⟩), (⟨#[99]⟩, ⟨#[]⟩)]
def kl1 : List Lb := [(⟨#[97]⟩, ⟨#[49]⟩), (⟨#[98]⟩, ⟨#[50]⟩)]
theorem kl0_set : setL kl0 = kl1 := by decide +kernel
theorem kl0_B : setB kl0 = true := by
  rw [setB_t]
  refine ⟨⟨?_, by decide +kernel⟩, by rw [kl0_set]; decide⟩
  have : (kl0.all okN) = true := by decide +kernel
  exact List.all_eq_true.1 this
theorem kl0_wd : Wd kl0 := fun x hx => by
  simp only [kl0, List.mem_cons, List.not_mem_nil, or_false] at hx
  rcases hx with rfl | rfl | rfl <;> decide +kernel
theorem kl1_key : keyL kl1 = [49, 58, 97, 49, 58, 49, 49, 58, 98, 49, 58, 50] := by
  have h : Lib.decDigits 1 = [49] := by simp [Lib.decDigits]
  have e : keyL kl1 = (Lib.decDigits 1 ++ [58] ++ [97] ++ (Lib.decDigits 1 ++ [58] ++ [49])) ++ ((Lib.decDigits 1 ++ [58] ++ [98] ++ (Lib.decDigits 1 ++ [58] ++ [50])) ++ []) := rfl
  rw [e, h]; rfl
theorem kl1_get : getL kl1 nmB = ⟨#[]⟩ := by decide +kernel
theorem kl1_text : textL kl1 = [123, 97, 61, 34, 49, 34, 44, 98, 61, 34, 50, 34, 125] := by
  unfold textL
  rw [kl1_get, nameB_0 (by rfl)]
  decide +kernel
theorem kl1_b : getL kl1 ⟨#[98]⟩ = ⟨#[50]⟩ := by decide +kernel
theorem kl0_at (w : World) (cs : Array Value) (hcs : cs = #[.string ⟨#[98]⟩, .string ⟨#[50]⟩, .string ⟨#[97]⟩, .string ⟨#[49]⟩, .string ⟨#[99]⟩, .string ⟨#[]⟩]) : LabsAt (w.alloc (.cells cs 48)) (some ⟨w.heap.size, 0, none⟩) kl0 := fun _ => ⟨w.heap.size, 0, rfl, fun i x hx => by
  subst hcs
  have hc := fun j => cell_of_row (w.alloc (.cells #[.string ⟨#[98]⟩, .string ⟨#[50]⟩, .string ⟨#[97]⟩, .string ⟨#[49]⟩, .string ⟨#[99]⟩, .string ⟨#[]⟩] 48)) w.heap.size j _ 48 (0, 0) (heap_alloc_new w _)
  rw [hc, hc]
  match i, hx with
  | 0, hx => cases hx; exact ⟨rfl, rfl⟩
  | 1, hx => cases hx; exact ⟨rfl, rfl⟩
  | 2, hx => cases hx; exact ⟨rfl, rfl⟩⟩
theorem known_any (w : World) (hk : Kn w) :
    Calls Tryd.prog 6 #[] w fun e w' => e = .returned (.bool true) ∧ Gr w w' := by
  have HK := Lib.hid hk; clear hk
  have CS := Lib.hid (fun W A (h : LabsAt W A kl0) => set_any A kl0 3 W h kl0_wd (by decide))
  go_enter Tryd.func6, Tryd.ntmps6
  go_wp2_with fail
  refine (CS.out _ _ (kl0_at w _ rfl)).mono ?_
  rintro e w1 ⟨A, c, rfl, hl, hg⟩
  have hg1 : Gr w w1 := ((Gr.refl w).alloc _ _).trans hg
  rw [(setV_t kl0_B).1, kl0_set] at hl ⊢
  rw [(setV_t kl0_B).2]
  obtain ⟨b, o, rfl, c1, c2, -⟩ := hl.at_ (k := 0) (by decide)
  have c1' : w1.cell? ⟨b, o, none⟩ = some (.string ⟨#[97]⟩) := by have h := c1; rw [Nat.zero_mul, Nat.add_zero] at h; exact h
  have HL := Lib.hid hl
  have HG := Lib.hid hg1
  have CK := Lib.hid (key_any (some ⟨b, o, none⟩) kl1 c w1 hl (by decide) (by decide) (HK.out.gr hg1))
  rw [kl1_key] at CK
  have CT := Lib.hid (fun W (g : Gr w1 W) => text_any (some ⟨b, o, none⟩) kl1 c W (hl.gr g) (by decide) (by decide))
  rw [kl1_text] at CT
  have CG := Lib.hid (fun W (g : Gr w1 W) => get_any (some ⟨b, o, none⟩) kl1 c ⟨#[98]⟩ W (hl.gr g) (by decide))
  rw [kl1_b] at CG
  clear c1 c2 hl hg hg1
  have hlen : kl1.length = 2 := rfl
  rw [hlen] at CK CT CG ⊢
  clear hlen
  go_wp2_with fail
  refine CK.out.mono ?_
  rintro e w2 ⟨rfl, g2⟩
  go_wp2_with fail
  refine (CT.out _ g2).mono ?_
  rintro e w3 ⟨rfl, g3⟩
  go_wp2_with fail
  refine (CG.out _ (g2.trans g3)).mono ?_
  rintro e w4 ⟨rfl, g4⟩
  go_wp2
  go_ret
  exact ⟨rfl, ((HG.out.trans g2).trans g3).trans g4⟩
end Go.Proofs.YtegbenbhiadnbaaDoor
