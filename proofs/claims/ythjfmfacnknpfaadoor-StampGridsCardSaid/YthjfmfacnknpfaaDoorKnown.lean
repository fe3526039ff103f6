/- The laws' first test: it answers true. -/
import Derived.Test.YthjfmfacnknpfaaDoorDurW
import Derived.Test.YthjfmfacnknpfaaDoorBack
namespace Go.Proofs.YthjfmfacnknpfaaDoor
open Go.RowKit
set_option maxRecDepth 100000
set_option maxHeartbeats 1000000

theorem t1 : textD 5400000 = [49, 104, 51, 48, 109] := by
  simp [textD, textF, piece, unitSize, unitName, Lib.decDigits]
theorem t2 : textD 90061001 = [49, 100, 49, 104, 49, 109, 49, 115, 49, 109, 115] := by
  simp [textD, textF, piece, unitSize, unitName, Lib.decDigits]
theorem duration_gr (s : ByteArray) (w : World) (hs : s.size ≤ maxLen) (ht : TabU w) :
    Calls Tryd.prog 17 #[.string s] w fun e w' => e = .returned (.tuple #[.int .i64 (resV (durO s.data.toList)), .int .i64 (resE (durO s.data.toList))]) ∧ Gr w w' :=
  (duration_dp s w hs ht).mono fun _ _ ⟨he, k, hk⟩ => ⟨he, by rw [hk]; exact (Gr.refl _).drewN k⟩
theorem k_dur (w : World) (ht : TabU w) :
    Calls Tryd.prog 17 #[.string ⟨#[49, 104, 51, 48, 109]⟩] w fun e w' => e = .returned (.tuple #[.int .i64 5400000, .int .i64 0]) ∧ Gr w w' := by
  have hb := back_res 5400000 (by omega) (by omega)
  rw [t1] at hb
  refine (duration_gr ⟨#[49, 104, 51, 48, 109]⟩ w (by decide) ht).mono fun e w' ⟨he, hg⟩ => ⟨?_, hg⟩
  rw [he]
  show Ending.returned (.tuple #[.int .i64 (resV (durO [49, 104, 51, 48, 109])), .int .i64 (resE (durO [49, 104, 51, 48, 109]))]) = _
  rw [hb.1, hb.2]; rfl
theorem k_text (w : World) (hk : KnU w) :
    Calls Tryd.prog 19 #[.int .i64 90061001] w fun e w' => e = .returned (.tuple #[.string ⟨#[49, 100, 49, 104, 49, 109, 49, 115, 49, 109, 115]⟩, .int .i64 0]) ∧ Gr w w' := by
  refine (text_any 90061001 w (by omega) (by omega) hk).mono fun e w' ⟨he, hg⟩ => ⟨?_, hg⟩
  rw [he, t2]
theorem k_at (w : World) :
    Calls Tryd.prog 21 #[.agg #[.int .i64 5, .int .i64 20, .int .i64 7], .int .i64 2] w fun e w' => e = .returned (.tuple #[.int .i64 19, .bool true]) ∧ Gr w w' := by
  have h1 : atV 5 20 7 2 = 19 := by decide +kernel
  have h2 : atB 5 20 7 2 = true := by decide +kernel
  refine (at_any 5 20 7 2 w).mono fun e w' ⟨he, hg⟩ => ⟨?_, hg⟩
  rw [he, h1, h2]
theorem known_any (w : World) (hk : KnU w) :
    Calls Tryd.prog 8 #[] w fun e w' => e = .returned (.bool true) ∧ Gr w w' := by
  have HK := Lib.hid hk; clear hk
  go_enter Tryd.func8, Tryd.ntmps8
  go_wp2_with fail
  refine (k_dur _ HK.out.u).mono ?_
  rintro e w1 ⟨rfl, hg1⟩
  go_wp2_with fail
  refine (k_text _ (HK.out.gr hg1)).mono ?_
  rintro e w2 ⟨rfl, hg2⟩
  go_wp2_with fail
  refine (k_at _).mono ?_
  rintro e w3 ⟨rfl, hg3⟩
  go_wp2
  go_ret
  exact ⟨rfl, (hg1.trans hg2).trans hg3⟩
end Go.Proofs.YthjfmfacnknpfaaDoor
