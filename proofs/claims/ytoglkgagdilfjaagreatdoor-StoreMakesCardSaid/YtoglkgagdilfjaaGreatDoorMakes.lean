/- StoreMakes answers true, whatever comes in. -/
import Derived.Test.YtoglkgagdilfjaaGreatDoorMakesOk
namespace Go.Proofs.YtoglkgagdilfjaaGreatDoor
open Go.RowKit Go.Sort
set_option maxRecDepth 100000
set_option maxHeartbeats 4000000

theorem walkMakes_many (A : Option Addr) (c : Nat) (l : List Rwm) (i : Int) (w : World) (h : RawsAt w A l) (hw : WdR l) (hl : l.length ≤ maxLen) (hll : ∀ r ∈ l, r.l.length ≤ maxLen) (hk : Kn w) (ht : Tab w) (hf : ¬ fewR l) :
    Calls Tryz.prog 3 #[.slice A l.length c, .int .i64 i] w fun e w' => e = .returned (.bool true) ∧ Gr w w' := by
  have CK := Lib.hid (knownS_any w hk ht)
  have CF : Hid (∀ W, Gr w W → Calls Tryz.prog 9 #[.slice A l.length c] W fun e w' => e = .returned (.bool false) ∧ W = w') := Lib.hid (fun W g => (fewS_any A c l W (h.gr g) hw hl hll).mono fun e w' ⟨h1, h2⟩ => by
    rcases h2 with ⟨h3, -⟩ | ⟨-, rfl⟩
    · exact absurd h3 hf
    · exact ⟨rfl, h1⟩)
  clear h hw hl hll hk ht hf
  go_enter Tryz.func3, Tryz.ntmps3
  go_wp2_with (first
    | (go_at_call 8; refine CK.out.mono ?_; rintro e w1 ⟨rfl, g1⟩)
    | (go_at_call 9; refine (CF.out _ g1).mono ?_; rintro e w' ⟨rfl, rfl⟩)
    | fail)
  go_ret
  exact ⟨rfl, g1⟩
theorem walkMakes (A : Option Addr) (c : Nat) (l : List Rwm) (i : Int) (w : World) (h : RawsAt w A l) (hw : WdR l) (hl : l.length ≤ maxLen) (hc : l.length ≤ c) (hll : ∀ r ∈ l, r.l.length ≤ maxLen) (hk : Kn w) (ht : Tab w) :
    Calls Tryz.prog 3 #[.slice A l.length c, .int .i64 i] w fun e w' => e = .returned (.bool true) ∧ Gr w w' := by
  by_cases hf : fewR l
  · by_cases he : errA l = 0
    · exact walkMakes_ok A c l i w h hw hl hc hll hk ht hf he
    · exact walkMakes_err A c l i w h hw hl hc hll hk ht hf he
  · exact walkMakes_many A c l i w h hw hl hll hk ht hf
end Go.Proofs.YtoglkgagdilfjaaGreatDoor
