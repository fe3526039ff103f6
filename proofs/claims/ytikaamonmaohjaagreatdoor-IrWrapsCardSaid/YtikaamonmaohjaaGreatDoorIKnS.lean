/- known(): Same of its plans. -/
import Derived.Test.YtikaamonmaohjaaGreatDoorIClean
import Derived.Test.YtikaamonmaohjaaGreatDoorISmS
import Derived.Test.YtikaamonmaohjaaGreatDoorISame
import Derived.Test.YtikaamonmaohjaaGreatDoorIKno
namespace Go.Proofs.YtikaamonmaohjaaGreatDoor.Ir
open Go.RowKit Go.Shelf Go.Sort
set_option maxRecDepth 100000
set_option maxHeartbeats 2000000

theorem cl_win : Cl dWin 0 := by
  constructor
  all_goals first
    | rfl
    | exact fun _ => rfl
    | exact fun _ => ⟨rfl, rfl⟩
    | exact fun _ => ⟨⟨rfl, rfl⟩, rfl, rfl⟩
    | exact fun h => absurd h (by decide)
    | decide
theorem cl_agg : Cl dAgg 1 := by
  constructor
  all_goals first
    | rfl
    | exact fun _ => rfl
    | exact fun _ => ⟨rfl, rfl⟩
    | exact fun _ => ⟨⟨rfl, rfl⟩, rfl, rfl⟩
    | exact fun h => absurd h (by decide)
    | decide
theorem clean_win (p : Np) (w : World) (h : TrP w tWin p) : Calls Tryz.prog 27 #[.agg (nV dWin p 0).toArray] w (FrT tWin w) :=
  clean_step dWin [] p w h cl_win ⟨by decide, by decide, by decide, by decide, by decide⟩ (fun t ht => by simp at ht)
theorem clean_n (p : Np) (w : World) (h : TrP w tN p) : Calls Tryz.prog 27 #[.agg (nV dAgg p 1).toArray] w (FrT tN w) :=
  clean_step dAgg [tWin] p w h cl_agg ⟨by decide, by decide, by decide, by decide, by decide⟩ (fun t ht => by
    obtain rfl : t = tWin := by simpa using ht
    exact fun p' W' _ h' => clean_win p' W' h')
theorem sam_win (p q : Np) (w : World) (h : TrP w tWin p) (h' : TrP w tWin q) : Calls Tryz.prog 26 #[.agg (nV dWin p 0).toArray, .agg (nV dWin q 0).toArray] w fun e w' => e = .returned (.bool true) ∧ Gr w w' :=
  same_step dWin [] p q w h h' rfl ⟨by decide, by decide, by decide, by decide, by decide⟩ (fun t ht => by simp at ht)
theorem sam_n (p q : Np) (w : World) (h : TrP w tN p) (h' : TrP w tN q) : Calls Tryz.prog 26 #[.agg (nV dAgg p 1).toArray, .agg (nV dAgg q 1).toArray] w fun e w' => e = .returned (.bool true) ∧ Gr w w' :=
  same_step dAgg [tWin] p q w h h' rfl ⟨by decide, by decide, by decide, by decide, by decide⟩ (fun t ht => by
    obtain rfl : t = tWin := by simpa using ht
    exact fun p' q' W' _ h1 h2 => sam_win p' q' W' h1 h2)
theorem same_nn (p : Np) (w : World) (h : TrP w tN p) : Calls Tryz.prog 14 #[.agg (nV dAgg p 1).toArray, .agg (nV dAgg p 1).toArray] w fun e w' => e = .returned (.bool true) ∧ Gr w w' :=
  same_gen tN tN p p w true h h (fun W g => clean_n p W (TrP.gr g tN p h)) (fun W g => clean_n p W (TrP.gr g tN p h)) (fun W p' q' _ h1 h2 => sam_n p' q' W h1 h2)
theorem same_nw (p q : Np) (w : World) (h : TrP w tN p) (h' : TrP w tWin q) : Calls Tryz.prog 14 #[.agg (nV dAgg p 1).toArray, .agg (nV dWin q 0).toArray] w fun e w' => e = .returned (.bool false) ∧ Gr w w' :=
  same_gen tN tWin p q w false h h' (fun W g => clean_n p W (TrP.gr g tN p h)) (fun W g => clean_win q W (TrP.gr g tWin q h')) (fun W p' q' _ _ _ => same_kinds dAgg dWin p' q' 1 0 W (by decide))
theorem size_n (p : Np) (w : World) (h : TrP w tN p) : Calls Tryz.prog 11 #[.agg (nV dAgg p 1).toArray] w fun e w' => e = .returned (.int .i64 2) ∧ Gr w w' := by
  have := isize_any tN p w h
  rw [cnt_tN] at this
  exact this
theorem depth_n (p : Np) (w : World) (h : TrP w tN p) : Calls Tryz.prog 12 #[.agg (nV dAgg p 1).toArray] w fun e w' => e = .returned (.int .i64 2) ∧ Gr w w' := by
  have := idepth_any tN p w h
  rw [dep_tN] at this
  exact this
end Go.Proofs.YtikaamonmaohjaaGreatDoor.Ir
