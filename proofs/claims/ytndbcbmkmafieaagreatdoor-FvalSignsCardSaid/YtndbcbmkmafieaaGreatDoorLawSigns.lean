/- The walk of FvalSigns. -/
import Derived.Test.YtndbcbmkmafieaaGreatDoorKnownAll
import Derived.Test.YtndbcbmkmafieaaGreatDoorTextNan
import Derived.Test.YtndbcbmkmafieaaGreatDoorSignMath
import Derived.Test.YtndbcbmkmafieaaGreatDoorLawHolds
namespace Go.Proofs.YtndbcbmkmafieaaGreatDoor
open Go.RowKit
set_option maxHeartbeats 1000000
set_option maxRecDepth 100000

/-- Fn with its answer under a name -/
theorem fn_at (fn : Int) (v arg r : Nat) (w : World) (h : fnV fn v arg = r) (ho : fnOk fn = true) (ht : Tab w) :
    Calls Tryz.prog 13 #[.int .i64 fn, .float .f64 v, .float .f64 arg] w fun e w' => e = .returned (.tuple #[.float .f64 r, .bool true]) ∧ ∃ n, w' = w.drewN n :=
  (fn_any fn v arg w ht).mono fun _ _ ⟨h1, h2⟩ => ⟨by rw [h1, h, ho], h2⟩

/-- all that the law asks of the numbers that it makes: the way on which nothing is a NaN and the bounds are in order -/
theorem lawSigns_core {k : Nat × Nat × Nat} (v a b p n s c d : Nat) (w : World) (hk : Kn k w)
    (hp : fnV 1 v 0 = p) (hn : fnV 2 v 0 = n) (hm : fnV 2 n 0 = v) (hq : fnV 1 n 0 = p) (hs : fnV 3 v 0 = s)
    (hv : nanB v = false) (mv : sameB v v = true) (pp : sameB p p = true) (vv : eqB v v = true) (pv : ltB p v = false) (pn : ltB p n = false)
    (s0 : eqB s one = true ∨ (eqB s one = false ∧ eqB s mone = true) ∨ (eqB s one = false ∧ eqB s mone = false ∧ eqB s 0 = true))
    (hc : fnV 4 v a = c) (hd : fnV 5 c b = d)
    (hab : nanB a = true ∨ (nanB a = false ∧ nanB b = true) ∨ (nanB a = false ∧ nanB b = false ∧ gtB a b = true) ∨
      (nanB a = false ∧ nanB b = false ∧ gtB a b = false ∧ (gtB d a || eqB d a) = true ∧ (ltB d b || eqB d b) = true ∧ (ltB v a = true ∨ (ltB v a = false ∧ gtB v b = true) ∨ (ltB v a = false ∧ gtB v b = false ∧ sameB d v = true)))) :
    Calls Tryz.prog 7 #[.int .u64 v, .int .u64 a, .int .u64 b] w fun e w' => e = .returned (.bool true) ∧ Grown w w' := by
  have Hp := Lib.hid hp; have Hn := Lib.hid hn; have Hm := Lib.hid hm; have Hq := Lib.hid hq; have Hs := Lib.hid hs; have Hc := Lib.hid hc; have Hd := Lib.hid hd
  clear hp hn hm hq hs hc hd
  have v1 := nan_walk hv
  have v2 := eq_walk vv
  have p1 := lt_walk pv
  have p2 := lt_walk pn
  clear hv vv pv pn
  rcases s0 with e1 | ⟨e1, e2⟩ | ⟨e1, e2, e3⟩
  all_goals
    have z1 : (FloatKind.f64.format.order s 4607182418800017408 == some .eq) = _ := e1
    try have z2 : (FloatKind.f64.format.order s 13830554455654793216 == some .eq) = _ := e2
    try have z3 : (FloatKind.f64.format.order s 0 == some .eq) = _ := e3
    try clear e1
    try clear e2
    try clear e3
  all_goals
    rcases hab with a1 | ⟨a1, a2⟩ | ⟨a1, a2, a3⟩ | ⟨a1, a2, a3, a4, a5, a6⟩
    · have A1 := nan_walk a1
      clear a1
      go_enter Tryz.func7, Tryz.ntmps7
      go_wp2_with (first | (go_at_call 9; go_must (refine (known_any (b := k) _ hk).mono ?_); rintro e w1 ⟨rfl, hg⟩) | (go_at_call_of 13 (Value.int .i64 1); go_at_call_of 13 (Value.float .f64 v); refine (fn_at 1 v 0 p _ Hp.out rfl ?_).mono ?_; (first | exact (hk.keep (Keep.grown hg)).tab | exact (hk.keep (Keep.grown hg)).tab.drewN _); rintro e w' ⟨rfl, m, rfl⟩) | (go_at_call_of 13 (Value.int .i64 2); go_at_call_of 13 (Value.float .f64 v); refine (fn_at 2 v 0 n _ Hn.out rfl ?_).mono ?_; (first | exact (hk.keep (Keep.grown hg)).tab | exact (hk.keep (Keep.grown hg)).tab.drewN _); rintro e w' ⟨rfl, m, rfl⟩) | (go_at_call_of 13 (Value.int .i64 2); go_at_call_of 13 (Value.float .f64 n); refine (fn_at 2 n 0 v _ Hm.out rfl ?_).mono ?_; (first | exact (hk.keep (Keep.grown hg)).tab | exact (hk.keep (Keep.grown hg)).tab.drewN _); rintro e w' ⟨rfl, m, rfl⟩) | (go_at_call_of 13 (Value.int .i64 1); go_at_call_of 13 (Value.float .f64 n); refine (fn_at 1 n 0 p _ Hq.out rfl ?_).mono ?_; (first | exact (hk.keep (Keep.grown hg)).tab | exact (hk.keep (Keep.grown hg)).tab.drewN _); rintro e w' ⟨rfl, m, rfl⟩) | (go_at_call_of 13 (Value.int .i64 3); go_at_call_of 13 (Value.float .f64 v); refine (fn_at 3 v 0 s _ Hs.out rfl ?_).mono ?_; (first | exact (hk.keep (Keep.grown hg)).tab | exact (hk.keep (Keep.grown hg)).tab.drewN _); rintro e w' ⟨rfl, m, rfl⟩) | (go_at_call_of 13 (Value.int .i64 4); go_at_call_of 13 (Value.float .f64 v); refine (fn_at 4 v a c _ Hc.out rfl ?_).mono ?_; (first | exact (hk.keep (Keep.grown hg)).tab | exact (hk.keep (Keep.grown hg)).tab.drewN _); rintro e w' ⟨rfl, m, rfl⟩) | (go_at_call_of 13 (Value.int .i64 5); go_at_call_of 13 (Value.float .f64 c); refine (fn_at 5 c b d _ Hd.out rfl ?_).mono ?_; (first | exact (hk.keep (Keep.grown hg)).tab | exact (hk.keep (Keep.grown hg)).tab.drewN _); rintro e w' ⟨rfl, m, rfl⟩) | (go_at_call 22; refine (same_any _ _ _ ?_).mono ?_; (first | exact (hk.keep (Keep.grown hg)).tab | exact (hk.keep (Keep.grown hg)).tab.drewN _); rintro e w' ⟨rfl, rfl⟩))
      go_ret
      exact ⟨rfl, by first | exact hg | exact grown_drewN hg _⟩
    · have A1 := nan_walk a1
      have A2 := nan_walk a2
      clear a1 a2
      go_enter Tryz.func7, Tryz.ntmps7
      go_wp2_with (first | (go_at_call 9; go_must (refine (known_any (b := k) _ hk).mono ?_); rintro e w1 ⟨rfl, hg⟩) | (go_at_call_of 13 (Value.int .i64 1); go_at_call_of 13 (Value.float .f64 v); refine (fn_at 1 v 0 p _ Hp.out rfl ?_).mono ?_; (first | exact (hk.keep (Keep.grown hg)).tab | exact (hk.keep (Keep.grown hg)).tab.drewN _); rintro e w' ⟨rfl, m, rfl⟩) | (go_at_call_of 13 (Value.int .i64 2); go_at_call_of 13 (Value.float .f64 v); refine (fn_at 2 v 0 n _ Hn.out rfl ?_).mono ?_; (first | exact (hk.keep (Keep.grown hg)).tab | exact (hk.keep (Keep.grown hg)).tab.drewN _); rintro e w' ⟨rfl, m, rfl⟩) | (go_at_call_of 13 (Value.int .i64 2); go_at_call_of 13 (Value.float .f64 n); refine (fn_at 2 n 0 v _ Hm.out rfl ?_).mono ?_; (first | exact (hk.keep (Keep.grown hg)).tab | exact (hk.keep (Keep.grown hg)).tab.drewN _); rintro e w' ⟨rfl, m, rfl⟩) | (go_at_call_of 13 (Value.int .i64 1); go_at_call_of 13 (Value.float .f64 n); refine (fn_at 1 n 0 p _ Hq.out rfl ?_).mono ?_; (first | exact (hk.keep (Keep.grown hg)).tab | exact (hk.keep (Keep.grown hg)).tab.drewN _); rintro e w' ⟨rfl, m, rfl⟩) | (go_at_call_of 13 (Value.int .i64 3); go_at_call_of 13 (Value.float .f64 v); refine (fn_at 3 v 0 s _ Hs.out rfl ?_).mono ?_; (first | exact (hk.keep (Keep.grown hg)).tab | exact (hk.keep (Keep.grown hg)).tab.drewN _); rintro e w' ⟨rfl, m, rfl⟩) | (go_at_call_of 13 (Value.int .i64 4); go_at_call_of 13 (Value.float .f64 v); refine (fn_at 4 v a c _ Hc.out rfl ?_).mono ?_; (first | exact (hk.keep (Keep.grown hg)).tab | exact (hk.keep (Keep.grown hg)).tab.drewN _); rintro e w' ⟨rfl, m, rfl⟩) | (go_at_call_of 13 (Value.int .i64 5); go_at_call_of 13 (Value.float .f64 c); refine (fn_at 5 c b d _ Hd.out rfl ?_).mono ?_; (first | exact (hk.keep (Keep.grown hg)).tab | exact (hk.keep (Keep.grown hg)).tab.drewN _); rintro e w' ⟨rfl, m, rfl⟩) | (go_at_call 22; refine (same_any _ _ _ ?_).mono ?_; (first | exact (hk.keep (Keep.grown hg)).tab | exact (hk.keep (Keep.grown hg)).tab.drewN _); rintro e w' ⟨rfl, rfl⟩))
      go_ret
      exact ⟨rfl, by first | exact hg | exact grown_drewN hg _⟩
    · have A1 := nan_walk a1
      have A2 := nan_walk a2
      have A3 := gt_walk a3
      clear a1 a2 a3
      go_enter Tryz.func7, Tryz.ntmps7
      go_wp2_with (first | (go_at_call 9; go_must (refine (known_any (b := k) _ hk).mono ?_); rintro e w1 ⟨rfl, hg⟩) | (go_at_call_of 13 (Value.int .i64 1); go_at_call_of 13 (Value.float .f64 v); refine (fn_at 1 v 0 p _ Hp.out rfl ?_).mono ?_; (first | exact (hk.keep (Keep.grown hg)).tab | exact (hk.keep (Keep.grown hg)).tab.drewN _); rintro e w' ⟨rfl, m, rfl⟩) | (go_at_call_of 13 (Value.int .i64 2); go_at_call_of 13 (Value.float .f64 v); refine (fn_at 2 v 0 n _ Hn.out rfl ?_).mono ?_; (first | exact (hk.keep (Keep.grown hg)).tab | exact (hk.keep (Keep.grown hg)).tab.drewN _); rintro e w' ⟨rfl, m, rfl⟩) | (go_at_call_of 13 (Value.int .i64 2); go_at_call_of 13 (Value.float .f64 n); refine (fn_at 2 n 0 v _ Hm.out rfl ?_).mono ?_; (first | exact (hk.keep (Keep.grown hg)).tab | exact (hk.keep (Keep.grown hg)).tab.drewN _); rintro e w' ⟨rfl, m, rfl⟩) | (go_at_call_of 13 (Value.int .i64 1); go_at_call_of 13 (Value.float .f64 n); refine (fn_at 1 n 0 p _ Hq.out rfl ?_).mono ?_; (first | exact (hk.keep (Keep.grown hg)).tab | exact (hk.keep (Keep.grown hg)).tab.drewN _); rintro e w' ⟨rfl, m, rfl⟩) | (go_at_call_of 13 (Value.int .i64 3); go_at_call_of 13 (Value.float .f64 v); refine (fn_at 3 v 0 s _ Hs.out rfl ?_).mono ?_; (first | exact (hk.keep (Keep.grown hg)).tab | exact (hk.keep (Keep.grown hg)).tab.drewN _); rintro e w' ⟨rfl, m, rfl⟩) | (go_at_call_of 13 (Value.int .i64 4); go_at_call_of 13 (Value.float .f64 v); refine (fn_at 4 v a c _ Hc.out rfl ?_).mono ?_; (first | exact (hk.keep (Keep.grown hg)).tab | exact (hk.keep (Keep.grown hg)).tab.drewN _); rintro e w' ⟨rfl, m, rfl⟩) | (go_at_call_of 13 (Value.int .i64 5); go_at_call_of 13 (Value.float .f64 c); refine (fn_at 5 c b d _ Hd.out rfl ?_).mono ?_; (first | exact (hk.keep (Keep.grown hg)).tab | exact (hk.keep (Keep.grown hg)).tab.drewN _); rintro e w' ⟨rfl, m, rfl⟩) | (go_at_call 22; refine (same_any _ _ _ ?_).mono ?_; (first | exact (hk.keep (Keep.grown hg)).tab | exact (hk.keep (Keep.grown hg)).tab.drewN _); rintro e w' ⟨rfl, rfl⟩))
      go_ret
      exact ⟨rfl, by first | exact hg | exact grown_drewN hg _⟩
    · have A1 := nan_walk a1
      have A2 := nan_walk a2
      have A3 := gt_walk a3
      have A4 : (FloatKind.f64.format.order d a == some .gt || FloatKind.f64.format.order d a == some .eq) = true := a4
      have A5 : (FloatKind.f64.format.order d b == some .lt || FloatKind.f64.format.order d b == some .eq) = true := a5
      clear a1 a2 a3 a4 a5
      rcases a6 with b1 | ⟨b1, b2⟩ | ⟨b1, b2, b3⟩
      all_goals
        have B1 := lt_walk b1
        try have B2 := gt_walk b2
        clear b1
        try clear b2
        go_enter Tryz.func7, Tryz.ntmps7
        go_wp2_with (first | (go_at_call 9; go_must (refine (known_any (b := k) _ hk).mono ?_); rintro e w1 ⟨rfl, hg⟩) | (go_at_call_of 13 (Value.int .i64 1); go_at_call_of 13 (Value.float .f64 v); refine (fn_at 1 v 0 p _ Hp.out rfl ?_).mono ?_; (first | exact (hk.keep (Keep.grown hg)).tab | exact (hk.keep (Keep.grown hg)).tab.drewN _); rintro e w' ⟨rfl, m, rfl⟩) | (go_at_call_of 13 (Value.int .i64 2); go_at_call_of 13 (Value.float .f64 v); refine (fn_at 2 v 0 n _ Hn.out rfl ?_).mono ?_; (first | exact (hk.keep (Keep.grown hg)).tab | exact (hk.keep (Keep.grown hg)).tab.drewN _); rintro e w' ⟨rfl, m, rfl⟩) | (go_at_call_of 13 (Value.int .i64 2); go_at_call_of 13 (Value.float .f64 n); refine (fn_at 2 n 0 v _ Hm.out rfl ?_).mono ?_; (first | exact (hk.keep (Keep.grown hg)).tab | exact (hk.keep (Keep.grown hg)).tab.drewN _); rintro e w' ⟨rfl, m, rfl⟩) | (go_at_call_of 13 (Value.int .i64 1); go_at_call_of 13 (Value.float .f64 n); refine (fn_at 1 n 0 p _ Hq.out rfl ?_).mono ?_; (first | exact (hk.keep (Keep.grown hg)).tab | exact (hk.keep (Keep.grown hg)).tab.drewN _); rintro e w' ⟨rfl, m, rfl⟩) | (go_at_call_of 13 (Value.int .i64 3); go_at_call_of 13 (Value.float .f64 v); refine (fn_at 3 v 0 s _ Hs.out rfl ?_).mono ?_; (first | exact (hk.keep (Keep.grown hg)).tab | exact (hk.keep (Keep.grown hg)).tab.drewN _); rintro e w' ⟨rfl, m, rfl⟩) | (go_at_call_of 13 (Value.int .i64 4); go_at_call_of 13 (Value.float .f64 v); refine (fn_at 4 v a c _ Hc.out rfl ?_).mono ?_; (first | exact (hk.keep (Keep.grown hg)).tab | exact (hk.keep (Keep.grown hg)).tab.drewN _); rintro e w' ⟨rfl, m, rfl⟩) | (go_at_call_of 13 (Value.int .i64 5); go_at_call_of 13 (Value.float .f64 c); refine (fn_at 5 c b d _ Hd.out rfl ?_).mono ?_; (first | exact (hk.keep (Keep.grown hg)).tab | exact (hk.keep (Keep.grown hg)).tab.drewN _); rintro e w' ⟨rfl, m, rfl⟩) | (go_at_call 22; refine (same_any _ _ _ ?_).mono ?_; (first | exact (hk.keep (Keep.grown hg)).tab | exact (hk.keep (Keep.grown hg)).tab.drewN _); rintro e w' ⟨rfl, rfl⟩))
        go_ret
        exact ⟨by first | rfl | (simp; done) | (simp [*]; done), by first | exact hg | exact grown_drewN hg _⟩
end Go.Proofs.YtndbcbmkmafieaaGreatDoor
