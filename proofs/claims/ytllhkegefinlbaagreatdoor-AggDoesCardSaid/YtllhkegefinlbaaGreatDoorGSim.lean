/- agg's small faces, and the reference's: Takes, isAggregation, order, atMost, ahead. -/
import Derived.Test.YtllhkegefinlbaaGreatDoorGOne
namespace Go.Proofs.YtllhkegefinlbaaGreatDoor.Pt
open Go.RowKit Go.Sort
set_option maxRecDepth 100000
set_option maxHeartbeats 4000000
attribute [local irreducible] wpQuiet

theorem mnan_any (b : Nat) (w : World) :
    Calls Tryz.prog 78 #[.float .f64 b] w fun e w' => e = .returned (.bool (Fv.nanB b)) ∧ w = w' := by
  go_enter Tryz.func78, Tryz.ntmps78
  go_wp2
  go_ret
  exact ⟨rfl, rfl⟩
theorem takes_any (op : Int) (w : World) :
    Calls Tryz.prog 14 #[.int .i64 op] w fun e w' => e = .returned (.bool (tksB op)) ∧ w = w' := by
  have H2 : Hid (tksB op = (op == 6 || op == 7)) := Lib.hid rfl
  cases ha : op == 6 <;> cases hb : op == 7
  all_goals
    go_enter Tryz.func14, Tryz.ntmps14
    go_wp2
    go_ret
    exact ⟨by rw [H2.out, ha, hb]; rfl, rfl⟩
theorem rtakes_any (op : Int) (w : World) :
    Calls Tryz.prog 24 #[.int .i64 op] w fun e w' => e = .returned (.bool (tksB op)) ∧ w = w' := by
  have H2 : Hid (tksB op = (op == 6 || op == 7)) := Lib.hid rfl
  cases ha : op == 6 <;> cases hb : op == 7
  all_goals
    go_enter Tryz.func24, Tryz.ntmps24
    go_wp2
    go_ret
    exact ⟨by rw [H2.out, ha, hb]; rfl, rfl⟩
/-- is it an aggregation? -/
def isA (op : Int) : Bool := decide (1 ≤ op) && decide (op ≤ 8)
theorem isA_any (op : Int) (w : World) :
    Calls Tryz.prog 17 #[.int .i64 op] w fun e w' => e = .returned (.bool (isA op)) ∧ w = w' := by
  have H2 : Hid (isA op = (decide (1 ≤ op) && decide (op ≤ 8))) := Lib.hid rfl
  cases ha : decide (1 ≤ op) <;> cases hb : decide (op ≤ 8)
  all_goals
    go_enter Tryz.func17, Tryz.ntmps17
    go_wp2
    go_ret
    exact ⟨by rw [H2.out, ha, hb]; rfl, rfl⟩

/-! ### how the chosen stand -/
def ordF (tp : Bool) : FuncId := if tp then 75 else 77
theorem order_any (op : Int) (w : World) :
    Calls Tryz.prog 45 #[.int .i64 op] w fun e w' => e = .returned (.func (.func (ordF (op == 6))) #[] #[]) ∧ w = w' := by
  cases ha : op == 6
  all_goals
    go_enter Tryz.func45, Tryz.ntmps45
    go_wp2
    go_ret
    exact ⟨rfl, rfl⟩
theorem ordK_t (a b : Nat) (ha : a < 2 ^ 64) (hb : b < 2 ^ 64) : Fv.befB b a = decide (Gs.ordK true a < Gs.ordK true b) := by
  rw [Fv.befB_tk b a hb ha]
  unfold Gs.ordK
  rw [decide_eq_decide]
  simp only [if_true]
  omega
theorem ordK_f (a b : Nat) (ha : a < 2 ^ 64) (hb : b < 2 ^ 64) : (if Fv.nanB a || Fv.nanB b then Fv.befB b a else Fv.befB a b) = decide (Gs.ordK false a < Gs.ordK false b) := by
  have tkb : ∀ a, Fv.nanB a = false → Fv.tk a < 2 ^ 80 := fun a h => by
    have := Fv.key_bd a
    rw [Fv.tk_num h]
    split <;> omega
  rw [Fv.befB_tk b a hb ha, Fv.befB_tk a b ha hb]
  unfold Gs.ordK
  cases na : Fv.nanB a <;> cases nb : Fv.nanB b
  · simp
  · have h1 := tkb a na
    have h2 := Fv.tk_lo na
    simp [Fv.tk_nan nb]; omega
  · have h1 := tkb b nb
    have h2 := Fv.tk_lo nb
    simp [Fv.tk_nan na]; omega
  · simp [Fv.tk_nan na, Fv.tk_nan nb]
theorem ord_any (tp : Bool) (a b : Nat) (w : World) (ha : a < 2 ^ 64) (hb : b < 2 ^ 64) (ht : Fv.Tab w) :
    Calls Tryz.prog (ordF tp) #[.float .f64 a, .float .f64 b] w fun e w' => e = .returned (.bool (decide (Gs.ordK tp a < Gs.ordK tp b))) ∧ ∃ n, w' = w.drewN n := by
  have CAB := Lib.hid (Fv.before_any a b w ht)
  have CBA := Lib.hid (Fv.before_any b a w ht)
  cases tp
  · have HF := Lib.hid (ordK_f a b ha hb)
    show Calls Tryz.prog 77 _ _ _
    obtain ⟨v, hv⟩ : ∃ v, decide (Gs.ordK false a < Gs.ordK false b) = v := ⟨_, rfl⟩
    rw [hv] at HF ⊢
    obtain ⟨x, hx⟩ : ∃ x, Fv.befB a b = x := ⟨_, rfl⟩
    obtain ⟨y, hy⟩ : ∃ y, Fv.befB b a = y := ⟨_, rfl⟩
    rw [hx] at CAB HF
    rw [hy] at CBA HF
    clear hv hx hy ht
    cases na : Fv.nanB a
    · cases nb : Fv.nanB b
      · rw [na, nb] at HF
        go_enter Tryz.func77, Tryz.ntmps77
        go_wp2_with (first
          | (go_at_call_of 78 (Value.float .f64 a); refine (mnan_any a _).mono ?_; rw [na]; rintro e w' ⟨rfl, rfl⟩)
          | (go_at_call_of 78 (Value.float .f64 b); refine (mnan_any b _).mono ?_; rw [nb]; rintro e w' ⟨rfl, rfl⟩)
          | fail)
        refine CAB.out.mono ?_
        rintro e w' ⟨rfl, n, rfl⟩
        go_wp2
        go_ret
        exact ⟨by rw [← HF.out]; rfl, _, rfl⟩
      · rw [na, nb] at HF
        go_enter Tryz.func77, Tryz.ntmps77
        go_wp2_with (first
          | (go_at_call_of 78 (Value.float .f64 a); refine (mnan_any a _).mono ?_; rw [na]; rintro e w' ⟨rfl, rfl⟩)
          | (go_at_call_of 78 (Value.float .f64 b); refine (mnan_any b _).mono ?_; rw [nb]; rintro e w' ⟨rfl, rfl⟩)
          | fail)
        refine CBA.out.mono ?_
        rintro e w' ⟨rfl, n, rfl⟩
        go_wp2
        go_ret
        exact ⟨by rw [← HF.out]; rfl, _, rfl⟩
    · rw [na] at HF
      go_enter Tryz.func77, Tryz.ntmps77
      go_wp2_with (first
        | (go_at_call_of 78 (Value.float .f64 a); refine (mnan_any a _).mono ?_; rw [na]; rintro e w' ⟨rfl, rfl⟩)
        | fail)
      refine CBA.out.mono ?_
      rintro e w' ⟨rfl, n, rfl⟩
      go_wp2
      go_ret
      exact ⟨by rw [← HF.out]; rfl, _, rfl⟩
  · have HF := Lib.hid (ordK_t a b ha hb)
    show Calls Tryz.prog 75 _ _ _
    obtain ⟨v, hv⟩ : ∃ v, decide (Gs.ordK true a < Gs.ordK true b) = v := ⟨_, rfl⟩
    rw [hv] at HF ⊢
    rw [HF.out] at CBA
    clear hv ht
    go_enter Tryz.func75, Tryz.ntmps75
    go_wp2_with fail
    refine CBA.out.mono ?_
    rintro e w' ⟨rfl, n, rfl⟩
    go_wp2
    go_ret
    exact ⟨rfl, _, rfl⟩
end Go.Proofs.YtllhkegefinlbaaGreatDoor.Pt
