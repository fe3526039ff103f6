/- Values: stale, canonical. -/
import Derived.Test.YtoooaipbkkiefaaGreatDoorSm
namespace Go.Proofs.YtoooaipbkkiefaaGreatDoor
open Go.RowKit
set_option maxRecDepth 100000
set_option maxHeartbeats 1000000

def kNaN : Int := 9221120237041090561
def kStale : Int := 9218868437227405314
def kInf : Int := 9218868437227405312
def kSign : Int := 9223372036854775808
@[go_sem] theorem run_from (n : Int) (w : World) : (callFunc 88 #[.int .u64 n]).run Tryz.prog w = .ok (.value (.float .f64 n.toNat)) w := by
  rw [run_callFunc_extern Tryz.func88 (by kernel_rfl) (by kernel_rfl) (by kernel_rfl) (e := Extern.MathFloatBits.float64frombits) (by kernel_rfl)]; rfl
@[go_sem] theorem run_bits (b : Nat) (w : World) : (callFunc 77 #[.float .f64 b]).run Tryz.prog w = .ok (.value (.int .u64 b)) w := by
  rw [run_callFunc_extern Tryz.func77 (by kernel_rfl) (by kernel_rfl) (by kernel_rfl) (e := Extern.MathFloatBits.float64bits) (by kernel_rfl)]; rfl
/-- the cells of the program's table of bits -/
structure Tab (w : World) : Prop where
  c0 : w.cell? ⟨0, 0, none⟩ = some (.int .u64 kNaN)
  c1 : w.cell? ⟨0, 1, none⟩ = some (.int .u64 kStale)
  c2 : w.cell? ⟨0, 2, none⟩ = some (.int .u64 kInf)
  c3 : w.cell? ⟨0, 3, none⟩ = some (.int .u64 kSign)
theorem Tab.gr {w w' : World} (h : Tab w) (g : Gr w w') : Tab w' := ⟨g.cell h.c0, g.cell h.c1, g.cell h.c2, g.cell h.c3⟩
def nanB (b : Nat) : Bool := FloatKind.f64.format.order b b != some .eq
def canon (b : Nat) : Nat := if nanB b then kNaN.toNat else b
def staleB (a : Nat) : Bool := (a : Int) == kStale
/-- what a store holds of a value -/
def cnv (b : Nat) : Nat := if staleB b then b else canon b
theorem isNaNf_any (b : Nat) (w : World) :
    Calls Tryz.prog 158 #[.float .f64 b] w fun e w' => e = .returned (.bool (nanB b)) ∧ w = w' := by
  go_enter Tryz.func158, Tryz.ntmps158
  go_wp2
  go_ret
  exact ⟨rfl, rfl⟩
theorem canonf_any (b : Nat) (w : World) (ht : Tab w) :
    Calls Tryz.prog 108 #[.float .f64 b] w fun e w' => e = .returned (.float .f64 (canon b)) ∧ w = w' := by
  have h0 := ht.c0
  cases hn : nanB b
  all_goals
    have Hc : canon b = canon b := rfl
    simp only [canon, hn] at Hc
    go_enter Tryz.func108, Tryz.ntmps108
    go_wp2_with (go_at_call 158; refine (isNaNf_any _ _).mono ?_; rintro e w' ⟨rfl, rfl⟩)
    go_ret
    exact ⟨by simp [canon, hn], rfl⟩
theorem stalef_any (b : Nat) (w : World) (ht : Tab w) :
    Calls Tryz.prog 43 #[.float .f64 b] w fun e w' => e = .returned (.bool (staleB b)) ∧ ∃ n, w' = w.drewN n := by
  have h1 := ht.c1
  go_enter Tryz.func43, Tryz.ntmps43
  go_wp2_with fail
  go_quiet (fail)
  go_wp2
  go_ret
  exact ⟨rfl, _, rfl⟩
theorem nan_walk {a : Nat} {c : Bool} (h : nanB a = c) : (FloatKind.f64.format.order a a != some .eq) = c := h
theorem rcanon_any (b : Nat) (w : World) :
    Calls Tryz.prog 55 #[.float .f64 b] w fun e w' => e = .returned (.float .f64 (canon b)) ∧ w = w' := by
  cases hn : nanB b
  all_goals
    have hn' := nan_walk hn
    have hv : canon b = canon b := rfl
    conv at hv => rhs; simp only [canon, hn, Bool.false_eq_true, if_false, if_true]
    have Hv := Lib.hid hv; clear hv hn
    go_enter Tryz.func55, Tryz.ntmps55
    go_wp2
    go_ret
    exact ⟨by rw [Hv.out]; rfl, rfl⟩
theorem rbits_any (b : Nat) (w : World) :
    Calls Tryz.prog 46 #[.float .f64 b] w fun e w' => e = .returned (.int .u64 (canon b)) ∧ w = w' := by
  go_enter Tryz.func46, Tryz.ntmps46
  go_wp2_with (go_at_call 55; refine (rcanon_any _ _).mono ?_; rintro e w' ⟨rfl, rfl⟩)
  go_ret
  exact ⟨rfl, rfl⟩
theorem rsame_any (a b : Nat) (w : World) :
    Calls Tryz.prog 16 #[.float .f64 a, .float .f64 b] w fun e w' => e = .returned (.bool ((canon a : Int) == canon b)) ∧ w = w' := by
  go_enter Tryz.func16, Tryz.ntmps16
  go_wp2_with (go_at_call 46; refine (rbits_any _ _).mono ?_; rintro e w' ⟨rfl, rfl⟩)
  go_ret
  exact ⟨rfl, rfl⟩
theorem rstale_any (b : Nat) (w : World) :
    Calls Tryz.prog 45 #[.float .f64 b] w fun e w' => e = .returned (.bool (staleB b)) ∧ w = w' := by
  go_enter Tryz.func45, Tryz.ntmps45
  go_wp2
  go_ret
  exact ⟨rfl, rfl⟩
/-- store.canon -/
theorem scanon_any (b : Nat) (w : World) (ht : Tab w) :
    Calls Tryz.prog 80 #[.float .f64 b] w fun e w' => e = .returned (.float .f64 (cnv b)) ∧ ∃ n, w' = w.drewN n := by
  have HT := Lib.hid ht
  have CS := Lib.hid (stalef_any b w ht)
  have CC := Lib.hid (fun n => canonf_any b (w.drewN n) ⟨ht.c0, ht.c1, ht.c2, ht.c3⟩)
  obtain ⟨s, hs⟩ : ∃ s, staleB b = s := ⟨_, rfl⟩
  have HV : Hid (cnv b = if s then b else canon b) := Lib.hid (by unfold cnv; rw [hs])
  rw [hs] at CS
  clear hs ht
  cases s
  · go_enter Tryz.func80, Tryz.ntmps80
    go_wp2_with fail
    refine CS.out.mono ?_
    rintro e w1 ⟨rfl, n, rfl⟩
    go_wp2_with fail
    refine (CC.out n).mono ?_
    rintro e w2 ⟨rfl, rfl⟩
    go_wp2
    go_ret
    exact ⟨by rw [HV.out]; rfl, n, rfl⟩
  · go_enter Tryz.func80, Tryz.ntmps80
    go_wp2_with fail
    refine CS.out.mono ?_
    rintro e w1 ⟨rfl, n, rfl⟩
    go_wp2
    go_ret
    exact ⟨by rw [HV.out]; rfl, n, rfl⟩
end Go.Proofs.YtoooaipbkkiefaaGreatDoor
