/- The contracts of package wave's functions. -/
import Derived.Test.YtjjfkjpkbpefpaaDoorWBase
namespace Go.Proofs.YtjjfkjpkbpefpaaDoor
open Go.RowKit
set_option maxRecDepth 100000
set_option maxHeartbeats 1000000

/-- z turned by k quarters: its parts -/
def tR (k : Nat) (r i : Nat) : Nat := match k with | 0 => canon r | 1 => cneg i | 2 => cneg r | _ => canon i
def tI (k : Nat) (r i : Nat) : Nat := match k with | 0 => canon i | 1 => canon r | 2 => cneg i | _ => cneg r
/-- a number of quarters less the whole turns -/
def qn (n : Int) : Nat := (n % 4).toNat
theorem qn_lt (n : Int) : qn n < 4 := by unfold qn; omega
theorem qn_of {n : Int} {k : Nat} (h : n % 4 = k) : qn n = k := by unfold qn; omega

theorem phase_any (n : Int) (w : World) :
    Calls Tryd.prog 63 #[.int .i64 n] w fun e w' => e = .returned (.int .i64 (n % 4)) ∧ w = w' := by
  have h := Lib.hid (and3 n)
  go_enter Tryd.func63, Tryd.ntmps63
  go_wp2
  go_ret
  exact ⟨by rw [← h.out]; rfl, rfl⟩
theorem wcanon_any (r i : Nat) (w : World) (ht : Tab w) :
    Calls Tryd.prog 64 #[.complex .f64 r i] w fun e w' => e = .returned (.complex .f64 (canon r) (canon i)) ∧ w = w' := by
  go_enter Tryd.func64, Tryd.ntmps64
  go_wp2_with (go_at_call 56; refine (canon_any _ _ ht).mono ?_; rintro e w' ⟨rfl, rfl⟩)
  go_ret
  exact ⟨rfl, rfl⟩
/-- how great: the squares together -/
def magV (r i : Nat) : Nat := addC (mulC r r) (mulC i i)
theorem magV_c (w w1 w2 : World) (r i : Nat) : canon (addV w2 (mulV w r r) (mulV w1 i i)) = magV r i := by
  rw [addV_c, addC_l _ (mulV_c w r r), addC_r _ (mulV_c w1 i i)]; rfl
theorem mag_any (r i : Nat) (w : World) (ht : Tab w) :
    Calls Tryd.prog 53 #[.complex .f64 r i] w fun e w' => e = .returned (.float .f64 (magV r i)) ∧ ∃ n, w' = w.drewN n := by
  go_enter Tryd.func53, Tryd.ntmps53
  go_wp2_with (go_at_call 56; refine (canon_any _ _ (by exact ht.drewN _)).mono ?_; rintro e w' ⟨rfl, rfl⟩)
  go_ret
  exact ⟨by rw [magV_c]; rfl, _, rfl⟩
/-- in which quarter -/
def quV (r i : Nat) : Nat :=
  if nanB r || nanB i || (eqB r 0 && eqB i 0) then 0
  else if gtB r 0 && (gtB i 0 || eqB i 0) then 0
  else if gtB i 0 && (ltB r 0 || eqB r 0) then 1
  else if ltB r 0 && (ltB i 0 || eqB i 0) then 2
  else 3
theorem eq_walk {a b : Nat} {c : Bool} (h : eqB a b = c) : (FloatKind.f64.format.order a b == some .eq) = c := h
theorem lt_walk {a b : Nat} {c : Bool} (h : ltB a b = c) : (FloatKind.f64.format.order a b == some .lt) = c := h
theorem gt_walk {a b : Nat} {c : Bool} (h : gtB a b = c) : (FloatKind.f64.format.order a b == some .gt) = c := h
theorem gt0_walk {a : Nat} {c : Bool} (h : gtB a 0 = c) : (FloatKind.f64.format.order a 0 == some .gt) = c := h
theorem lt0_walk {a : Nat} {c : Bool} (h : ltB a 0 = c) : (FloatKind.f64.format.order a 0 == some .lt) = c := h
theorem eq0_walk {a : Nat} {c : Bool} (h : eqB a 0 = c) : (FloatKind.f64.format.order a 0 == some .eq) = c := h
/-- how a number may stand to 0 -/
theorem tri0 (a : Nat) : (nanB a = true ∧ eqB a 0 = false ∧ ltB a 0 = false ∧ gtB a 0 = false) ∨ (nanB a = false ∧ eqB a 0 = true ∧ ltB a 0 = false ∧ gtB a 0 = false)
    ∨ (nanB a = false ∧ eqB a 0 = false ∧ ltB a 0 = true ∧ gtB a 0 = false) ∨ (nanB a = false ∧ eqB a 0 = false ∧ ltB a 0 = false ∧ gtB a 0 = true) := by
  have e := Flo.order_key a 0
  have z : Flo.isNan 0 = false := by decide +kernel
  rw [z, Bool.or_false] at e
  rw [nanB_key]
  unfold eqB ltB gtB
  have e' : FloatKind.f64.format.order a 0 = if Flo.isNan a = true then none else some (compare (Flo.key a) (Flo.key 0)) := e
  rw [e']
  cases Flo.isNan a
  · simp only [Bool.false_eq_true, if_false]
    cases compare (Flo.key a) (Flo.key 0) <;> decide
  · simp only [if_true]; decide
theorem qu_any (r i : Nat) (w : World) :
    Calls Tryd.prog 55 #[.complex .f64 r i] w fun e w' => e = .returned (.int .i64 (quV r i)) ∧ w = w' := by
  have HV : quV r i = quV r i := rfl
  conv at HV => rhs; unfold quV
  rcases tri0 r with ⟨n1, e1, l1, g1⟩ | ⟨n1, e1, l1, g1⟩ | ⟨n1, e1, l1, g1⟩ | ⟨n1, e1, l1, g1⟩ <;> rcases tri0 i with ⟨n2, e2, l2, g2⟩ | ⟨n2, e2, l2, g2⟩ | ⟨n2, e2, l2, g2⟩ | ⟨n2, e2, l2, g2⟩
  all_goals
    rw [n1, e1, l1, g1, n2, e2, l2, g2] at HV
    have a1 := nan_walk n1
    have a2 := nan_walk n2
    have b1 := eq0_walk e1
    have b2 := eq0_walk e2
    have c1 := lt0_walk l1
    have c2 := lt0_walk l2
    have d1 := gt0_walk g1
    have d2 := gt0_walk g2
    have HV2 := Lib.hid HV
    clear HV n1 e1 l1 g1 n2 e2 l2 g2
    go_enter Tryd.func55, Tryd.ntmps55
    go_wp2
    go_ret
    exact ⟨by rw [HV2.out]; rfl, rfl⟩
theorem rqu_any (r i : Nat) (w : World) :
    Calls Tryd.prog 36 #[.float .f64 r, .float .f64 i] w fun e w' => e = .returned (.int .i64 (quV r i)) ∧ w = w' := by
  have HV : quV r i = quV r i := rfl
  conv at HV => rhs; unfold quV
  rcases tri0 r with ⟨n1, e1, l1, g1⟩ | ⟨n1, e1, l1, g1⟩ | ⟨n1, e1, l1, g1⟩ | ⟨n1, e1, l1, g1⟩ <;> rcases tri0 i with ⟨n2, e2, l2, g2⟩ | ⟨n2, e2, l2, g2⟩ | ⟨n2, e2, l2, g2⟩ | ⟨n2, e2, l2, g2⟩
  all_goals
    rw [n1, e1, l1, g1, n2, e2, l2, g2] at HV
    have a1 := nan_walk n1
    have a2 := nan_walk n2
    have b1 := eq0_walk e1
    have b2 := eq0_walk e2
    have c1 := lt0_walk l1
    have c2 := lt0_walk l2
    have d1 := gt0_walk g1
    have d2 := gt0_walk g2
    have HV2 := Lib.hid HV
    clear HV n1 e1 l1 g1 n2 e2 l2 g2
    go_enter Tryd.func36, Tryd.ntmps36
    go_wp2
    go_ret
    exact ⟨by rw [HV2.out]; rfl, rfl⟩
end Go.Proofs.YtjjfkjpkbpefpaaDoor
