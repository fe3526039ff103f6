/- How doubles stand to each other, by their bits: the order of IEEE 754 is the order of whole numbers (the rungs with their signs), but where an operand is a NaN. -/
import Ieee.Arith
namespace Go.Proofs.YtllhkegefinlbaaGreatDoor.Wv.Flo

def B : Nat := 2 ^ 52
/-- a rung's magnitude, in units of the least place -/
def val (r : Nat) : Nat := if r < 2 ^ 52 then r else (2 ^ 52 + r % 2 ^ 52) * 2 ^ (r / 2 ^ 52 - 1)

theorem val_zero : val 0 = 0 := by simp [val]

theorem val_mono {a b : Nat} (h : a < b) : val a < val b := by
  unfold val
  by_cases hb : b < 2 ^ 52
  · rw [if_pos hb, if_pos (by omega)]; exact h
  · rw [if_neg hb]
    have p1 : 0 < 2 ^ (b / 2 ^ 52 - 1) := Nat.two_pow_pos _
    have hbl : 2 ^ 52 * 2 ^ (b / 2 ^ 52 - 1) ≤ (2 ^ 52 + b % 2 ^ 52) * 2 ^ (b / 2 ^ 52 - 1) := Nat.mul_le_mul_right _ (by omega)
    by_cases ha : a < 2 ^ 52
    · rw [if_pos ha]
      have : 2 ^ 52 * 1 ≤ 2 ^ 52 * 2 ^ (b / 2 ^ 52 - 1) := Nat.mul_le_mul_left _ p1
      omega
    · rw [if_neg ha]
      have hq : a / 2 ^ 52 ≤ b / 2 ^ 52 := Nat.div_le_div_right (by omega)
      by_cases hqe : a / 2 ^ 52 = b / 2 ^ 52
      · rw [hqe]
        refine Nat.mul_lt_mul_of_pos_right ?_ p1
        omega
      · have h2 : a / 2 ^ 52 ≤ b / 2 ^ 52 - 1 := by omega
        have h3 : (2 ^ 52 + a % 2 ^ 52) * 2 ^ (a / 2 ^ 52 - 1) < (2 ^ 52 + 2 ^ 52) * 2 ^ (a / 2 ^ 52 - 1) :=
          Nat.mul_lt_mul_of_pos_right (by omega) (Nat.two_pow_pos _)
        have h4 : (2 ^ 52 + 2 ^ 52) * 2 ^ (a / 2 ^ 52 - 1) = 2 ^ 52 * 2 ^ (a / 2 ^ 52) := by
          have h5 : a / 2 ^ 52 = (a / 2 ^ 52 - 1) + 1 := by omega
          generalize a / 2 ^ 52 = q at *
          rw [h5, Nat.pow_succ]; simp only [Nat.add_sub_cancel]; omega
        have h6 : 2 ^ 52 * 2 ^ (a / 2 ^ 52) ≤ 2 ^ 52 * 2 ^ (b / 2 ^ 52 - 1) := Nat.mul_le_mul_left _ (Nat.pow_le_pow_right (by omega) h2)
        omega

theorem val_lt {a b : Nat} : val a < val b ↔ a < b := by
  constructor
  · intro h
    rcases Nat.lt_trichotomy a b with g | g | g
    · exact g
    · subst g; omega
    · have := val_mono g; omega
  · exact val_mono

theorem val_inj {a b : Nat} : val a = val b ↔ a = b := by
  constructor
  · intro h
    rcases Nat.lt_trichotomy a b with g | g | g
    · have := val_mono g; omega
    · exact g
    · have := val_mono g; omega
  · intro h; rw [h]

/-- the sign bit, as a Bool -/
def sgn (x : Nat) : Bool := x / 2 ^ 63 % 2 == 1
/-- the rung -/
def rung (x : Nat) : Nat := x % 2 ^ 63
def isNan (x : Nat) : Bool := decide (0x7FF0000000000000 < rung x)
/-- what a double counts, where it is no NaN -/
def key (x : Nat) : Int := if sgn x then -(rung x : Int) else (rung x : Int)

def sv (s : Bool) (n : Nat) : Int := if s then -(n : Int) else (n : Int)

theorem signed_eq (s : Bool) (m u : Nat) : Ieee.signed s m u = sv s (m * 2 ^ u) := by
  simp [Ieee.signed, sv, Nat.shiftLeft_eq]

theorem sv_mul (s : Bool) (n k : Nat) : sv s (n * k) = sv s n * (k : Int) := by
  cases s <;> simp [sv, Int.neg_mul]

theorem compare_mul (a b : Int) (k : Nat) (hk : 0 < k) : compare (a * (k : Int)) (b * (k : Int)) = compare a b := by
  have hk' : (0 : Int) < k := by omega
  simp only [compare, compareOfLessAndEq]
  have h1 : a * (k : Int) < b * (k : Int) ↔ a < b := Int.mul_lt_mul_right hk'
  have h2 : a * (k : Int) = b * (k : Int) ↔ a = b := by
    constructor
    · intro h; exact Int.eq_of_mul_eq_mul_right (by omega) h
    · intro h; rw [h]
  simp only [h1, h2]

theorem compare_sv (s t : Bool) (a b : Nat) : compare (sv s (val a)) (sv t (val b)) = compare (sv s a) (sv t b) := by
  have h0 : ∀ n, 0 < n → 0 < val n := fun n h => by have := val_mono h; rw [val_zero] at this; exact this
  have ha0 : val a = 0 ↔ a = 0 := by
    constructor
    · intro h; rcases Nat.eq_zero_or_pos a with g | g
      · exact g
      · have := h0 a g; omega
    · intro h; rw [h]; exact val_zero
  have hb0 : val b = 0 ↔ b = 0 := by
    constructor
    · intro h; rcases Nat.eq_zero_or_pos b with g | g
      · exact g
      · have := h0 b g; omega
    · intro h; rw [h]; exact val_zero
  have h1 := @val_lt a b
  have h2 := @val_lt b a
  simp only [compare, compareOfLessAndEq]
  have e1 : sv s (val a) < sv t (val b) ↔ sv s a < sv t b := by
    cases s <;> cases t <;> simp only [sv, if_true, if_false, Bool.false_eq_true] <;> omega
  have e2 : sv s (val a) = sv t (val b) ↔ sv s a = sv t b := by
    cases s <;> cases t <;> simp only [sv, if_true, if_false, Bool.false_eq_true] <;> omega
  simp only [e1, e2]

inductive Shape (x : Nat) : Prop where
  | num (m p : Nat) (hm : m * 2 ^ p = val (rung x)) (hl : m < 2 ^ 53) (hr : rung x < 0x7FF0000000000000) (h : Ieee.double.read x = .number (sgn x) m (-1074 + (p : Int))) : Shape x
  | inf (hr : rung x = 0x7FF0000000000000) (h : Ieee.double.read x = .infinity (sgn x)) : Shape x
  | nan (hr : 0x7FF0000000000000 < rung x) (h : Ieee.double.read x = .nan (sgn x) (rung x - 0x7FF0000000000000)) : Shape x

theorem shape (x : Nat) : Shape x := by
  have e1 : Ieee.double.signWeight = 2 ^ 63 := rfl
  have e2 : Ieee.double.binade = 2 ^ 52 := rfl
  have e3 : Ieee.double.infRung = 0x7FF0000000000000 := rfl
  have e4 : Ieee.double.leastPlace = -1074 := by decide
  have hr : Ieee.double.read x = (if rung x < 2 ^ 52 then .number (sgn x) (rung x) (-1074) else if rung x < 0x7FF0000000000000 then .number (sgn x) (2 ^ 52 + rung x % 2 ^ 52) (-1074 + ((rung x / 2 ^ 52 - 1 : Nat) : Int)) else if rung x = 0x7FF0000000000000 then .infinity (sgn x) else .nan (sgn x) (rung x - 0x7FF0000000000000)) := by
    unfold Ieee.Format.read
    rw [e1, e2, e3, e4]
    rfl
  by_cases h1 : rung x < 2 ^ 52
  · refine .num (rung x) 0 ?_ (by omega) (by omega) ?_
    · simp [val, h1]
    · rw [hr, if_pos h1]; rfl
  · by_cases h2 : rung x < 0x7FF0000000000000
    · refine .num (2 ^ 52 + rung x % 2 ^ 52) (rung x / 2 ^ 52 - 1) ?_ (by omega) h2 ?_
      · simp only [val, if_neg h1]
      · rw [hr, if_neg h1, if_pos h2]
    · by_cases h3 : rung x = 0x7FF0000000000000
      · exact .inf h3 (by rw [hr, if_neg h1, if_neg h2, if_pos h3])
      · exact .nan (by omega) (by rw [hr, if_neg h1, if_neg h2, if_neg h3])

theorem order_key (x y : Nat) : Ieee.double.order x y = if isNan x || isNan y then none else some (compare (key x) (key y)) := by
  unfold Ieee.Format.order
  have kx : key x = sv (sgn x) (rung x) := rfl
  have ky : key y = sv (sgn y) (rung y) := rfl
  rw [kx, ky]
  rcases shape x with ⟨m, p, hm, _, hx, hrx⟩ | ⟨hx, hrx⟩ | ⟨hx, hrx⟩ <;> rcases shape y with ⟨n, q, hn, _, hy, hry⟩ | ⟨hy, hry⟩ | ⟨hy, hry⟩ <;> rw [hrx, hry]
  · have nx : isNan x = false := by simp [isNan]; omega
    have ny : isNan y = false := by simp [isNan]; omega
    simp only [nx, ny, Bool.or_self, Bool.false_eq_true, if_false, Ieee.Datum.order, Option.some.injEq]
    rw [← compare_sv, ← hm, ← hn]
    have hb : min (-1074 + (p : Int)) (-1074 + (q : Int)) = -1074 + ((min p q : Nat) : Int) := by omega
    rw [hb, signed_eq, signed_eq]
    have e1 : (-1074 + (p : Int) - (-1074 + ((min p q : Nat) : Int))).toNat = p - min p q := by omega
    have e2 : (-1074 + (q : Int) - (-1074 + ((min p q : Nat) : Int))).toNat = q - min p q := by omega
    rw [e1, e2]
    have f1 : m * 2 ^ p = m * 2 ^ (p - min p q) * 2 ^ (min p q) := by rw [Nat.mul_assoc, ← Nat.pow_add]; congr 2; omega
    have f2 : n * 2 ^ q = n * 2 ^ (q - min p q) * 2 ^ (min p q) := by rw [Nat.mul_assoc, ← Nat.pow_add]; congr 2; omega
    rw [f1, f2, sv_mul _ (m * 2 ^ (p - min p q)), sv_mul _ (n * 2 ^ (q - min p q)), compare_mul _ _ _ (Nat.two_pow_pos _)]
  · have nx : isNan x = false := by simp [isNan]; omega
    have ny : isNan y = false := by simp [isNan]; omega
    simp only [nx, ny, Bool.or_self, Bool.false_eq_true, if_false, Ieee.Datum.order, Option.some.injEq]
    cases sgn x <;> cases sgn y <;> simp only [sv, compare, compareOfLessAndEq, if_true, if_false, Bool.false_eq_true] <;> (repeat' split) <;> first | rfl | omega
  · have ny : isNan y = true := by simp [isNan]; omega
    simp [ny, Ieee.Datum.order]
  · have nx : isNan x = false := by simp [isNan]; omega
    have ny : isNan y = false := by simp [isNan]; omega
    simp only [nx, ny, Bool.or_self, Bool.false_eq_true, if_false, Ieee.Datum.order, Option.some.injEq]
    cases sgn x <;> cases sgn y <;> simp only [sv, compare, compareOfLessAndEq, if_true, if_false, Bool.false_eq_true] <;> (repeat' split) <;> first | rfl | omega
  · have nx : isNan x = false := by simp [isNan]; omega
    have ny : isNan y = false := by simp [isNan]; omega
    simp only [nx, ny, Bool.or_self, Bool.false_eq_true, if_false, Ieee.Datum.order, Option.some.injEq]
    rw [hx, hy]
    cases sgn x <;> cases sgn y <;> rfl
  · have ny : isNan y = true := by simp [isNan]; omega
    simp [ny, Ieee.Datum.order]
  · have nx : isNan x = true := by simp [isNan]; omega
    simp [nx, Ieee.Datum.order]
  · have nx : isNan x = true := by simp [isNan]; omega
    simp [nx, Ieee.Datum.order]
  · have nx : isNan x = true := by simp [isNan]; omega
    simp [nx, Ieee.Datum.order]

end Go.Proofs.YtllhkegefinlbaaGreatDoor.Wv.Flo
