/- Doubles that are whole numbers: sums, differences, products, comparisons of these are those of the whole numbers, as long as these stay below 2^53. -/
import Derived.Test.YtllhkegefinlbaaGreatDoorWvKey
namespace Go.Proofs.YtllhkegefinlbaaGreatDoor.Wv
namespace Flo
set_option maxRecDepth 100000
set_option exponentiation.threshold 3000

/-- the unit: 1, in units of the least place -/
def U : Nat := 2 ^ 1074
theorem U_pow : ∃ E, E = 1074 ∧ U = 2 ^ E := ⟨1074, rfl, rfl⟩
theorem U_pos : 0 < U := by
  obtain ⟨E, -, h⟩ := U_pow
  rw [h]; exact Nat.two_pow_pos _
attribute [irreducible] U
/-- a finite double's value, in units of the least place -/
def zv (x : Nat) : Int := sv (sgn x) (val (rung x))
/-- the double x is the whole number n -/
structure Is (x : Nat) (n : Int) : Prop where
  lt : x < 2 ^ 64
  fin : rung x < 0x7FF0000000000000
  eq : zv x = n * (U : Int)

theorem Is.num {x : Nat} {n : Int} (h : Is x n) : isNan x = false := by
  have := h.fin
  unfold isNan
  exact decide_eq_false (by omega)

theorem sv_sign (t : Int) : sv (decide (t < 0)) t.natAbs = t := by
  unfold sv
  by_cases h0 : t < 0
  · rw [decide_eq_true h0, if_pos rfl]; omega
  · rw [decide_eq_false h0]; simp only [Bool.false_eq_true, if_false]; omega

theorem word_rung (s : Bool) (r : Nat) (h : r < 2 ^ 63) : rung (Ieee.double.word s r) = r ∧ sgn (Ieee.double.word s r) = s ∧ Ieee.double.word s r < 2 ^ 64 := by
  have e1 : Ieee.double.signWeight = 2 ^ 63 := rfl
  unfold Ieee.Format.word
  rw [e1]
  cases s
  · simp only [Bool.false_eq_true, if_false]
    refine ⟨Nat.mod_eq_of_lt h, ?_, by omega⟩
    unfold sgn
    have : r / 2 ^ 63 = 0 := Nat.div_eq_of_lt h
    rw [this]; rfl
  · simp only [if_true]
    refine ⟨?_, ?_, by omega⟩
    · unfold rung; omega
    · unfold sgn
      have : (2 ^ 63 + r) / 2 ^ 63 = 1 := by omega
      rw [this]; rfl

/-- cutting off nothing -/
theorem cut_exact (s : Bool) (n d : Nat) (h : n % 2 ^ d = 0) (hn : n ≠ 0) : Ieee.Toward.even.cut s n d = n / 2 ^ d := by
  have hd : d ≤ n.log2 := by
    have h1 : 2 ^ d ≤ n := Nat.le_of_dvd (by omega) (Nat.dvd_of_mod_eq_zero h)
    exact (Nat.le_log2 hn).2 h1
  have hm : min d (n.log2 + 2) = d := by omega
  have hp : 0 < 2 ^ d := Nat.two_pow_pos d
  unfold Ieee.Toward.cut
  simp only [hm, Nat.shiftLeft_eq, Nat.one_mul, h, Nat.mul_zero]
  have h2 : (2 ^ d == 0) = false := by simp
  have h3 : decide (2 ^ d < 0) = false := by simp
  simp [h2]

theorem rung_bd (L kp : Nat) (h1 : kp < 2 ^ 53) (h2 : L < 1900) : L * 2 ^ 52 + kp < 0x7FF0000000000000 := by omega
/-- a number m · 2^p (in units of the least place) that has at most 53 digits is written as it is -/
theorem nearest_exact (s : Bool) (m p e k : Nat) (hm : m ≠ 0) (hk : m * 2 ^ p = k * 2 ^ e) (hk2 : k < 2 ^ 53) (he : e < 1900) :
    ∃ r, Ieee.double.nearest s m (-1074 + (p : Int)) = Ieee.double.word s r ∧ r < 0x7FF0000000000000 ∧ val r = m * 2 ^ p := by
  have e2 : Ieee.double.binade = 2 ^ 52 := rfl
  have e3 : Ieee.double.infRung = 0x7FF0000000000000 := rfl
  have e4 : Ieee.double.leastPlace = -1074 := by decide
  have e5 : Ieee.double.fractionBits = 52 := rfl
  have hl1 : 2 ^ m.log2 ≤ m := Nat.log2_self_le hm
  have hl2 : m < 2 ^ (m.log2 + 1) := Nat.lt_log2_self
  obtain ⟨l, hl⟩ : ∃ l, m.log2 = l := ⟨_, rfl⟩
  rw [hl] at hl1 hl2
  have hN1 : 2 ^ (l + p) ≤ m * 2 ^ p := by rw [Nat.pow_add]; exact Nat.mul_le_mul_right _ hl1
  have hN2 : m * 2 ^ p < 2 ^ (l + 1 + p) := by rw [Nat.pow_add]; exact Nat.mul_lt_mul_of_pos_right hl2 (Nat.two_pow_pos _)
  have hN3 : k * 2 ^ e < 2 ^ (53 + e) := by rw [Nat.pow_add]; exact Nat.mul_lt_mul_of_pos_right hk2 (Nat.two_pow_pos _)
  have hle : l + p < 53 + e := (Nat.pow_lt_pow_iff_right (by omega : 1 < 2)).1 (Nat.lt_of_le_of_lt hN1 (hk ▸ hN3))
  obtain ⟨L, hL⟩ : ∃ L, L = p + l - 52 := ⟨_, rfl⟩
  have hLe : L ≤ e := by omega
  have hdvd : 2 ^ L ∣ m * 2 ^ p := by
    rw [hk]
    exact Nat.dvd_trans (Nat.pow_dvd_pow 2 hLe) (Nat.dvd_mul_left _ _)
  -- what is kept
  have hkept : ∃ kp, Ieee.Toward.even.cut s (m <<< (p - L)) (L - p) = kp ∧ kp * 2 ^ L = m * 2 ^ p := by
    by_cases hpL : L ≤ p
    · refine ⟨m * 2 ^ (p - L), ?_, ?_⟩
      · have : L - p = 0 := by omega
        rw [this, Nat.shiftLeft_eq, cut_exact s _ 0 (by simp [Nat.mod_one]) (by have := Nat.two_pow_pos (p - L); intro h; rcases Nat.mul_eq_zero.1 h with g | g <;> omega)]
        simp
      · rw [Nat.mul_assoc, ← Nat.pow_add]; congr 2; omega
    · have hd : 2 ^ (L - p) ∣ m := by
        obtain ⟨c, hc⟩ := hdvd
        refine ⟨c, ?_⟩
        have h1 : m * 2 ^ p = 2 ^ (L - p) * c * 2 ^ p := by
          rw [hc, Nat.mul_assoc, Nat.mul_comm c, ← Nat.mul_assoc, ← Nat.pow_add]; congr 2; omega
        exact Nat.eq_of_mul_eq_mul_right (Nat.two_pow_pos p) h1
      refine ⟨m / 2 ^ (L - p), ?_, ?_⟩
      · have : p - L = 0 := by omega
        rw [this, Nat.shiftLeft_zero, cut_exact s m (L - p) (Nat.mod_eq_zero_of_dvd hd) hm]
      · obtain ⟨c, hc⟩ := hd
        rw [hc, Nat.mul_div_cancel_left _ (Nat.two_pow_pos _), Nat.mul_comm (2 ^ (L - p)) c, Nat.mul_assoc, ← Nat.pow_add]; congr 2; omega
  obtain ⟨kp, hc, hkp⟩ := hkept
  have hk53 : kp < 2 ^ 53 := by
    have h1 : kp * 2 ^ L < 2 ^ 53 * 2 ^ L := by
      rw [hkp, ← Nat.pow_add]
      exact Nat.lt_of_lt_of_le hN2 (Nat.pow_le_pow_right (by omega) (by omega))
    exact Nat.lt_of_mul_lt_mul_right h1
  have hk52 : 0 < L → 2 ^ 52 ≤ kp := by
    intro h0
    have h1 : 2 ^ 52 * 2 ^ L ≤ kp * 2 ^ L := by
      rw [hkp, ← Nat.pow_add]
      exact Nat.le_trans (Nat.pow_le_pow_right (by omega) (by omega)) hN1
    exact Nat.le_of_mul_le_mul_right h1 (Nat.two_pow_pos _)
  have hlast : max (-1074 + (p : Int) + ((l : Nat) : Int) - ((52 : Nat) : Int)) (-1074) = -1074 + (L : Int) := by omega
  have hbd := rung_bd L kp hk53 (by omega)
  refine ⟨L * 2 ^ 52 + kp, ?_, hbd, ?_⟩
  · unfold Ieee.Format.nearest
    rw [if_neg hm]
    simp only [e2, e3, e4, e5, hl, hlast]
    have t1 : (-1074 + (p : Int) - (-1074 + (L : Int))).toNat = p - L := by omega
    have t2 : (-1074 + (L : Int) - (-1074 + (p : Int))).toNat = L - p := by omega
    have t3 : (-1074 + (L : Int) - -1074).toNat = L := by omega
    rw [t1, t2, t3, hc, Nat.min_eq_left (Nat.le_of_lt hbd)]
  · unfold val
    by_cases h0 : L = 0
    · subst h0
      rw [Nat.pow_zero, Nat.mul_one] at hkp
      rw [Nat.zero_mul, Nat.zero_add]
      by_cases h1 : kp < 2 ^ 52
      · rw [if_pos h1, hkp]
      · rw [if_neg h1]
        have q1 : kp / 2 ^ 52 = 1 := by omega
        have q2 : 2 ^ 52 + kp % 2 ^ 52 = kp := by omega
        rw [q1, q2]; simpa using hkp
    · have h52 := hk52 (by omega)
      rw [if_neg (by omega)]
      have q1 : (L * 2 ^ 52 + kp) / 2 ^ 52 - 1 = L := by omega
      have q2 : 2 ^ 52 + (L * 2 ^ 52 + kp) % 2 ^ 52 = kp := by omega
      rw [q1, q2, hkp]

/-- what is written of a whole number is it -/
theorem is_nearest (s : Bool) (t : Int) (p : Nat) (n : Int) (hn : t * ((2 ^ p : Nat) : Int) = n * (U : Int)) (hb : n.natAbs < 2 ^ 53) :
    Is (Ieee.double.nearest (if t = 0 then s else decide (t < 0)) t.natAbs (-1074 + (p : Int))) n := by
  have hp : (0 : Int) < ((2 ^ p : Nat) : Int) := by have := Nat.two_pow_pos p; omega
  have hu : (0 : Int) < (U : Int) := by have := U_pos; omega
  by_cases h0 : t = 0
  · subst h0
    have hn0 : n = 0 := by
      rw [Int.zero_mul] at hn
      rcases Int.mul_eq_zero.1 hn.symm with h | h
      · exact h
      · omega
    subst hn0
    rw [if_pos rfl]
    have : Ieee.double.nearest s (0 : Int).natAbs (-1074 + (p : Int)) = Ieee.double.word s 0 := by
      unfold Ieee.Format.nearest; exact if_pos rfl
    rw [this]
    obtain ⟨w1, w2, w3⟩ := word_rung s 0 (by omega)
    refine ⟨w3, by rw [w1]; omega, ?_⟩
    unfold zv
    rw [w1, w2, val_zero, Int.zero_mul]
    cases s <;> rfl
  · rw [if_neg h0]
    have hm : t.natAbs ≠ 0 := by omega
    obtain ⟨E, hE, hU⟩ := U_pow
    have hN : t.natAbs * 2 ^ p = n.natAbs * 2 ^ E := by
      have := congrArg Int.natAbs hn
      rw [Int.natAbs_mul, Int.natAbs_mul, Int.natAbs_natCast, Int.natAbs_natCast, hU] at this
      exact this
    obtain ⟨r, h1, h2, h3⟩ := nearest_exact (decide (t < 0)) t.natAbs p E n.natAbs hm hN hb (by omega)
    rw [h1]
    obtain ⟨w1, w2, w3⟩ := word_rung (decide (t < 0)) r (by omega)
    refine ⟨w3, by rw [w1]; exact h2, ?_⟩
    unfold zv
    rw [w1, w2, h3, sv_mul, sv_sign, hn]

theorem Is.shape {x : Nat} {n : Int} (h : Is x n) : ∃ m p : Nat, Ieee.double.read x = .number (sgn x) m (-1074 + (p : Int)) ∧ m < 2 ^ 53 ∧ sv (sgn x) (m * 2 ^ p) = n * (U : Int) := by
  rcases Flo.shape x with ⟨m, p, hm, hl, _, hr⟩ | ⟨hx, _⟩ | ⟨hx, _⟩
  · exact ⟨m, p, hr, hl, by rw [hm]; exact h.eq⟩
  · have := h.fin; omega
  · have := h.fin; omega

/-- two numbers together -/
theorem sum_is {s t : Bool} {m n p q : Nat} {a b : Int} (ha : sv s (m * 2 ^ p) = a * (U : Int)) (hb : sv t (n * 2 ^ q) = b * (U : Int)) (hab : (a + b).natAbs < 2 ^ 53) :
    ∃ r, ((Ieee.Datum.number s m (-1074 + (p : Int))).sum (.number t n (-1074 + (q : Int)))).map Ieee.double.write = some r ∧ Is r (a + b) := by
  have hbase : min (-1074 + (p : Int)) (-1074 + (q : Int)) = -1074 + ((min p q : Nat) : Int) := by omega
  have e1 : (-1074 + (p : Int) - (-1074 + ((min p q : Nat) : Int))).toNat = p - min p q := by omega
  have e2 : (-1074 + (q : Int) - (-1074 + ((min p q : Nat) : Int))).toNat = q - min p q := by omega
  have f1 : sv s (m * 2 ^ p) = sv s (m * 2 ^ (p - min p q)) * ((2 ^ (min p q) : Nat) : Int) := by
    rw [← sv_mul, Nat.mul_assoc, ← Nat.pow_add]; congr 3; omega
  have f2 : sv t (n * 2 ^ q) = sv t (n * 2 ^ (q - min p q)) * ((2 ^ (min p q) : Nat) : Int) := by
    rw [← sv_mul, Nat.mul_assoc, ← Nat.pow_add]; congr 3; omega
  simp only [Ieee.Datum.sum, hbase, e1, e2, signed_eq, Option.map_some, Ieee.Format.write]
  refine ⟨_, rfl, ?_⟩
  generalize hT : sv s (m * 2 ^ (p - min p q)) + sv t (n * 2 ^ (q - min p q)) = T
  have hTe : T * ((2 ^ (min p q) : Nat) : Int) = (a + b) * (U : Int) := by
    rw [← hT, Int.add_mul, ← f1, ← f2, ha, hb, Int.add_mul]
  exact is_nearest (s && t) T (min p q) (a + b) hTe hab

theorem is_add {x y : Nat} {a b : Int} (hx : Is x a) (hy : Is y b) (hab : (a + b).natAbs < 2 ^ 53) : ∃ r, Ieee.double.add x y = some r ∧ Is r (a + b) := by
  obtain ⟨m, p, hr, _, h1⟩ := hx.shape
  obtain ⟨n, q, hr2, _, h2⟩ := hy.shape
  unfold Ieee.Format.add
  rw [hr, hr2]
  exact sum_is h1 h2 hab

theorem sv_not (s : Bool) (n : Nat) : sv (!s) n = -sv s n := by cases s <;> simp [sv]

theorem is_sub {x y : Nat} {a b : Int} (hx : Is x a) (hy : Is y b) (hab : (a - b).natAbs < 2 ^ 53) : ∃ r, Ieee.double.sub x y = some r ∧ Is r (a - b) := by
  obtain ⟨m, p, hr, _, h1⟩ := hx.shape
  obtain ⟨n, q, hr2, _, h2⟩ := hy.shape
  unfold Ieee.Format.sub
  rw [hr, hr2]
  have h3 : sv (!sgn y) (n * 2 ^ q) = (-b) * (U : Int) := by rw [sv_not, h2, Int.neg_mul]
  have := sum_is h1 h3 (by rw [← Int.sub_eq_add_neg]; exact hab)
  rw [← Int.sub_eq_add_neg] at this
  exact this

theorem sv_natAbs (s : Bool) (n : Nat) : (sv s n).natAbs = n := by cases s <;> simp [sv]
theorem sv_xor (s t : Bool) (m n : Nat) : sv (s ^^ t) (m * n) = sv s m * sv t n := by
  cases s <;> cases t <;> simp [sv, Int.neg_mul, Int.mul_neg]

/-- how deep the last digit of a whole number lies -/
theorem place_deep {m p : Nat} {n : Nat} (h : m * 2 ^ p = n * U) (hn : n ≠ 0) (hm : m < 2 ^ 53) : 1022 ≤ p := by
  obtain ⟨E, hE, hU⟩ := U_pow
  rw [hU] at h
  have h1 : 2 ^ E ≤ m * 2 ^ p := by rw [h]; exact Nat.le_mul_of_pos_left _ (by omega)
  have h2 : m * 2 ^ p < 2 ^ (53 + p) := by rw [Nat.pow_add]; exact Nat.mul_lt_mul_of_pos_right hm (Nat.two_pow_pos _)
  have h3 : E < 53 + p := (Nat.pow_lt_pow_iff_right (by omega : 1 < 2)).1 (Nat.lt_of_le_of_lt h1 h2)
  omega

theorem is_mul {x y : Nat} {a b : Int} (hx : Is x a) (hy : Is y b) (hab : (a * b).natAbs < 2 ^ 53) : ∃ r, Ieee.double.mul x y = some r ∧ Is r (a * b) := by
  obtain ⟨m, p, hr, hm, h1⟩ := hx.shape
  obtain ⟨n, q, hr2, hn, h2⟩ := hy.shape
  unfold Ieee.Format.mul
  rw [hr, hr2]
  simp only [Ieee.Datum.product, Option.map_some, Ieee.Format.write]
  refine ⟨_, rfl, ?_⟩
  have n1 : m * 2 ^ p = a.natAbs * U := by
    have := congrArg Int.natAbs h1
    rw [sv_natAbs, Int.natAbs_mul, Int.natAbs_natCast] at this; exact this
  have n2 : n * 2 ^ q = b.natAbs * U := by
    have := congrArg Int.natAbs h2
    rw [sv_natAbs, Int.natAbs_mul, Int.natAbs_natCast] at this; exact this
  have z : ∀ (s : Bool) (place : Int), m * n = 0 → Is (Ieee.double.nearest s (m * n) place) (a * b) := by
    intro s place h0
    have hab0 : a * b = 0 := by
      rcases Nat.mul_eq_zero.1 h0 with h | h
      · rw [h, Nat.zero_mul] at n1
        have : a.natAbs = 0 := by
          rcases Nat.mul_eq_zero.1 n1.symm with g | g
          · exact g
          · have := U_pos; omega
        have : a = 0 := by omega
        rw [this, Int.zero_mul]
      · rw [h, Nat.zero_mul] at n2
        have : b.natAbs = 0 := by
          rcases Nat.mul_eq_zero.1 n2.symm with g | g
          · exact g
          · have := U_pos; omega
        have : b = 0 := by omega
        rw [this, Int.mul_zero]
    rw [hab0, h0]
    have : Ieee.double.nearest s 0 place = Ieee.double.word s 0 := by unfold Ieee.Format.nearest; exact if_pos rfl
    rw [this]
    obtain ⟨w1, w2, w3⟩ := word_rung s 0 (by omega)
    refine ⟨w3, by rw [w1]; omega, ?_⟩
    unfold zv
    rw [w1, w2, val_zero, Int.zero_mul]
    cases s <;> rfl
  by_cases h0 : m * n = 0
  · exact z _ _ h0
  · have ha0 : a.natAbs ≠ 0 := by
      intro h; rw [h, Nat.zero_mul] at n1
      rcases Nat.mul_eq_zero.1 n1 with g | g
      · rw [g, Nat.zero_mul] at h0; exact h0 rfl
      · have := Nat.two_pow_pos p; omega
    have hb0 : b.natAbs ≠ 0 := by
      intro h; rw [h, Nat.zero_mul] at n2
      rcases Nat.mul_eq_zero.1 n2 with g | g
      · rw [g, Nat.mul_zero] at h0; exact h0 rfl
      · have := Nat.two_pow_pos q; omega
    have d1 := place_deep n1 ha0 hm
    have d2 := place_deep n2 hb0 hn
    obtain ⟨E, hE, hU⟩ := U_pow
    obtain ⟨P, hP⟩ : ∃ P, p + q = P + E := ⟨p + q - E, by omega⟩
    have hpl : -1074 + (p : Int) + (-1074 + (q : Int)) = -1074 + (P : Int) := by omega
    rw [hpl]
    have hsv : sv (sgn x ^^ sgn y) (m * n) * ((2 ^ P : Nat) : Int) = (a * b) * (U : Int) := by
      have hu : (U : Int) ≠ 0 := by have := U_pos; omega
      apply Int.eq_of_mul_eq_mul_right hu
      have k1 : sv (sgn x ^^ sgn y) (m * n) * ((2 ^ P : Nat) : Int) * (U : Int) = sv (sgn x) (m * 2 ^ p) * sv (sgn y) (n * 2 ^ q) := by
        rw [sv_xor, sv_mul (sgn x) m (2 ^ p), sv_mul (sgn y) n (2 ^ q)]
        have : ((2 ^ p : Nat) : Int) * ((2 ^ q : Nat) : Int) = ((2 ^ P : Nat) : Int) * (U : Int) := by
          rw [hU, ← Int.natCast_mul, ← Int.natCast_mul, ← Nat.pow_add, ← Nat.pow_add, hP]
        calc sv (sgn x) m * sv (sgn y) n * ((2 ^ P : Nat) : Int) * (U : Int)
            = sv (sgn x) m * sv (sgn y) n * (((2 ^ P : Nat) : Int) * (U : Int)) := by rw [Int.mul_assoc]
          _ = sv (sgn x) m * sv (sgn y) n * (((2 ^ p : Nat) : Int) * ((2 ^ q : Nat) : Int)) := by rw [this]
          _ = sv (sgn x) m * ((2 ^ p : Nat) : Int) * (sv (sgn y) n * ((2 ^ q : Nat) : Int)) := by
            simp only [Int.mul_assoc, Int.mul_left_comm]
      rw [k1, h1, h2]
      simp only [Int.mul_assoc, Int.mul_left_comm, Int.mul_comm]
    have hne : sv (sgn x ^^ sgn y) (m * n) ≠ 0 := by
      intro h
      have := sv_natAbs (sgn x ^^ sgn y) (m * n)
      rw [h] at this
      exact h0 this.symm
    have hsg : decide (sv (sgn x ^^ sgn y) (m * n) < 0) = (sgn x ^^ sgn y) := by
      cases hx' : (sgn x ^^ sgn y)
      · simp [sv]; omega
      · have : 0 < m * n := by omega
        simp [sv]; omega
    have := is_nearest false (sv (sgn x ^^ sgn y) (m * n)) P (a * b) hsv hab
    rw [if_neg hne, hsg, sv_natAbs] at this
    exact this

/-- a whole number as a double -/
theorem is_ofInt (n : Int) (hb : n.natAbs < 2 ^ 53) : Is (Ieee.double.write (.number (decide (n < 0)) n.natAbs 0)) n := by
  obtain ⟨E, hE, hU⟩ := U_pow
  have := is_nearest false n E n (by rw [hU]) hb
  have e : (-1074 + (E : Int)) = 0 := by omega
  rw [e] at this
  have e2 : (if n = 0 then false else decide (n < 0)) = decide (n < 0) := by
    by_cases h : n = 0
    · subst h; rfl
    · rw [if_neg h]
  rw [e2] at this
  exact this

/-- how whole numbers stand to each other -/
theorem is_order {x y : Nat} {a b : Int} (hx : Is x a) (hy : Is y b) : Ieee.double.order x y = some (compare a b) := by
  rw [order_key, hx.num, hy.num]
  simp only [Bool.or_self, Bool.false_eq_true, if_false, Option.some.injEq]
  have k : compare (key x) (key y) = compare (zv x) (zv y) := (compare_sv (sgn x) (sgn y) (rung x) (rung y)).symm
  rw [k, hx.eq, hy.eq, compare_mul _ _ _ U_pos]
theorem is_zero : Is 0 0 := ⟨by omega, by decide +kernel, by rw [Int.zero_mul]; decide +kernel⟩
end Flo
end Go.Proofs.YtllhkegefinlbaaGreatDoor.Wv
