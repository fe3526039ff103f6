/- Points' cells as lists, in the order of topk or of bottomk: what stands at one place of the order. -/
import Derived.Test.YtllhkegefinlbaaGreatDoorWvInt
import Derived.Test.YtllhkegefinlbaaGreatDoorPRef
import Derived.Test.YtllhkegefinlbaaGreatDoorFSignMath
namespace Go.Proofs.YtllhkegefinlbaaGreatDoor.Wv
namespace Flo
set_option maxRecDepth 100000
set_option exponentiation.threshold 3000

/-- a number whose digits, cut or not, are a double's -/
theorem nearest_val (s : Bool) (m p d L kp : Nat) (hm : m ≠ 0) (h : m * 2 ^ p = kp * 2 ^ (L + d)) (hk : kp < 2 ^ 53) (hL : L = 0 ∨ 2 ^ 52 ≤ kp) (hR : L * 2 ^ 52 + kp < 0x7FF0000000000000) :
    Ieee.double.nearest s m (-1074 + (p : Int) - (d : Int)) = Ieee.double.word s (L * 2 ^ 52 + kp) := by
  have e2 : Ieee.double.binade = 2 ^ 52 := rfl
  have e3 : Ieee.double.infRung = 0x7FF0000000000000 := rfl
  have e4 : Ieee.double.leastPlace = -1074 := by decide
  have e5 : Ieee.double.fractionBits = 52 := rfl
  have hl1 : 2 ^ m.log2 ≤ m := Nat.log2_self_le hm
  have hl2 : m < 2 ^ (m.log2 + 1) := Nat.lt_log2_self
  obtain ⟨l, hl⟩ : ∃ l, m.log2 = l := ⟨_, rfl⟩
  rw [hl] at hl1 hl2
  have hN1 : 2 ^ (l + p) ≤ m * 2 ^ p := by rw [Nat.pow_add]; exact Nat.mul_le_mul_right _ hl1
  have hN2 : m * 2 ^ p < 2 ^ (l + 1 + p) := by rw [Nat.pow_add]; exact Nat.mul_lt_mul_of_pos_right hl2 (Nat.two_pow_pos _)
  have hN3 : kp * 2 ^ (L + d) < 2 ^ (53 + (L + d)) := by rw [Nat.pow_add 2 53]; exact Nat.mul_lt_mul_of_pos_right hk (Nat.two_pow_pos _)
  have hle : l + p < 53 + (L + d) := (Nat.pow_lt_pow_iff_right (by omega : 1 < 2)).1 (Nat.lt_of_le_of_lt hN1 (h ▸ hN3))
  have hge : 0 < L → 52 + (L + d) ≤ l + p := fun h0 => by
    have h52 : 2 ^ 52 ≤ kp := by rcases hL with h | h <;> omega
    have h1 : 2 ^ (52 + (L + d)) ≤ kp * 2 ^ (L + d) := by rw [Nat.pow_add 2 52]; exact Nat.mul_le_mul_right _ h52
    have := (Nat.pow_lt_pow_iff_right (by omega : 1 < 2)).1 (Nat.lt_of_le_of_lt h1 (h ▸ hN2))
    omega
  have hlast : max (-1074 + (p : Int) - (d : Int) + ((l : Nat) : Int) - ((52 : Nat) : Int)) (-1074) = -1074 + (L : Int) := by
    rcases Nat.eq_zero_or_pos L with h0 | h0
    · omega
    · have := hge h0; omega
  have hc : Ieee.Toward.even.cut s (m <<< (p - (L + d))) (L + d - p) = kp := by
    by_cases hp : L + d ≤ p
    · have h0 : L + d - p = 0 := by omega
      have h1 : m * 2 ^ (p - (L + d)) = kp := by
        have h2 : m * 2 ^ (p - (L + d)) * 2 ^ (L + d) = kp * 2 ^ (L + d) := by
          rw [← h, Nat.mul_assoc, ← Nat.pow_add]; congr 2; omega
        exact Nat.eq_of_mul_eq_mul_right (Nat.two_pow_pos _) h2
      rw [h0, Nat.shiftLeft_eq, h1, cut_exact s _ 0 (by simp [Nat.mod_one]) (by
        rw [← h1]; have := Nat.two_pow_pos (p - (L + d)); intro h; rcases Nat.mul_eq_zero.1 h with g | g <;> omega)]
      simp
    · have h0 : p - (L + d) = 0 := by omega
      have h1 : m = kp * 2 ^ (L + d - p) := by
        have h2 : m * 2 ^ p = kp * 2 ^ (L + d - p) * 2 ^ p := by
          rw [h, Nat.mul_assoc, ← Nat.pow_add]; congr 2; omega
        exact Nat.eq_of_mul_eq_mul_right (Nat.two_pow_pos _) h2
      rw [h0, Nat.shiftLeft_zero, cut_exact s m (L + d - p) (by rw [h1]; exact Nat.mul_mod_left _ _) hm, h1, Nat.mul_div_cancel _ (Nat.two_pow_pos _)]
  unfold Ieee.Format.nearest
  rw [if_neg hm]
  simp only [e2, e3, e4, e5, hl, hlast]
  have t1 : (-1074 + (p : Int) - (d : Int) - (-1074 + (L : Int))).toNat = p - (L + d) := by omega
  have t2 : (-1074 + (L : Int) - (-1074 + (p : Int) - (d : Int))).toNat = L + d - p := by omega
  have t3 : (-1074 + (L : Int) - -1074).toNat = L := by omega
  rw [t1, t2, t3, hc, Nat.min_eq_left (Nat.le_of_lt hR)]
/-- a rung's digits -/
theorem val_form {R : Nat} (hR : R < 0x7FF0000000000000) : ∃ L kp, val R = kp * 2 ^ L ∧ kp < 2 ^ 53 ∧ (L = 0 ∨ 2 ^ 52 ≤ kp) ∧ L * 2 ^ 52 + kp = R := by
  by_cases h : R < 2 ^ 52
  · exact ⟨0, R, by simp [val, h], by omega, .inl rfl, by omega⟩
  · refine ⟨R / 2 ^ 52 - 1, 2 ^ 52 + R % 2 ^ 52, by simp [val, h], by omega, .inr (by omega), by omega⟩
theorem word_self (x : Nat) (h : x < 2 ^ 64) : Ieee.double.word (sgn x) (rung x) = x := by
  have e1 : Ieee.double.signWeight = 2 ^ 63 := rfl
  unfold Ieee.Format.word
  rw [e1]
  unfold sgn rung
  rcases (by omega : x / 2 ^ 63 % 2 = 0 ∨ x / 2 ^ 63 % 2 = 1) with e | e
  · rw [e]; simp; omega
  · rw [e]; simp; omega
theorem val_zero' {r : Nat} (h : val r = 0) : r = 0 := by
  have := (val_inj (a := r) (b := 0)).1 (by rw [h, val_zero])
  exact this
/-- one -/
def one : Nat := 4607182418800017408
theorem read_one : Ieee.double.read one = .number false (2 ^ 52) (-52) := by decide +kernel
theorem log_52 : Nat.log2 (2 ^ 52) = 52 := by decide +kernel
theorem div_one (x : Nat) (h : x < 2 ^ 64) (hn : isNan x = false) : Ieee.double.div x one = some x := by
  have e5 : Ieee.double.fractionBits = 52 := rfl
  unfold Ieee.Format.div
  rw [read_one, e5]
  have hnr : ¬ 0x7FF0000000000000 < rung x := by simpa [isNan] using hn
  rcases shape x with ⟨m, p, hm, hl, hr, hx⟩ | ⟨hr, hx⟩ | ⟨hr, hx⟩
  · rw [hx]
    simp only [Ieee.Datum.quotient, log_52]
    rw [if_neg (by decide)]
    simp only [Option.map_some, Option.some.injEq, Ieee.Format.write]
    by_cases h0 : m = 0
    · subst h0
      rw [Nat.zero_mul] at hm
      have hz : rung x = 0 := val_zero' hm.symm
      simp only [Nat.zero_shiftLeft, Nat.zero_div, Nat.zero_mod, bne_self_eq_false, Bool.toNat_false, Nat.mul_zero, Nat.add_zero]
      have : Ieee.double.nearest (sgn x ^^ false) 0 (-1074 + (p : Int) - -52 - ((52 + 2 + 52 - Nat.log2 0 : Nat) : Int) - 1) = Ieee.double.word (sgn x ^^ false) 0 := by unfold Ieee.Format.nearest; exact if_pos rfl
      rw [this, Bool.xor_false, ← hz, word_self x h]
    · have hlog : m.log2 < 53 := (Nat.log2_lt h0).2 hl
      obtain ⟨c, hc⟩ : ∃ c, 52 + 2 + 52 - m.log2 = c + 52 := ⟨52 + 2 - m.log2, by omega⟩
      rw [hc]
      have hdiv : m <<< (c + 52) / 2 ^ 52 = m * 2 ^ c := by
        rw [Nat.shiftLeft_eq, Nat.pow_add, ← Nat.mul_assoc, Nat.mul_div_cancel _ (Nat.two_pow_pos _)]
      have hmod : m <<< (c + 52) % 2 ^ 52 = 0 := by
        rw [Nat.shiftLeft_eq, Nat.pow_add, ← Nat.mul_assoc, Nat.mul_mod_left]
      rw [hdiv, hmod]
      simp only [bne_self_eq_false, Bool.toNat_false, Nat.add_zero, Bool.xor_false]
      have hpl : (-1074 + (p : Int) - -52 - ((c + 52 : Nat) : Int) - 1) = -1074 + (p : Int) - ((c + 1 : Nat) : Int) := by omega
      rw [hpl]
      obtain ⟨L, kp, f1, f2, f3, f4⟩ := val_form hr
      have := nearest_val (sgn x) (2 * (m * 2 ^ c)) p (c + 1) L kp (Nat.ne_of_gt (Nat.mul_pos (by omega) (Nat.mul_pos (by omega) (Nat.two_pow_pos c)))) (by
        have : 2 * (m * 2 ^ c) * 2 ^ p = m * 2 ^ p * 2 ^ (c + 1) := by
          rw [Nat.pow_succ]
          simp only [Nat.mul_comm, Nat.mul_left_comm, Nat.mul_assoc]
        rw [this, hm, f1, Nat.mul_assoc, ← Nat.pow_add]) f2 f3 (by omega)
      rw [this, f4, word_self x h]
  · rw [hx]
    simp only [Ieee.Datum.quotient, Option.map_some, Ieee.Format.write, Bool.xor_false]
    have e3 : Ieee.double.infRung = 0x7FF0000000000000 := rfl
    rw [e3, ← hr, word_self x h]
  · exact absurd hr hnr
/-- what is written of a number or an infinity -/
theorem nearest_lt (s : Bool) (m : Nat) (pl : Int) : Ieee.double.nearest s m pl < 2 ^ 64 := by
  unfold Ieee.Format.nearest
  split
  · exact (word_rung s 0 (by omega)).2.2
  · refine (word_rung s _ ?_).2.2
    have e3 : Ieee.double.infRung = 0x7FF0000000000000 := rfl
    rw [e3]
    exact Nat.lt_of_le_of_lt (Nat.min_le_right _ _) (by decide)
theorem write_lt (d : Ieee.Datum) (h : ∀ s f, d ≠ .nan s f) : Ieee.double.write d < 2 ^ 64 := by
  cases d with
  | number s m pl => exact nearest_lt s m pl
  | infinity s => exact (word_rung s _ (by decide)).2.2
  | nan s f => exact absurd rfl (h s f)
theorem map_write_lt {o : Option Ieee.Datum} (h : ∀ s f, o ≠ some (.nan s f)) {r : Nat} (hr : o.map Ieee.double.write = some r) : r < 2 ^ 64 := by
  cases o with
  | none => cases hr
  | some d => cases hr; exact write_lt d fun s f e => h s f (by rw [e])
theorem add_lt {x y r : Nat} (h : Ieee.double.add x y = some r) : r < 2 ^ 64 := by
  refine map_write_lt (fun s f e => ?_) h
  unfold Ieee.Datum.sum at e
  split at e <;> first | cases e | (split at e <;> cases e)
theorem sub_lt {x y r : Nat} (h : Ieee.double.sub x y = some r) : r < 2 ^ 64 := by
  refine map_write_lt (fun s f e => ?_) h
  unfold Ieee.Datum.sum at e
  split at e <;> first | cases e | (split at e <;> cases e)
theorem mul_lt {x y r : Nat} (h : Ieee.double.mul x y = some r) : r < 2 ^ 64 := by
  refine map_write_lt (fun s f e => ?_) h
  unfold Ieee.Datum.product at e
  split at e <;> first | cases e | (split at e <;> cases e)
theorem div_lt {x y r : Nat} (h : Ieee.double.div x y = some r) : r < 2 ^ 64 := by
  refine map_write_lt (fun s f e => ?_) h
  unfold Ieee.Datum.quotient at e
  split at e <;> first | cases e | (split at e <;> first | cases e | (split at e <;> cases e))
/-- a whole number as a double -/
def ofI (n : Int) : Nat := Ieee.double.nearest (decide (n < 0)) n.natAbs 0
theorem ofI_lt (n : Int) : ofI n < 2 ^ 64 := nearest_lt _ _ _
theorem ofI_is (n : Int) (h : n.natAbs < 2 ^ 53) : Is (ofI n) n := by
  unfold ofI
  have hU : ((2 ^ 1074 : Nat) : Int) = (U : Int) := by unfold U; rfl
  have := is_nearest (decide (n < 0)) n 1074 n (by rw [hU]) h
  have e : (-1074 + ((1074 : Nat) : Int)) = 0 := by decide
  rw [e] at this
  have e2 : (if n = 0 then decide (n < 0) else decide (n < 0)) = decide (n < 0) := by split <;> rfl
  rw [e2] at this
  exact this
end Flo
end Go.Proofs.YtllhkegefinlbaaGreatDoor.Wv
namespace Go.Proofs.YtllhkegefinlbaaGreatDoor.Gs
set_option maxRecDepth 100000
variable {tp : Bool} {ca : Nat}

/-- a value's place in the order: topk has the greatest first, bottomk the least; a NaN stands behind all numbers -/
def ordK (tp : Bool) (b : Nat) : Int := if tp then -(Fv.tk b) else if Fv.nanB b then 2 ^ 80 else Fv.tk b
/-- a point's cells -/
def Po (_ : Bool) : Type := { c : Pt.Pc // c.2 < 2 ^ 64 }
instance : Inhabited (Po tp) := ⟨⟨(⟨none, 0, 0⟩, 0), by decide⟩⟩
def Po.pc (x : Po tp) : Pt.Pc := x.1
def Po.sa (x : Po tp) : Option Addr := x.pc.1.a
def Po.sn (x : Po tp) : Nat := x.pc.1.n
def Po.sc (x : Po tp) : Nat := x.pc.1.c
def Po.fb (x : Po tp) : Nat := x.pc.2
def Po.k (x : Po tp) : Int := ordK tp x.fb
theorem Po.lt (x : Po tp) : x.fb < 2 ^ 64 := x.2
/-- those of one place, in their order -/
def atT (t : Int) (l : List (Po tp)) : List (Po tp) := l.filter (fun x : Po tp => x.k == t)
/-- times do not fall -/
def AscT (l : List (Po tp)) : Prop := l.Pairwise (fun x y => x.k ≤ y.k)
/-- the same samples, those of one place in the same order -/
def EqT (l r : List (Po tp)) : Prop := ∀ t, atT t r = atT t l
theorem EqT.refl (l : List (Po tp)) : EqT l l := fun _ => rfl
theorem EqT.trans {a b c : List (Po tp)} (h : EqT a b) (g : EqT b c) : EqT a c := fun t => (g t).trans (h t)
theorem atT_app (t : Int) (a b : List (Po tp)) : atT t (a ++ b) = atT t a ++ atT t b := by unfold atT; exact List.filter_append ..
theorem EqT.app {a b c d : List (Po tp)} (h : EqT a b) (g : EqT c d) : EqT (a ++ c) (b ++ d) := fun t => by rw [atT_app, atT_app, h t, g t]
theorem atT_nil_of {t : Int} {l : List (Po tp)} (h : ∀ x ∈ l, x.k ≠ t) : atT t l = [] := List.filter_eq_nil_iff.2 fun x hx => by simpa using h x hx
/-- two parts with no time in common change places -/
theorem EqT.turn {a b : List (Po tp)} (h : ∀ x ∈ a, ∀ y ∈ b, x.k ≠ y.k) : EqT (a ++ b) (b ++ a) := fun t => by
  rw [atT_app, atT_app]
  by_cases g : ∃ x ∈ a, x.k = t
  · obtain ⟨x, hx, rfl⟩ := g
    rw [atT_nil_of (l := b) fun y hy => (h x hx y hy).symm]; simp
  · rw [atT_nil_of (l := a) fun y hy e => g ⟨y, hy, e⟩]; simp
theorem EqT.mem {a b : List (Po tp)} (h : EqT a b) {x : Po tp} : x ∈ b ↔ x ∈ a := by
  have : x ∈ atT x.k b ↔ x ∈ atT x.k a := by rw [h]
  simpa [atT] using this
theorem EqT.length {a b : List (Po tp)} (h : EqT a b) : b.length = a.length := by
  have key : ∀ (n : Nat) (a b : List (Po tp)), a.length = n → EqT a b → b.length = a.length := by
    intro n
    induction n using Nat.strongRecOn with
    | ind n ih =>
      intro a b hn h
      cases a with
      | nil =>
        cases b with
        | nil => rfl
        | cons y r => exact absurd ((EqT.mem h (x := y)).1 (List.mem_cons_self ..)) (by simp)
      | cons x r =>
        have hs : ∀ l : List (Po tp), l.length = (atT x.k l).length + (l.filter (fun y => !(y.k == x.k))).length := fun l => by
          have := List.length_eq_countP_add_countP (fun y : Po tp => y.k == x.k) (l := l)
          rw [List.countP_eq_length_filter, List.countP_eq_length_filter] at this
          unfold atT
          have e : (fun y : Po tp => !(y.k == x.k)) = fun a => decide ¬ (a.k == x.k) = true := by funext y; cases (y.k == x.k) <;> rfl
          rw [e]; exact this
        have e2 : EqT ((x :: r).filter (fun y => !(y.k == x.k))) (b.filter (fun y => !(y.k == x.k))) := fun t => by
          have ht := h t
          unfold atT at ht ⊢
          rw [List.filter_filter, List.filter_filter]
          by_cases e : t = x.k
          · subst e
            rw [List.filter_eq_nil_iff.2 (fun y _ => by cases (y.k == x.k) <;> simp), List.filter_eq_nil_iff.2 (fun y _ => by cases (y.k == x.k) <;> simp)]
          · have hp : (fun y : Po tp => y.k == t && !(y.k == x.k)) = fun y : Po tp => y.k == t := by
              funext y
              by_cases hy : y.k = t
              · subst hy; simp [e]
              · simp [hy]
            rw [hp]; exact ht
        have hlt : ((x :: r).filter (fun y => !(y.k == x.k))).length < n := by
          have := hs (x :: r)
          have h1 : 0 < (atT x.k (x :: r)).length := by unfold atT; simp
          omega
        have := ih _ hlt _ _ rfl e2
        rw [hs b, hs (x :: r), this, h x.k]
  exact key _ a b rfl h
theorem AscT.app {a b : List (Po tp)} (ha : AscT a) (hb : AscT b) (h : ∀ x ∈ a, ∀ y ∈ b, x.k ≤ y.k) : AscT (a ++ b) := List.pairwise_append.2 ⟨ha, hb, h⟩
theorem AscT.left {a b : List (Po tp)} (h : AscT (a ++ b)) : AscT a := (List.pairwise_append.1 h).1
theorem AscT.right {a b : List (Po tp)} (h : AscT (a ++ b)) : AscT b := (List.pairwise_append.1 h).2.1
theorem AscT.sep {a b : List (Po tp)} (h : AscT (a ++ b)) : ∀ x ∈ a, ∀ y ∈ b, x.k ≤ y.k := (List.pairwise_append.1 h).2.2
/-- merged: sorted, and those of one place in their order -/
def Mrg (u v r : List (Po tp)) : Prop := AscT r ∧ EqT (u ++ v) r
/-- the heart of it: what the two halves come to -/
theorem Mrg.halves {u1 u2 v1 v2 r1 r2 : List (Po tp)} (hu : AscT (u1 ++ u2)) (hv : AscT (v1 ++ v2)) (h1 : ∀ x ∈ u2, ∀ y ∈ v1, y.k < x.k) (h2 : ∀ x ∈ u1, ∀ y ∈ v2, x.k ≤ y.k) (m1 : Mrg u1 v1 r1) (m2 : Mrg u2 v2 r2) : Mrg (u1 ++ u2) (v1 ++ v2) (r1 ++ r2) := by
  refine ⟨m1.1.app m2.1 fun x hx y hy => ?_, ?_⟩
  · have hx := (m1.2.mem).1 hx
    have hy := (m2.2.mem).1 hy
    rcases List.mem_append.1 hx with a | a <;> rcases List.mem_append.1 hy with b | b
    · exact hu.sep x a y b
    · exact h2 x a y b
    · exact Int.le_of_lt (h1 y b x a)
    · exact hv.sep x a y b
  · have e1 : EqT ((u1 ++ u2) ++ (v1 ++ v2)) ((u1 ++ v1) ++ (u2 ++ v2)) := by
      have : EqT (u2 ++ v1) (v1 ++ u2) := EqT.turn fun x hx y hy => by have := h1 x hx y hy; omega
      have := ((EqT.refl u1).app this).app (EqT.refl v2)
      simpa only [List.append_assoc] using this
    exact e1.trans (m1.2.app m2.2)
theorem Mrg.nil_left {v : List (Po tp)} (h : AscT v) : Mrg [] v v := ⟨h, EqT.refl _⟩
theorem Mrg.nil_right {u : List (Po tp)} (h : AscT u) : Mrg u [] u := ⟨h, by rw [List.append_nil]; exact EqT.refl _⟩
/-- one sample ahead of a sorted row -/
theorem Mrg.one_left {x : Po tp} {v1 v2 : List (Po tp)} (hv : AscT (v1 ++ v2)) (h1 : ∀ y ∈ v1, y.k < x.k) (h2 : ∀ y ∈ v2, x.k ≤ y.k) : Mrg [x] (v1 ++ v2) (v1 ++ x :: v2) := by
  have := Mrg.halves (u1 := []) (u2 := [x]) (v1 := v1) (v2 := v2) (r1 := v1) (r2 := x :: v2) (by simp [AscT]) hv (by simpa using h1) (by simp) (Mrg.nil_left hv.left) ⟨List.pairwise_cons.2 ⟨h2, hv.right⟩, EqT.refl _⟩
  exact this
theorem Mrg.one_right {y : Po tp} {u1 u2 : List (Po tp)} (hu : AscT (u1 ++ u2)) (h1 : ∀ x ∈ u1, x.k ≤ y.k) (h2 : ∀ x ∈ u2, y.k < x.k) : Mrg (u1 ++ u2) [y] (u1 ++ y :: u2) := by
  have := Mrg.halves (u1 := u1) (u2 := u2) (v1 := [y]) (v2 := []) (r1 := u1 ++ [y]) (r2 := u2) hu (by simp [AscT]) (by simpa using h2) (by simp) ⟨hu.left.app (by simp [AscT]) (by simpa using h1), EqT.refl _⟩ (Mrg.nil_right hu.right)
  simpa using this
/-- sorted by time, stably: there is one such row alone -/
theorem asc_unique : ∀ {a b : List (Po tp)}, AscT a → AscT b → EqT a b → a = b
  | [], b, _, _, h => by
    cases b with
    | nil => rfl
    | cons y r => exact absurd ((EqT.mem h (x := y)).1 (List.mem_cons_self ..)) (by simp)
  | x :: r, b, ha, hb, h => by
    cases b with
    | nil => exact absurd ((EqT.mem h (x := x)).2 (List.mem_cons_self ..)) (by simp)
    | cons y s =>
      have h1 : x.k ≤ y.k := by
        rcases List.mem_cons.1 ((EqT.mem h (x := y)).1 (List.mem_cons_self ..)) with e | e
        · rw [e]; exact Int.le_refl _
        · exact (List.pairwise_cons.1 ha).1 y e
      have h2 : y.k ≤ x.k := by
        rcases List.mem_cons.1 ((EqT.mem h (x := x)).2 (List.mem_cons_self ..)) with e | e
        · rw [e]; exact Int.le_refl _
        · exact (List.pairwise_cons.1 hb).1 x e
      have e : y.k = x.k := Int.le_antisymm h2 h1
      have hx := h x.k
      unfold atT at hx
      rw [List.filter_cons_of_pos (by simp [e]), List.filter_cons_of_pos (by simp)] at hx
      injection hx with e1 e2
      subst e1
      have : EqT r s := fun t => by
        have ht := h t
        unfold atT at ht ⊢
        by_cases g : y.k = t
        · rw [List.filter_cons_of_pos (by simp [g]), List.filter_cons_of_pos (by simp [g])] at ht
          injection ht
        · rw [List.filter_cons_of_neg (by simp [g]), List.filter_cons_of_neg (by simp [g])] at ht
          exact ht
      rw [asc_unique (List.pairwise_cons.1 ha).2 (List.pairwise_cons.1 hb).2 this]
end Go.Proofs.YtllhkegefinlbaaGreatDoor.Gs
