/- Sets of bytes: four words. -/
import Derived.Test.YtnlfndhgdeapeaaGr
import Derived.Laws.Bits64
import Derived.Laws.Bits64b
namespace Go.Proofs.Ytnlfndhgdeapeaa
open Go.RowKit
set_option maxRecDepth 100000
set_option maxHeartbeats 2000000

/-- a word says which of 64 bytes are in -/
def Wd64 (v : Nat) (p : Nat → Bool) (i : Nat) : Prop := v < 18446744073709551616 ∧ ∀ j, j < 64 → v.testBit j = p (64 * i + j)
theorem pow_lt {j : Nat} (h : j < 64) : 2 ^ j < 18446744073709551616 := by
  have : 2 ^ j < 2 ^ 64 := Nat.pow_lt_pow_right (by omega) h
  omega
theorem wrap_pow {j : Nat} (h : j < 64) : IntKind.u64.wrap ((2 : Int) ^ j) = ((2 ^ j : Nat) : Int) := by
  have h1 := pow_lt h
  rw [IntKind.wrap_u64, show ((2 : Int) ^ j) = ((2 ^ j : Nat) : Int) by simp]
  generalize 2 ^ j = n at *
  omega
theorem and_two (v j : Nat) : v &&& 2 ^ j = if v.testBit j then 2 ^ j else 0 := by
  refine Nat.eq_of_testBit_eq fun k => ?_
  rw [Nat.testBit_and, Nat.testBit_two_pow]
  by_cases e : j = k
  · subst e
    cases h : v.testBit j <;> simp
  · cases h : v.testBit j <;> simp [e]
theorem and_pow {v j : Nat} (hv : v < 18446744073709551616) (h : j < 64) : (bits BinOp.and IntKind.u64 (v : Int) (IntKind.u64.wrap ((2 : Int) ^ j)) != 0) = v.testBit j := by
  rw [wrap_pow h, bits_and_u64_nat v _ hv (pow_lt h), and_two]
  have h0 : 2 ^ j ≠ 0 := Nat.ne_of_gt (Nat.two_pow_pos j)
  generalize 2 ^ j = n at *
  cases v.testBit j
  · rfl
  · simp; omega
theorem or_pow {v j : Nat} (hv : v < 18446744073709551616) (h : j < 64) : bits BinOp.or IntKind.u64 (v : Int) (IntKind.u64.wrap ((2 : Int) ^ j)) = ((v ||| 2 ^ j : Nat) : Int) := by
  rw [wrap_pow h, bits_or_u64_nat v _ hv (pow_lt h)]
theorem Wd64.add {v : Nat} {p : Nat → Bool} {i j : Nat} (h : Wd64 v p i) (hj : j < 64) : Wd64 (v ||| 2 ^ j) (fun x => p x || decide (x = 64 * i + j)) i := by
  refine ⟨Nat.or_lt_two_pow (n := 64) h.1 (pow_lt hj), fun k hk => ?_⟩
  rw [Nat.testBit_or, h.2 k hk, Nat.testBit_two_pow]
  congr 1
  rw [decide_eq_decide]; omega
theorem Wd64.other {v : Nat} {p : Nat → Bool} {i c : Nat} (h : Wd64 v p i) (hc : c / 64 ≠ i) : Wd64 v (fun x => p x || decide (x = c)) i := by
  refine ⟨h.1, fun k hk => ?_⟩
  rw [h.2 k hk]
  have : decide (64 * i + k = c) = false := by simp; intro e; omega
  simp only [this, Bool.or_false]
def inR (c d x : Nat) : Bool := decide (c ≤ x ∧ x ≤ d)
def BsAt (W : World) (b o : Nat) (p : Nat → Bool) : Prop := ∀ i, i < 4 → ∃ v : Nat, W.cell? ⟨b, o + i, none⟩ = some (.int .u64 v) ∧ W.frozen? ⟨b, o + i, none⟩ = false ∧ Wd64 v p i
theorem has_any (b o : Nat) (p : Nat → Bool) (c : Nat) (w : World) (h : BsAt w b o p) (hc : c < 256) :
    Calls Try.prog 29 #[.pointer (some ⟨b, o, none⟩), .int .u8 c] w fun e w' => e = .returned (.bool (p c)) ∧ w = w' := by
  obtain ⟨v, hv, -, hw, hb⟩ := h (c / 64) (by omega)
  have hb2 := hb (c % 64) (by omega)
  rw [show 64 * (c / 64) + c % 64 = c by omega] at hb2
  have hi : (c : Int) / 64 = ((c / 64 : Nat) : Int) := by omega
  have hj : (c : Int) % 64 = ((c % 64 : Nat) : Int) := by omega
  have hi4 : c / 64 < 4 := by omega
  have hj6 : c % 64 < 64 := by omega
  obtain ⟨i, hI⟩ : ∃ i, c / 64 = i := ⟨_, rfl⟩
  obtain ⟨j, hJ⟩ : ∃ j, c % 64 = j := ⟨_, rfl⟩
  rw [hI] at hi hi4 hv
  rw [hJ] at hj hj6 hb2
  clear hI hJ hb h
  go_enter Try.func29, Try.ntmps29
  go_wp2
  go_ret
  exact ⟨by rw [← hb2, ← and_pow hw hj6]; rfl, rfl⟩
/-- the other cells of the block stay -/
def KeepsB (W W' : World) (b o : Nat) : Prop := ∀ j, j < o ∨ o + 4 ≤ j → W'.cell? ⟨b, j, none⟩ = W.cell? ⟨b, j, none⟩ ∧ W'.frozen? ⟨b, j, none⟩ = W.frozen? ⟨b, j, none⟩
theorem KeepsB.refl (W : World) (b o : Nat) : KeepsB W W b o := fun _ _ => ⟨rfl, rfl⟩
theorem KeepsB.set {W W' : World} {b o : Nat} (h : KeepsB W W' b o) {i : Nat} (hi : i < 4) (u : Value) : KeepsB W (W'.setCell ⟨b, o + i, none⟩ u) b o := fun j hj =>
  ⟨(World.cell?_setCell_other _ _ _ _ (by simp <;> omega)).trans (h j hj).1, (by rw [World.frozen?_setCell]; exact (h j hj).2)⟩
theorem BsAt.set {W : World} {b o : Nat} {p : Nat → Bool} (h : BsAt W b o p) {c v : Nat} (hv : W.cell? ⟨b, o + c / 64, none⟩ = some (.int .u64 v)) :
    BsAt (W.setCell ⟨b, o + c / 64, none⟩ (.int .u64 ((v ||| 2 ^ (c % 64) : Nat) : Int))) b o (fun x => p x || decide (x = c)) := fun i hi => by
  obtain ⟨v', hv', hf', hw'⟩ := h i hi
  by_cases e : c / 64 = i
  · subst e
    rw [hv] at hv'
    have : v = v' := by simp at hv'; omega
    subst this
    refine ⟨_, World.cell?_setCell_same _ _ _ hv, by rw [World.frozen?_setCell]; exact hf', ?_⟩
    have := hw'.add (j := c % 64) (by omega)
    rwa [show 64 * (c / 64) + c % 64 = c by omega] at this
  · exact ⟨v', (World.cell?_setCell_other _ _ _ _ (by simp <;> omega)).trans hv', by rw [World.frozen?_setCell]; exact hf', hw'.other e⟩
theorem BsAt.congr {W : World} {b o : Nat} {p q : Nat → Bool} (h : BsAt W b o p) (e : ∀ x, x < 256 → p x = q x) : BsAt W b o q := fun i hi => by
  obtain ⟨v, h1, h2, h3, h4⟩ := h i hi
  exact ⟨v, h1, h2, h3, fun j hj => by rw [h4 j hj, e _ (by omega)]⟩
theorem add_any (b o : Nat) (p : Nat → Bool) (c d : Nat) (w : World) (h : BsAt w b o p) (hc : c < 256) (hd : d < 256) :
    Calls Try.prog 71 #[.pointer (some ⟨b, o, none⟩), .int .u8 c, .int .u8 d] w fun e w' => e = .returned (.tuple #[]) ∧ BsAt w' b o (fun x => p x || inR c d x) ∧ Only w w' b ∧ KeepsB w w' b o := by
  have HB := Lib.hid h
  clear h
  go_enter Try.func71, Try.ntmps71
  go_wp2
  go_loopw [6] (fun v wr => ∃ k : Nat, c ≤ k ∧ k ≤ 256 ∧ v = .int .i64 k ∧ Hid (BsAt wr b o (fun x => p x || decide (c ≤ x ∧ x < k ∧ x ≤ d))) ∧ Hid (Only w wr b) ∧ Hid (KeepsB w wr b o)) (fun v _ => 256 - (intOf v).toNat)
  case atStart => exact ⟨c, Nat.le_refl _, by omega, rfl, HB.out.congr (fun x _ => by have : decide (c ≤ x ∧ x < c ∧ x ≤ d) = false := by simp; omega
                                                                                      rw [this, Bool.or_false]), Only.refl _ _, KeepsB.refl _ _ _⟩
  case round =>
    obtain ⟨k, hck, hk, rfl, HB1, HO, HK⟩ := hrel
    by_cases hkd : k ≤ d
    · have h1 : (k : Int) ≤ (d : Int) := by omega
      obtain ⟨v, hv, hf, hw⟩ := HB1.out (k / 64) (by omega)
      have HS := Lib.hid (HB1.out.set (c := k) hv)
      have hor := or_pow (v := v) (j := k % 64) hw.1 (by omega)
      have hi : (k : Int) / 64 = ((k / 64 : Nat) : Int) := by omega
      have hj : (k : Int) % 64 = ((k % 64 : Nat) : Int) := by omega
      have hi4 : k / 64 < 4 := by omega
      have hj6 : k % 64 < 64 := by omega
      have hj7 : ((k : Int) % 64).toNat = k % 64 := by omega
      have hj8 : (0 : Int) ≤ (k : Int) % 64 := by omega
      have HI := Lib.hid hi4
      go_wp2_with fail
      have mixed : Try.prog.follows Departure.mixedOrders = true := by kernel_rfl
      obtain ⟨q, hq⟩ : ∃ q, k / 64 = q := ⟨_, rfl⟩
      obtain ⟨t, ht⟩ : ∃ t, k % 64 = t := ⟨_, rfl⟩
      have HQ := Lib.hid hq; have HT := Lib.hid ht
      rw [hq] at hv hf hi hi4
      rw [ht] at hor hj hj6 hj7
      clear hq ht
      go_region
      have HS2 : Hid (BsAt (wr.setCell ⟨b, o + q, none⟩ (.int .u64 ((v ||| 2 ^ t : Nat) : Int))) b o (fun x => p x || decide (c ≤ x ∧ x < k + 1 ∧ x ≤ d))) := Lib.hid (by
        have h := HS.out
        rw [HQ.out, HT.out] at h
        refine h.congr fun x _ => ?_
        rw [Bool.or_assoc]
        congr 1
        rw [← Bool.decide_or, decide_eq_decide]
        omega)
      go_wp2
      go_roundw
      case rel => exact ⟨k + 1, by omega, by omega, by go_num, HS2, Lib.hid ((HO.out.setCell (by rfl) _).gr (Gr.refl _).drew), Lib.hid (HK.out.set hi4 _)⟩
      case measure => simp [intOf]; omega
    · have HE : Hid (BsAt wr b o (fun x => p x || inR c d x)) := Lib.hid (HB1.out.congr fun x _ => by congr 1; unfold inR; rw [decide_eq_decide]; omega)
      have h1 : ¬ (k : Int) ≤ (d : Int) := by omega
      go_wp2
      go_end0
      exact ⟨rfl, HE.out, HO.out, HK.out⟩
end Go.Proofs.Ytnlfndhgdeapeaa
