/- set: the bytes between brackets. -/
import Derived.Test.YtikaamonmaohjaaGreatDoorProg
import Derived.WalkKit
import Derived.WalkLawsBesides
import Derived.Handy
import Derived.Lib.Hide
import Derived.IntWalk
import Derived.Outline
import Derived.Deep.DeepMust
import Derived.Deep.RegionWith
import Derived.Below
import Derived.Deep.Draws
import Derived.Deep.QuietTactic
import Derived.BigQuiet
import Derived.Laws.OwnMore
import Derived.Laws.AppendOwn
import Derived.Laws.Bits64
import Derived.Laws.Bits64b
import GoSem.Op.String
import Derived.Lib.Strings
import Derived.Lib.IndexLaws
import Derived.Test.YtikaamonmaohjaaGreatDoorShelf
import Derived.Deep.RegionHeld3
import Derived.Deep.RegionLaw
import Derived.Deep.AppendLies
import Derived.Deep.DrawnRows
import Derived.Maps.AppendAt
import Derived.OwnWalk
import Derived.Lib.AppendStr
import Derived.Lib.AppendIntMem
import Derived.Lib.OthersKept
import Derived.Laws.IdiomStrings
import Derived.Deep.LoopGhost
namespace Go.Proofs.YtikaamonmaohjaaGreatDoor
open Go.RowKit
set_option maxRecDepth 100000

theorem below_drewN {B : Nat} {a w : World} (h : Below B a w) (n : Nat) : Below B a (w.drewN n) := ⟨h.os, h.tape, h.output, h.size, h.block⟩
/-- nothing that was there has changed -/
structure Gr (w w' : World) : Prop where
  b : Below w.heap.size w w'
theorem Gr.refl (w : World) : Gr w w := ⟨Below.refl _ _⟩
theorem Gr.alloc {w w' : World} (h : Gr w w') (c : Array Value) (t : TypeId) : Gr w (w'.alloc (.cells c t)) := ⟨h.b.alloc h.b.size _⟩
theorem Gr.setCell {w w' : World} (h : Gr w w') {a : Addr} (ha : w.heap.size ≤ a.block) (v : Value) : Gr w (w'.setCell a v) := ⟨h.b.setCell ha v⟩
theorem Gr.drewN {w w' : World} (h : Gr w w') (n : Nat) : Gr w (w'.drewN n) := ⟨below_drewN h.b n⟩
theorem Gr.drew {w w' : World} (h : Gr w w') : Gr w w'.drew := ⟨⟨h.b.os, h.b.tape, h.b.output, h.b.size, h.b.block⟩⟩
theorem Gr.trans {a b c : World} (h : Gr a b) (g : Gr b c) : Gr a c := ⟨h.b.trans (g.b.mono h.b.size)⟩
theorem Gr.cell {w w' : World} (g : Gr w w') {b o : Nat} {v : Value} (h : w.cell? ⟨b, o, none⟩ = some v) : w'.cell? ⟨b, o, none⟩ = some v :=
  (g.b.cell (p := ⟨b, o, none⟩) (World.block_lt_of_cell? w _ h)).trans h
theorem Gr.size {w w' : World} (g : Gr w w') : w.heap.size ≤ w'.heap.size := g.b.size
/-- of what was there block b alone may have changed -/
abbrev Only (w w' : World) (b : Nat) : Prop := w.grownBy w' (some b)
theorem Only.refl (w : World) (b : Nat) : Only w w b := ⟨rfl, rfl, rfl, Nat.le_refl _, fun _ _ _ => rfl⟩
theorem Only.trans {a w w' : World} {b : Nat} (h : Only a w b) (g : Only w w' b) : Only a w' b :=
  ⟨g.os.trans h.os, g.tape.trans h.tape, g.output.trans h.output, Nat.le_trans h.size g.size, fun i hi hne => (g.block i (Nat.lt_of_lt_of_le hi h.size) hne).trans (h.block i hi hne)⟩
theorem Only.setCell {a w : World} {b : Nat} (h : Only a w b) {p : Addr} (hp : p.block = b) (u : Value) : Only a (w.setCell p u) b :=
  ⟨h.os, h.tape, h.output, by simpa [World.setCell] using h.size, fun i hi hne => (Below.heap_setCell w p u i (by
    rintro rfl
    exact hne (by rw [hp]))).trans (h.block i hi hne)⟩
theorem Only.gr {a w w' : World} {b : Nat} (h : Only a w b) (g : Gr w w') : Only a w' b :=
  ⟨g.b.os.trans h.os, g.b.tape.trans h.tape, g.b.output.trans h.output, Nat.le_trans h.size g.b.size, fun i hi hne => (g.b.block i (Nat.lt_of_lt_of_le hi h.size)).trans (h.block i hi hne)⟩
theorem Only.drewN {a w : World} {b : Nat} (h : Only a w b) (n : Nat) : Only a (w.drewN n) b := ⟨h.os, h.tape, h.output, h.size, h.block⟩
theorem Gr.only {w w1 w2 : World} {b : Nat} (h : Gr w w1) (g : Only w1 w2 b) (hb : w.heap.size ≤ b) : Gr w w2 := ⟨h.b.grown g h.b.size (fun k hk => by cases hk; exact hb)⟩
theorem quiet_left {P : Program} {f : FuncId} {args : Array Value} {w : World} {n : Nat} {v : Value}
    (h : Calls P f args (w.drewN n) fun e w' => e = .returned v ∧ w.drewN n = w') : Calls P f args (w.drewN n) fun e w'' => e = .returned v ∧ ∃ m, w'' = w.drewN m :=
  h.mono fun _ _ ⟨he, hm⟩ => ⟨he, n, hm.symm⟩

/-! the reader: its text, its place -/
def Rd (W : World) (b : Nat) (s : ByteArray) (k : Nat) : Prop := W.heap[b]? = some (.cells #[.string s, .int .i64 k] 145 (0, 0))
theorem Rd.lt {W : World} {b : Nat} {s : ByteArray} {k : Nat} (h : Rd W b s k) : b < W.heap.size := by
  rcases Nat.lt_or_ge b W.heap.size with e | e
  · exact e
  · unfold Rd at h; rw [Array.getElem?_eq_none e] at h; cases h
theorem Rd.facts {W : World} {b : Nat} {s : ByteArray} {k : Nat} (h : Rd W b s k) : W.cell? ⟨b, 0, none⟩ = some (.string s) ∧ W.cell? ⟨b, 1, none⟩ = some (.int .i64 k) ∧ W.frozen? ⟨b, 0, none⟩ = false ∧ W.frozen? ⟨b, 1, none⟩ = false :=
  ⟨cell_of_row W b 0 _ _ (0, 0) h, cell_of_row W b 1 _ _ (0, 0) h, frozen_of_row W b 0 _ _ h, frozen_of_row W b 1 _ _ h⟩
theorem Rd.gr {W W' : World} {b : Nat} {s : ByteArray} {k : Nat} (h : Rd W b s k) (g : Gr W W') : Rd W' b s k := (g.b.block b h.lt).trans h
theorem Rd.set {W : World} {b : Nat} {s : ByteArray} {k : Nat} (h : Rd W b s k) (j : Nat) : Rd (W.setCell ⟨b, 1, none⟩ (.int .i64 j)) b s j := by
  have := heap_setCell_same W b 1 _ _ (.int .i64 j) h
  unfold Rd
  simpa using this
theorem Rd.drewN {W : World} {b : Nat} {s : ByteArray} {k : Nat} (h : Rd W b s k) (n : Nat) : Rd (W.drewN n) b s k := h
theorem Rd.drew {W : World} {b : Nat} {s : ByteArray} {k : Nat} (h : Rd W b s k) : Rd W.drew b s k := h
end Go.Proofs.YtikaamonmaohjaaGreatDoor
namespace Go.Proofs.YtikaamonmaohjaaGreatDoor
open Go.RowKit
set_option maxRecDepth 100000
set_option maxHeartbeats 2000000

/-- a word says which of 64 bytes are in -/
def Wd64 (v : Nat) (p : Nat → Bool) (i : Nat) : Prop := v < 18446744073709551616 ∧ ∀ j, j < 64 → v.testBit j = p (64 * i + j)
theorem pow_lt {j : Nat} (h : j < 64) : 2 ^ j < 18446744073709551616 := by
  have : 2 ^ j < 2 ^ 64 := Nat.pow_lt_pow_right (by omega) h
  omega
theorem wrap_pow {j : Nat} (h : j < 64) : IntKind.u64.wrap ((2 : Int) ^ j) = ((2 ^ j : Nat) : Int) := by
  have h1 := pow_lt h
  rw [IntKind.wrap_u64, show ((2 : Int) ^ j) = ((2 ^ j : Nat) : Int) by simp]
  generalize 2 ^ j = n at *
  omega
theorem and_two (v j : Nat) : v &&& 2 ^ j = if v.testBit j then 2 ^ j else 0 := by
  refine Nat.eq_of_testBit_eq fun k => ?_
  rw [Nat.testBit_and, Nat.testBit_two_pow]
  by_cases e : j = k
  · subst e
    cases h : v.testBit j <;> simp
  · cases h : v.testBit j <;> simp [e]
theorem and_pow {v j : Nat} (hv : v < 18446744073709551616) (h : j < 64) : (bits BinOp.and IntKind.u64 (v : Int) (IntKind.u64.wrap ((2 : Int) ^ j)) != 0) = v.testBit j := by
  rw [wrap_pow h, bits_and_u64_nat v _ hv (pow_lt h), and_two]
  have h0 : 2 ^ j ≠ 0 := Nat.ne_of_gt (Nat.two_pow_pos j)
  generalize 2 ^ j = n at *
  cases v.testBit j
  · rfl
  · simp; omega
theorem or_pow {v j : Nat} (hv : v < 18446744073709551616) (h : j < 64) : bits BinOp.or IntKind.u64 (v : Int) (IntKind.u64.wrap ((2 : Int) ^ j)) = ((v ||| 2 ^ j : Nat) : Int) := by
  rw [wrap_pow h, bits_or_u64_nat v _ hv (pow_lt h)]
theorem Wd64.add {v : Nat} {p : Nat → Bool} {i j : Nat} (h : Wd64 v p i) (hj : j < 64) : Wd64 (v ||| 2 ^ j) (fun x => p x || decide (x = 64 * i + j)) i := by
  refine ⟨Nat.or_lt_two_pow (n := 64) h.1 (pow_lt hj), fun k hk => ?_⟩
  rw [Nat.testBit_or, h.2 k hk, Nat.testBit_two_pow]
  congr 1
  rw [decide_eq_decide]; omega
theorem Wd64.other {v : Nat} {p : Nat → Bool} {i c : Nat} (h : Wd64 v p i) (hc : c / 64 ≠ i) : Wd64 v (fun x => p x || decide (x = c)) i := by
  refine ⟨h.1, fun k hk => ?_⟩
  rw [h.2 k hk]
  have : decide (64 * i + k = c) = false := by simp; intro e; omega
  simp only [this, Bool.or_false]
def inR (c d x : Nat) : Bool := decide (c ≤ x ∧ x ≤ d)
def BsAt (W : World) (b o : Nat) (p : Nat → Bool) : Prop := ∀ i, i < 4 → ∃ v : Nat, W.cell? ⟨b, o + i, none⟩ = some (.int .u64 v) ∧ W.frozen? ⟨b, o + i, none⟩ = false ∧ Wd64 v p i
/-- the other cells of the block stay -/
def KeepsB (W W' : World) (b o : Nat) : Prop := ∀ j, j < o ∨ o + 4 ≤ j → W'.cell? ⟨b, j, none⟩ = W.cell? ⟨b, j, none⟩ ∧ W'.frozen? ⟨b, j, none⟩ = W.frozen? ⟨b, j, none⟩
theorem KeepsB.refl (W : World) (b o : Nat) : KeepsB W W b o := fun _ _ => ⟨rfl, rfl⟩
theorem KeepsB.set {W W' : World} {b o : Nat} (h : KeepsB W W' b o) {i : Nat} (hi : i < 4) (u : Value) : KeepsB W (W'.setCell ⟨b, o + i, none⟩ u) b o := fun j hj =>
  ⟨(World.cell?_setCell_other _ _ _ _ (by simp <;> omega)).trans (h j hj).1, (by rw [World.frozen?_setCell]; exact (h j hj).2)⟩
theorem BsAt.set {W : World} {b o : Nat} {p : Nat → Bool} (h : BsAt W b o p) {c v : Nat} (hv : W.cell? ⟨b, o + c / 64, none⟩ = some (.int .u64 v)) :
    BsAt (W.setCell ⟨b, o + c / 64, none⟩ (.int .u64 ((v ||| 2 ^ (c % 64) : Nat) : Int))) b o (fun x => p x || decide (x = c)) := fun i hi => by
  obtain ⟨v', hv', hf', hw'⟩ := h i hi
  by_cases e : c / 64 = i
  · subst e
    rw [hv] at hv'
    have : v = v' := by simp at hv'; omega
    subst this
    refine ⟨_, World.cell?_setCell_same _ _ _ hv, by rw [World.frozen?_setCell]; exact hf', ?_⟩
    have := hw'.add (j := c % 64) (by omega)
    rwa [show 64 * (c / 64) + c % 64 = c by omega] at this
  · exact ⟨v', (World.cell?_setCell_other _ _ _ _ (by simp <;> omega)).trans hv', by rw [World.frozen?_setCell]; exact hf', hw'.other e⟩
theorem BsAt.congr {W : World} {b o : Nat} {p q : Nat → Bool} (h : BsAt W b o p) (e : ∀ x, x < 256 → p x = q x) : BsAt W b o q := fun i hi => by
  obtain ⟨v, h1, h2, h3, h4⟩ := h i hi
  exact ⟨v, h1, h2, h3, fun j hj => by rw [h4 j hj, e _ (by omega)]⟩
theorem add_any (b o : Nat) (p : Nat → Bool) (c d : Nat) (w : World) (h : BsAt w b o p) (hc : c < 256) (hd : d < 256) :
    Calls Tryz.prog 189 #[.pointer (some ⟨b, o, none⟩), .int .u8 c, .int .u8 d] w fun e w' => e = .returned (.tuple #[]) ∧ BsAt w' b o (fun x => p x || inR c d x) ∧ Only w w' b ∧ KeepsB w w' b o := by
  have HB := Lib.hid h
  clear h
  go_enter Tryz.func189, Tryz.ntmps189
  go_wp2
  go_loopw [6] (fun v wr => ∃ k : Nat, c ≤ k ∧ k ≤ 256 ∧ v = .int .i64 k ∧ Hid (BsAt wr b o (fun x => p x || decide (c ≤ x ∧ x < k ∧ x ≤ d))) ∧ Hid (Only w wr b) ∧ Hid (KeepsB w wr b o)) (fun v _ => 256 - (intOf v).toNat)
  case atStart => exact ⟨c, Nat.le_refl _, by omega, rfl, HB.out.congr (fun x _ => by have : decide (c ≤ x ∧ x < c ∧ x ≤ d) = false := by simp; omega
                                                                                      rw [this, Bool.or_false]), Only.refl _ _, KeepsB.refl _ _ _⟩
  case round =>
    obtain ⟨k, hck, hk, rfl, HB1, HO, HK⟩ := hrel
    by_cases hkd : k ≤ d
    · have h1 : (k : Int) ≤ (d : Int) := by omega
      obtain ⟨v, hv, hf, hw⟩ := HB1.out (k / 64) (by omega)
      have HS := Lib.hid (HB1.out.set (c := k) hv)
      have hor := or_pow (v := v) (j := k % 64) hw.1 (by omega)
      have hi : (k : Int) / 64 = ((k / 64 : Nat) : Int) := by omega
      have hj : (k : Int) % 64 = ((k % 64 : Nat) : Int) := by omega
      have hi4 : k / 64 < 4 := by omega
      have hj6 : k % 64 < 64 := by omega
      have hj7 : ((k : Int) % 64).toNat = k % 64 := by omega
      have hj8 : (0 : Int) ≤ (k : Int) % 64 := by omega
      have HI := Lib.hid hi4
      go_wp2_with fail
      have mixed : Tryz.prog.follows Departure.mixedOrders = true := by kernel_rfl
      obtain ⟨q, hq⟩ : ∃ q, k / 64 = q := ⟨_, rfl⟩
      obtain ⟨t, ht⟩ : ∃ t, k % 64 = t := ⟨_, rfl⟩
      have HQ := Lib.hid hq; have HT := Lib.hid ht
      rw [hq] at hv hf hi hi4
      rw [ht] at hor hj hj6 hj7
      clear hq ht
      go_region
      have HS2 : Hid (BsAt (wr.setCell ⟨b, o + q, none⟩ (.int .u64 ((v ||| 2 ^ t : Nat) : Int))) b o (fun x => p x || decide (c ≤ x ∧ x < k + 1 ∧ x ≤ d))) := Lib.hid (by
        have h := HS.out
        rw [HQ.out, HT.out] at h
        refine h.congr fun x _ => ?_
        rw [Bool.or_assoc]
        congr 1
        rw [← Bool.decide_or, decide_eq_decide]
        omega)
      go_wp2
      go_roundw
      case rel => exact ⟨k + 1, by omega, by omega, by go_num, HS2, Lib.hid ((HO.out.setCell (by rfl) _).gr (Gr.refl _).drew), Lib.hid (HK.out.set hi4 _)⟩
      case measure => simp [intOf]; omega
    · have HE : Hid (BsAt wr b o (fun x => p x || inR c d x)) := Lib.hid (HB1.out.congr fun x _ => by congr 1; unfold inR; rw [decide_eq_decide]; omega)
      have h1 : ¬ (k : Int) ≤ (d : Int) := by omega
      go_wp2
      go_end0
      exact ⟨rfl, HE.out, HO.out, HK.out⟩
end Go.Proofs.YtikaamonmaohjaaGreatDoor
namespace Go.Proofs.YtikaamonmaohjaaGreatDoor

def amongB (s : List UInt8) (c : UInt8) : Bool := decide (c ∈ s)
theorem among_index (s : List UInt8) (c : UInt8) : decide (0 ≤ Lib.indexByte s c) = amongB s c := by
  unfold amongB
  rw [decide_eq_decide]
  constructor
  · intro h
    obtain ⟨o, ho⟩ : ∃ o : Nat, Lib.indexByte s c = o := ⟨(Lib.indexByte s c).toNat, by omega⟩
    obtain ⟨h1, -⟩ := Lib.indexByte_some ho
    exact List.mem_of_getElem? h1
  · intro h
    refine Decidable.byContradiction fun hn => ?_
    have h1 : Lib.indexByte s c = -1 := by have := Lib.indexByte_ge s c; omega
    obtain ⟨i, hi, rfl⟩ := List.getElem_of_mem h
    exact Lib.indexByte_none h1 i (List.getElem?_eq_getElem hi)
/-- is c what comes? -/
def isAt (s : List UInt8) (k : Nat) (c : UInt8) : Bool := decide (s[k]? = some c)
/-- one byte that says itself: is there one, which, and the place behind it (or where the reading stops) -/
def letterS (s barred stroked : List UInt8) (k : Nat) : Bool × UInt8 × Nat :=
  let st := isAt s k 92
  let k1 := if st then k + 1 else k
  match s[k1]? with
  | none => (false, 0, k1)
  | some c => if (if st then amongB stroked c else !amongB barred c) then (true, c, k1 + 1) else (false, 0, k1)
theorem letterS_le (s barred stroked : List UInt8) (k : Nat) (h : k ≤ s.length) : (letterS s barred stroked k).2.2 ≤ s.length ∧ k ≤ (letterS s barred stroked k).2.2 := by
  have h1 : isAt s k 92 = true → k < s.length := fun e => by
    have := of_decide_eq_true e
    exact (List.getElem?_eq_some_iff.1 this).1
  unfold letterS
  cases hst : isAt s k 92
  · simp only [Bool.false_eq_true, if_false]
    cases e : s[k]? with
    | none => exact ⟨h, Nat.le_refl _⟩
    | some c =>
      have := (List.getElem?_eq_some_iff.1 e).1
      simp only
      split
      · exact ⟨by show k + 1 ≤ _; omega, by show k ≤ k + 1; omega⟩
      · exact ⟨h, Nat.le_refl _⟩
  · have := h1 hst
    simp only [if_true]
    cases e : s[k + 1]? with
    | none => exact ⟨by show k + 1 ≤ _; omega, by show k ≤ k + 1; omega⟩
    | some c =>
      have := (List.getElem?_eq_some_iff.1 e).1
      simp only
      split
      · exact ⟨by show k + 1 + 1 ≤ _; omega, by show k ≤ k + 1 + 1; omega⟩
      · exact ⟨by show k + 1 ≤ _; omega, by show k ≤ k + 1; omega⟩
end Go.Proofs.YtikaamonmaohjaaGreatDoor
namespace Go.Proofs.YtikaamonmaohjaaGreatDoor
open Go.RowKit
set_option maxRecDepth 100000
set_option maxHeartbeats 2000000

theorem isAmong_any (s : ByteArray) (c : UInt8) (w : World) :
    Calls Tryz.prog 191 #[.string s, .int .u8 c.toNat] w fun e w' => e = .returned (.bool (amongB s.data.toList c)) ∧ w = w' := by
  have CI := Lib.hid (Tryz.strings_IndexByte s (c.toNat : Int) w)
  have H := Lib.hid (among_index s.data.toList c)
  have hc : ((c.toNat : Int)).toNat.toUInt8 = c := by simp
  rw [hc] at CI
  clear hc
  go_enter Tryz.func191, Tryz.ntmps191
  go_wp2_with fail
  refine CI.out.mono ?_
  rintro e w1 ⟨rfl, rfl⟩
  go_wp2
  go_ret
  exact ⟨by rw [← H.out]; rfl, rfl⟩
def TakePost (b : Nat) (s : ByteArray) (k : Nat) (c : UInt8) (w : World) (e : Ending) (w' : World) : Prop :=
  e = .returned (.bool (isAt s.data.toList k c)) ∧ Rd w' b s (if isAt s.data.toList k c then k + 1 else k) ∧ Only w w' b
theorem take_any (b : Nat) (s : ByteArray) (k : Nat) (c : UInt8) (w : World) (h : Rd w b s k) (hk : k ≤ s.size) (hs : s.size ≤ 1000000) :
    Calls Tryz.prog 132 #[.pointer (some ⟨b, 0, none⟩), .int .u8 c.toNat] w (TakePost b s k c w) := by
  obtain ⟨c0, c1, f0, f1⟩ := h.facts
  have HR := Lib.hid h
  clear h
  by_cases hlt : k < s.size
  · have hg : s.data.toList[k]? = some s[k] := by rw [List.getElem?_eq_getElem (by simpa using hlt)]; rfl
    have n1 : ¬ k = s.size := by omega
    have n2 : ((k : Int) == (s.size : Int)) = false := by simp; omega
    have n3 : (k : Int) < (s.size : Int) := by omega
    by_cases e : s[k] = c
    · have H : Hid (isAt s.data.toList k c = true) := Lib.hid (by unfold isAt; rw [hg, e]; simp)
      clear hg
      subst e
      go_enter Tryz.func132, Tryz.ntmps132
      go_wp2_with fail
      go_quiet (fail)
      go_wp2
      go_ret
      exact ⟨by rw [H.out]; rfl, by rw [H.out]; exact (HR.out.drewN _).set (k + 1), ((Only.refl w b).drewN _).setCell (by rfl) _⟩
    · have H : Hid (isAt s.data.toList k c = false) := Lib.hid (by unfold isAt; rw [hg]; simpa using e)
      have e2 : ((s[k].toNat : Int) != (c.toNat : Int)) = true := by simp; intro h; exact e (UInt8.toNat_inj.1 (by omega))
      have e3 : ¬ s[k].toNat = c.toNat := fun h => e (UInt8.toNat_inj.1 h)
      clear hg
      go_enter Tryz.func132, Tryz.ntmps132
      go_wp2_with fail
      go_quiet (fail)
      go_wp2
      go_ret
      exact ⟨by rw [H.out]; rfl, by rw [H.out]; exact HR.out.drewN _, (Only.refl w b).drewN _⟩
  · obtain rfl : k = s.size := by omega
    have H : Hid (isAt s.data.toList s.size c = false) := Lib.hid (by unfold isAt; rw [List.getElem?_eq_none (by simp)]; simp)
    go_enter Tryz.func132, Tryz.ntmps132
    go_wp2_with fail
    go_quiet (fail)
    go_wp2
    go_ret
    exact ⟨by rw [H.out]; rfl, by rw [H.out]; exact HR.out.drewN _, (Only.refl w b).drewN _⟩
end Go.Proofs.YtikaamonmaohjaaGreatDoor
namespace Go.Proofs.YtikaamonmaohjaaGreatDoor
open Go.RowKit
set_option maxRecDepth 100000
set_option maxHeartbeats 2000000

def LetterPost (b : Nat) (s : ByteArray) (r : Bool × UInt8 × Nat) (w : World) (e : Ending) (w' : World) : Prop :=
  e = .returned (.tuple #[.int .u8 r.2.1.toNat, .bool r.1]) ∧ Rd w' b s r.2.2 ∧ Only w w' b
theorem letter_any (b : Nat) (s ba sk : ByteArray) (k : Nat) (w : World) (h : Rd w b s k) (hk : k ≤ s.size) (hs : s.size ≤ 1000000) :
    Calls Tryz.prog 188 #[.pointer (some ⟨b, 0, none⟩), .string ba, .string sk] w (LetterPost b s (letterS s.data.toList ba.data.toList sk.data.toList k) w) := by
  have CT := Lib.hid (take_any b s k 92 w h hk hs)
  have CA := Lib.hid (fun (x : ByteArray) (c : UInt8) W => isAmong_any x c W)
  have hlen : s.data.toList.length = s.size := by simp
  have hle : isAt s.data.toList k 92 = true → k < s.size := fun e => by
    have := (List.getElem?_eq_some_iff.1 (of_decide_eq_true e)).1
    omega
  obtain ⟨st, hst⟩ : ∃ st, isAt s.data.toList k 92 = st := ⟨_, rfl⟩
  obtain ⟨r, hr⟩ : ∃ r, letterS s.data.toList ba.data.toList sk.data.toList k = r := ⟨_, rfl⟩
  rw [hr]
  unfold letterS at hr
  unfold TakePost at CT
  rw [hst] at hr hle CT
  obtain ⟨k1, hk1⟩ : ∃ k1, (if st then k + 1 else k) = k1 := ⟨_, rfl⟩
  simp only [] at hr
  rw [hk1] at hr CT
  have hk1s : k1 ≤ s.size := by
    rw [← hk1]
    cases st
    · exact hk
    · exact hle rfl
  have HR := Lib.hid hr
  clear h hr hle hst hk1
  by_cases hlt : k1 < s.size
  · have hg : s.data.toList[k1]? = some s[k1] := by rw [List.getElem?_eq_getElem (by simpa using hlt)]; rfl
    have n1 : ¬ k1 = s.size := by omega
    have n3 : (k1 : Int) < (s.size : Int) := by omega
    obtain ⟨c, hc⟩ : ∃ c, s[k1] = c := ⟨_, rfl⟩
    rw [hc] at hg
    have HRR : Hid (r = if (if st then amongB sk.data.toList c else !amongB ba.data.toList c) then (true, c, k1 + 1) else (false, 0, k1)) := Lib.hid (by rw [← HR.out, hg])
    clear HR hg
    obtain ⟨a1, ha1⟩ : ∃ a1, amongB sk.data.toList c = a1 := ⟨_, rfl⟩
    obtain ⟨a2, ha2⟩ : ∃ a2, amongB ba.data.toList c = a2 := ⟨_, rfl⟩
    have CS := Lib.hid (fun W => CA.out sk c W)
    have CB := Lib.hid (fun W => CA.out ba c W)
    rw [ha1] at HRR CS
    rw [ha2] at HRR CB
    clear ha1 ha2 CA
    cases st
    · cases a2
      · have H : Hid (r = (true, c, k1 + 1)) := Lib.hid (by rw [HRR.out]; rfl)
        go_enter Tryz.func188, Tryz.ntmps188
        go_wp2_with fail
        refine CT.out.mono ?_
        rintro e w1 ⟨rfl, hr1, ho1⟩
        obtain ⟨c0, c1, f0, f1⟩ := hr1.facts
        have HR1 := Lib.hid hr1
        clear hr1
        go_wp2_with fail
        go_quiet (fail)
        go_wp2_with fail
        go_quiet (fail)
        go_wp2_with (go_at_call 191; refine (CB.out _).mono ?_; rintro e w' ⟨rfl, rfl⟩)
        go_ret2
        exact ⟨by rw [H.out]; rfl, by rw [H.out]; exact (HR1.out.drewN _).set (k1 + 1), (ho1.drewN _).setCell (by rfl) _⟩
      · have H : Hid (r = (false, 0, k1)) := Lib.hid (by rw [HRR.out]; rfl)
        go_enter Tryz.func188, Tryz.ntmps188
        go_wp2_with fail
        refine CT.out.mono ?_
        rintro e w1 ⟨rfl, hr1, ho1⟩
        obtain ⟨c0, c1, f0, f1⟩ := hr1.facts
        have HR1 := Lib.hid hr1
        clear hr1
        go_wp2_with fail
        go_quiet (fail)
        go_wp2_with fail
        go_quiet (fail)
        go_wp2_with (go_at_call 191; refine (CB.out _).mono ?_; rintro e w' ⟨rfl, rfl⟩)
        go_ret2
        exact ⟨by rw [H.out]; rfl, by rw [H.out]; exact HR1.out.drewN _, ho1.drewN _⟩
    · cases a1
      · have H : Hid (r = (false, 0, k1)) := Lib.hid (by rw [HRR.out]; rfl)
        go_enter Tryz.func188, Tryz.ntmps188
        go_wp2_with fail
        refine CT.out.mono ?_
        rintro e w1 ⟨rfl, hr1, ho1⟩
        obtain ⟨c0, c1, f0, f1⟩ := hr1.facts
        have HR1 := Lib.hid hr1
        clear hr1
        go_wp2_with fail
        go_quiet (fail)
        go_wp2_with fail
        go_quiet (fail)
        go_wp2_with (go_at_call 191; refine (CS.out _).mono ?_; rintro e w' ⟨rfl, rfl⟩)
        go_ret2
        exact ⟨by rw [H.out]; rfl, by rw [H.out]; exact HR1.out.drewN _, ho1.drewN _⟩
      · have H : Hid (r = (true, c, k1 + 1)) := Lib.hid (by rw [HRR.out]; rfl)
        go_enter Tryz.func188, Tryz.ntmps188
        go_wp2_with fail
        refine CT.out.mono ?_
        rintro e w1 ⟨rfl, hr1, ho1⟩
        obtain ⟨c0, c1, f0, f1⟩ := hr1.facts
        have HR1 := Lib.hid hr1
        clear hr1
        go_wp2_with fail
        go_quiet (fail)
        go_wp2_with fail
        go_quiet (fail)
        go_wp2_with (go_at_call 191; refine (CS.out _).mono ?_; rintro e w' ⟨rfl, rfl⟩)
        go_ret2
        exact ⟨by rw [H.out]; rfl, by rw [H.out]; exact (HR1.out.drewN _).set (k1 + 1), (ho1.drewN _).setCell (by rfl) _⟩
  · obtain rfl : k1 = s.size := by omega
    have H : Hid (r = (false, 0, s.size)) := Lib.hid (by rw [← HR.out, List.getElem?_eq_none (by simp)])
    clear HR
    cases st
    all_goals
      go_enter Tryz.func188, Tryz.ntmps188
      go_wp2_with fail
      refine CT.out.mono ?_
      rintro e w1 ⟨rfl, hr1, ho1⟩
      obtain ⟨c0, c1, f0, f1⟩ := hr1.facts
      have HR1 := Lib.hid hr1
      clear hr1
      go_wp2_with fail
      go_quiet (fail)
      go_wp2
      go_ret2
      exact ⟨by rw [H.out]; rfl, by rw [H.out]; exact HR1.out.drewN _, ho1.drewN _⟩
end Go.Proofs.YtikaamonmaohjaaGreatDoor
namespace Go.Proofs.YtikaamonmaohjaaGreatDoor
open Go.RowKit
set_option maxRecDepth 100000
set_option maxHeartbeats 4000000

/-- of what was there the blocks b and d alone may have changed -/
structure On2 (w w' : World) (b d : Nat) : Prop where
  os : w'.os = w.os
  tape : w'.tape = w.tape
  output : w'.output = w.output
  size : w.heap.size ≤ w'.heap.size
  block : ∀ i, i < w.heap.size → i ≠ b → i ≠ d → w'.heap[i]? = w.heap[i]?
theorem On2.refl (w : World) (b d : Nat) : On2 w w b d := ⟨rfl, rfl, rfl, Nat.le_refl _, fun _ _ _ _ => rfl⟩
theorem On2.l {a w w' : World} {b d : Nat} (h : On2 a w b d) (g : Only w w' b) : On2 a w' b d :=
  ⟨g.os.trans h.os, g.tape.trans h.tape, g.output.trans h.output, Nat.le_trans h.size g.size, fun i hi h1 h2 => (g.block i (Nat.lt_of_lt_of_le hi h.size) (fun e => h1 (Option.some.inj e))).trans (h.block i hi h1 h2)⟩
theorem On2.r {a w w' : World} {b d : Nat} (h : On2 a w b d) (g : Only w w' d) : On2 a w' b d :=
  ⟨g.os.trans h.os, g.tape.trans h.tape, g.output.trans h.output, Nat.le_trans h.size g.size, fun i hi h1 h2 => (g.block i (Nat.lt_of_lt_of_le hi h.size) (fun e => h2 (Option.some.inj e))).trans (h.block i hi h1 h2)⟩
theorem On2.trans {a w w' : World} {b d : Nat} (h : On2 a w b d) (g : On2 w w' b d) : On2 a w' b d :=
  ⟨g.os.trans h.os, g.tape.trans h.tape, g.output.trans h.output, Nat.le_trans h.size g.size, fun i hi h1 h2 => (g.block i (Nat.lt_of_lt_of_le hi h.size) h1 h2).trans (h.block i hi h1 h2)⟩
theorem On2.drewN {a w : World} {b d : Nat} (h : On2 a w b d) (n : Nat) : On2 a (w.drewN n) b d := ⟨h.os, h.tape, h.output, h.size, h.block⟩
theorem Only.blk {w w' : World} {b i : Nat} (g : Only w w' b) (hi : i < w.heap.size) (h : i ≠ b) : w'.heap[i]? = w.heap[i]? := g.block i hi (fun e => h (Option.some.inj e))
theorem BsAt.lt {W : World} {b o : Nat} {p : Nat → Bool} (h : BsAt W b o p) : b < W.heap.size := by
  obtain ⟨v, hv, -⟩ := h 0 (by omega)
  exact World.block_lt_of_cell? W _ hv
theorem BsAt.only {W W' : World} {b d o : Nat} {p : Nat → Bool} (h : BsAt W d o p) (g : Only W W' b) (hne : d ≠ b) : BsAt W' d o p := fun i hi => by
  obtain ⟨v, h1, h2, h3⟩ := h i hi
  have hb := g.blk h.lt hne
  exact ⟨v, (World.cell?_of_block (a := ⟨d, _, none⟩) hb).trans h1, (World.frozen?_of_block (a := ⟨d, _, none⟩) hb).trans h2, h3⟩
theorem KeepsB.only {w W W' : World} {b d o : Nat} (h : KeepsB w W d o) (g : Only W W' b) (hd : d < W.heap.size) (hne : d ≠ b) : KeepsB w W' d o := fun j hj => by
  have hb := g.blk hd hne
  exact ⟨(World.cell?_of_block (a := ⟨d, j, none⟩) hb).trans (h j hj).1, (World.frozen?_of_block (a := ⟨d, j, none⟩) hb).trans (h j hj).2⟩
theorem KeepsB.trans {w W W' : World} {d o : Nat} (h : KeepsB w W d o) (g : KeepsB W W' d o) : KeepsB w W' d o := fun j hj => ⟨(g j hj).1.trans (h j hj).1, (g j hj).2.trans (h j hj).2⟩
theorem Rd.only {W W' : World} {b d : Nat} {s : ByteArray} {k : Nat} (h : Rd W b s k) (g : Only W W' d) (hne : b ≠ d) : Rd W' b s k := (g.blk h.lt hne).trans h

def sbL : List UInt8 := [93, 92, 45, 94]
def sqL : List UInt8 := [92, 46, 91, 93, 40, 41, 124, 42, 43, 63, 45, 94]
/-- one item: is there one, from, to, and the place behind it (or where the reading stops) -/
def itemS (s : List UInt8) (k : Nat) : Bool × UInt8 × UInt8 × Nat :=
  let r := letterS s sbL sqL k
  if r.1 then
    if isAt s r.2.2 45 then
      let q := letterS s sbL sqL (r.2.2 + 1)
      if q.1 then (if q.2.1.toNat < r.2.1.toNat then (false, 0, 0, r.2.2 + 1) else (true, r.2.1, q.2.1, q.2.2)) else (false, 0, 0, q.2.2)
    else (true, r.2.1, r.2.1, r.2.2)
  else (false, 0, 0, r.2.2)
def ItemPost (b d o : Nat) (s : ByteArray) (p : Nat → Bool) (r : Bool × UInt8 × UInt8 × Nat) (w : World) (e : Ending) (w' : World) : Prop :=
  e = .returned (.bool r.1) ∧ Rd w' b s r.2.2.2 ∧ BsAt w' d o (if r.1 then fun x => p x || inR r.2.1.toNat r.2.2.1.toNat x else p) ∧ On2 w w' b d ∧ KeepsB w w' d o
theorem item_any (b d o k : Nat) (s : ByteArray) (p : Nat → Bool) (w : World) (h : Rd w b s k) (hk : k ≤ s.size) (hs : s.size ≤ 1000000) (hB : BsAt w d o p) (hne : d ≠ b) :
    Calls Tryz.prog 190 #[.pointer (some ⟨b, 0, none⟩), .pointer (some ⟨d, o, none⟩)] w (ItemPost b d o s p (itemS s.data.toList k) w) := by
  have hlen : s.data.toList.length = s.size := by simp
  have CL := Lib.hid (fun (k : Nat) W (h : Rd W b s k) (hk : k ≤ s.size) => letter_any b s ⟨#[93, 92, 45, 94]⟩ ⟨#[92, 46, 91, 93, 40, 41, 124, 42, 43, 63, 45, 94]⟩ k W h hk hs)
  have CT := Lib.hid (fun (k : Nat) W (h : Rd W b s k) (hk : k ≤ s.size) => take_any b s k 45 W h hk hs)
  have CA := Lib.hid (fun (c e : UInt8) W (q : Nat → Bool) (h : BsAt W d o q) => add_any d o q c.toNat e.toNat W h c.toNat_lt e.toNat_lt)
  have C1 := Lib.hid (CL.out k w h hk)
  have hle := letterS_le s.data.toList sbL sqL k (by rw [hlen]; exact hk)
  obtain ⟨R, hR⟩ : ∃ R, itemS s.data.toList k = R := ⟨_, rfl⟩
  rw [hR]
  unfold itemS at hR
  obtain ⟨r, hr⟩ : ∃ r, letterS s.data.toList sbL sqL k = r := ⟨_, rfl⟩
  rw [hr] at hle hR
  rw [hlen] at hle
  have C2 : Hid (Calls Tryz.prog 188 #[.pointer (some ⟨b, 0, none⟩), .string ⟨#[93, 92, 45, 94]⟩, .string ⟨#[92, 46, 91, 93, 40, 41, 124, 42, 43, 63, 45, 94]⟩] w (LetterPost b s r w)) := Lib.hid (by rw [← hr]; exact C1.out)
  have HB := Lib.hid hB
  clear hr C1 hB h
  obtain ⟨ok, c, k1⟩ := r
  simp only at hR hle
  have HR := Lib.hid hR
  clear hR
  cases ok
  · have H : Hid (R = (false, 0, 0, k1)) := Lib.hid (by rw [← HR.out]; rfl)
    go_enter Tryz.func190, Tryz.ntmps190
    go_wp2_with fail
    refine C2.out.mono ?_
    rintro e w1 ⟨rfl, hr1, ho1⟩
    obtain ⟨c0, c1, f0, f1⟩ := hr1.facts
    have HR1 := Lib.hid hr1
    clear hr1
    go_wp2_with fail
    go_quiet (fail)
    go_wp2
    go_ret
    exact ⟨by rw [H.out]; rfl, by rw [H.out]; exact HR1.out.drewN _, by rw [H.out]; exact HB.out.only (ho1.drewN _) hne, ((On2.refl w b d).l ho1).drewN _, (KeepsB.refl w d o).only (ho1.drewN _) HB.out.lt hne⟩
  have HT : Hid (R = if isAt s.data.toList k1 45 then (if (letterS s.data.toList sbL sqL (k1 + 1)).1 then (if (letterS s.data.toList sbL sqL (k1 + 1)).2.1.toNat < c.toNat then (false, 0, 0, k1 + 1) else (true, c, (letterS s.data.toList sbL sqL (k1 + 1)).2.1, (letterS s.data.toList sbL sqL (k1 + 1)).2.2)) else (false, 0, 0, (letterS s.data.toList sbL sqL (k1 + 1)).2.2)) else (true, c, c, k1)) := Lib.hid (by rw [← HR.out]; rfl)
  clear HR
  obtain ⟨tk, htk⟩ : ∃ tk, isAt s.data.toList k1 45 = tk := ⟨_, rfl⟩
  have htl : tk = true → k1 < s.size := fun e => by
    have := (List.getElem?_eq_some_iff.1 (of_decide_eq_true (htk.trans e))).1
    omega
  have CT1 : Hid (∀ W, Rd W b s k1 → Calls Tryz.prog 132 #[.pointer (some ⟨b, 0, none⟩), .int .u8 45] W fun e w' => e = .returned (.bool tk) ∧ Rd w' b s (if tk then k1 + 1 else k1) ∧ Only W w' b) := Lib.hid (by
    rw [← htk]; exact fun W h => CT.out k1 W h hle.1)
  rw [htk] at HT
  clear htk CT
  have hcc : ¬ c.toNat < c.toNat := by omega
  cases tk
  · have H : Hid (R = (true, c, c, k1)) := Lib.hid (by rw [HT.out]; rfl)
    go_enter Tryz.func190, Tryz.ntmps190
    go_wp2_with fail
    refine C2.out.mono ?_
    rintro e w1 ⟨rfl, hr1, ho1⟩
    obtain ⟨c0, c1, f0, f1⟩ := hr1.facts
    have HR1 := Lib.hid hr1
    have HB1 := Lib.hid (HB.out.only ho1 hne)
    have HO1 := Lib.hid ((On2.refl w b d).l ho1)
    have HK1 := Lib.hid ((KeepsB.refl w d o).only ho1 HB.out.lt hne)
    clear hr1 ho1
    go_wp2_with fail
    go_quiet (fail)
    go_wp2_with fail
    refine (CT1.out _ (HR1.out.drewN _)).mono ?_
    rintro e w2 ⟨rfl, hr2, ho2⟩
    have HB2 := Lib.hid (HB1.out.only (W := w1) ((Only.refl w1 b).drewN _ |>.trans ho2) hne)
    have HO2 := Lib.hid ((HO1.out.drewN _).l ho2)
    have HK2 := Lib.hid (HK1.out.only ((Only.refl w1 b).drewN _ |>.trans ho2) HB1.out.lt hne)
    go_wp2_with fail
    refine (CA.out c c _ p HB2.out).mono ?_
    rintro e w3 ⟨rfl, hb3, ho3, hk3⟩
    go_wp2
    go_ret
    exact ⟨by rw [H.out]; rfl, by rw [H.out]; exact hr2.only ho3 (Ne.symm hne), by rw [H.out]; exact hb3, HO2.out.r ho3, HK2.out.trans hk3⟩
  · have hk1 := htl rfl
    have hle2 := letterS_le s.data.toList sbL sqL (k1 + 1) (by rw [hlen]; omega)
    rw [hlen] at hle2
    have C3 := Lib.hid (fun W (h : Rd W b s (k1 + 1)) => CL.out (k1 + 1) W h (by omega))
    obtain ⟨q, hq⟩ : ∃ q, letterS s.data.toList sbL sqL (k1 + 1) = q := ⟨_, rfl⟩
    rw [hq] at HT hle2
    have C4 : Hid (∀ W, Rd W b s (k1 + 1) → Calls Tryz.prog 188 #[.pointer (some ⟨b, 0, none⟩), .string ⟨#[93, 92, 45, 94]⟩, .string ⟨#[92, 46, 91, 93, 40, 41, 124, 42, 43, 63, 45, 94]⟩] W (LetterPost b s q W)) := Lib.hid (by rw [← hq]; exact C3.out)
    clear hq C3 CL
    obtain ⟨ok2, c2, k2⟩ := q
    simp only at HT hle2
    have HT2 : Hid (R = if ok2 then (if c2.toNat < c.toNat then (false, 0, 0, k1 + 1) else (true, c, c2, k2)) else (false, 0, 0, k2)) := Lib.hid (by rw [HT.out]; rfl)
    clear HT
    go_enter Tryz.func190, Tryz.ntmps190
    go_wp2_with fail
    refine C2.out.mono ?_
    rintro e w1 ⟨rfl, hr1, ho1⟩
    obtain ⟨c0, c1, f0, f1⟩ := hr1.facts
    have HR1 := Lib.hid hr1
    have HB1 := Lib.hid (HB.out.only ho1 hne)
    have HO1 := Lib.hid ((On2.refl w b d).l ho1)
    have HK1 := Lib.hid ((KeepsB.refl w d o).only ho1 HB.out.lt hne)
    clear hr1 ho1
    go_wp2_with fail
    go_quiet (fail)
    go_wp2_with fail
    refine (CT1.out _ (HR1.out.drewN _)).mono ?_
    rintro e w2 ⟨rfl, hr2, ho2⟩
    have HB2 := Lib.hid (HB1.out.only (W := w1) ((Only.refl w1 b).drewN _ |>.trans ho2) hne)
    have HO2 := Lib.hid ((HO1.out.drewN _).l ho2)
    have HK2 := Lib.hid (HK1.out.only ((Only.refl w1 b).drewN _ |>.trans ho2) HB1.out.lt hne)
    have HR2 : Hid (Rd w2 b s (k1 + 1)) := Lib.hid hr2
    clear hr2 ho2 c0 c1 f0 f1
    obtain ⟨c0, c1, f0, f1⟩ := HR2.out.facts
    go_wp2_with fail
    refine (C4.out _ HR2.out).mono ?_
    rintro e w3 ⟨rfl, hr3, ho3⟩
    have HB3 := Lib.hid (HB2.out.only ho3 hne)
    have HO3 := Lib.hid (HO2.out.l ho3)
    have HK3 := Lib.hid (HK2.out.only ho3 HB2.out.lt hne)
    have HR3 : Hid (Rd w3 b s k2) := Lib.hid hr3
    clear hr3 ho3 c0 c1 f0 f1
    obtain ⟨c0, c1, f0, f1⟩ := HR3.out.facts
    cases ok2
    · have H : Hid (R = (false, 0, 0, k2)) := Lib.hid (by rw [HT2.out]; rfl)
      go_wp2
      go_ret
      exact ⟨by rw [H.out]; rfl, by rw [H.out]; exact HR3.out, by rw [H.out]; exact HB3.out, HO3.out, HK3.out⟩
    by_cases hlt : c2.toNat < c.toNat
    · have H : Hid (R = (false, 0, 0, k1 + 1)) := Lib.hid (by rw [HT2.out, if_pos rfl, if_pos hlt])
      go_wp2
      go_ret
      exact ⟨by rw [H.out]; rfl, by rw [H.out]; exact HR3.out.set (k1 + 1), by rw [H.out]; exact HB3.out.only ((Only.refl w3 b).setCell (by rfl) _) hne, HO3.out.l ((Only.refl w3 b).setCell (by rfl) _), HK3.out.only ((Only.refl w3 b).setCell (by rfl) _) HB3.out.lt hne⟩
    · have H : Hid (R = (true, c, c2, k2)) := Lib.hid (by rw [HT2.out, if_pos rfl, if_neg hlt])
      go_wp2_with fail
      refine (CA.out c c2 _ p HB3.out).mono ?_
      rintro e w4 ⟨rfl, hb4, ho4, hk4⟩
      go_wp2
      go_ret
      exact ⟨by rw [H.out]; rfl, by rw [H.out]; exact HR3.out.only ho4 (Ne.symm hne), by rw [H.out]; exact hb4, HO3.out.r ho4, HK3.out.trans hk4⟩
end Go.Proofs.YtikaamonmaohjaaGreatDoor
namespace Go.Proofs.YtikaamonmaohjaaGreatDoor
open Go.RowKit
set_option maxRecDepth 100000
set_option maxHeartbeats 2000000

theorem xor_all (v : Nat) (h : v < 18446744073709551616) : bits BinOp.xor IntKind.u64 (if IntKind.u64.signed = true then -1 else IntKind.u64.max) (v : Int) = ((18446744073709551615 ^^^ v : Nat) : Int) := by
  have e : (if IntKind.u64.signed = true then -1 else IntKind.u64.max) = ((18446744073709551615 : Nat) : Int) := by decide
  rw [e, bits_xor_u64_nat _ v (by omega) h]
theorem Wd64.compl {v : Nat} {p : Nat → Bool} {i : Nat} (h : Wd64 v p i) : Wd64 (18446744073709551615 ^^^ v) (fun x => !p x) i := by
  have e : 18446744073709551615 = 2 ^ 64 - 1 := by decide
  refine ⟨Nat.xor_lt_two_pow (n := 64) (by omega) h.1, fun j hj => ?_⟩
  rw [Nat.testBit_xor, h.2 j hj, e, Nat.testBit_two_pow_sub_one, decide_eq_true hj, Bool.true_xor]
theorem Wd64.congr {v : Nat} {p q : Nat → Bool} {i : Nat} (h : Wd64 v p i) (e : ∀ j, j < 64 → p (64 * i + j) = q (64 * i + j)) : Wd64 v q i := ⟨h.1, fun j hj => by rw [h.2 j hj, e j hj]⟩
/-- the first k words are turned -/
def turned (p : Nat → Bool) (k x : Nat) : Bool := if x < 64 * k then !p x else p x
theorem BsAt.turn {W : World} {b k v : Nat} {p : Nat → Bool} (h : BsAt W b 0 (turned p k)) (hv : W.cell? ⟨b, k, none⟩ = some (.int .u64 v)) (hw : Wd64 v (turned p k) k) :
    BsAt (W.setCell ⟨b, k, none⟩ (.int .u64 ((18446744073709551615 ^^^ v : Nat) : Int))) b 0 (turned p (k + 1)) := fun i hi => by
  obtain ⟨v', hv', hf', hw'⟩ := h i hi
  rw [Nat.zero_add] at hv' hf' ⊢
  by_cases e : k = i
  · subst e
    refine ⟨_, World.cell?_setCell_same _ _ _ hv, by rw [World.frozen?_setCell]; exact hf', hw.compl.congr fun j hj => ?_⟩
    unfold turned
    rw [if_neg (by omega), if_pos (by omega)]
  · refine ⟨v', (World.cell?_setCell_other _ _ _ _ (by simp <;> omega)).trans hv', by rw [World.frozen?_setCell]; exact hf', hw'.congr fun j hj => ?_⟩
    unfold turned
    by_cases g : 64 * i + j < 64 * k
    · rw [if_pos g, if_pos (by omega)]
    · rw [if_neg g, if_neg (by omega)]
theorem others_any (v0 v1 v2 v3 : Nat) (p : Nat → Bool) (w : World) (h0 : Wd64 v0 p 0) (h1 : Wd64 v1 p 1) (h2 : Wd64 v2 p 2) (h3 : Wd64 v3 p 3) :
    Calls Tryz.prog 185 #[.agg #[.int .u64 v0, .int .u64 v1, .int .u64 v2, .int .u64 v3]] w fun e w' =>
      (∃ u0 u1 u2 u3 : Nat, e = .returned (.agg #[.int .u64 u0, .int .u64 u1, .int .u64 u2, .int .u64 u3]) ∧ Wd64 u0 (fun x => !p x) 0 ∧ Wd64 u1 (fun x => !p x) 1 ∧ Wd64 u2 (fun x => !p x) 2 ∧ Wd64 u3 (fun x => !p x) 3) ∧ Gr w w' := by
  go_enter Tryz.func185, Tryz.ntmps185
  go_wp2
  go_loopw [4] (fun v wr => ∃ k : Nat, k ≤ 4 ∧ v = .int .i64 k ∧ Hid (BsAt wr w.heap.size 0 (turned p k)) ∧ Hid (∀ i, i < 4 → (wr.cell? ⟨w.heap.size + 1, i, none⟩).isSome = true ∧ wr.frozen? ⟨w.heap.size + 1, i, none⟩ = false) ∧ Gr w wr) (fun v _ => 4 - (intOf v).toNat)
  case atStart =>
    refine ⟨0, by omega, rfl, Lib.hid fun i hi => ?_, Lib.hid fun i hi => ?_, ((Gr.refl w).alloc _ _).alloc _ _⟩
    · have e : ∀ (v j : Nat), Wd64 v p j → Wd64 v (turned p 0) j := fun v j h => h.congr fun x _ => by unfold turned; rw [if_neg (by omega)]
      match i, hi with
      | 0, _ => exact ⟨v0, by go_simp, by go_simp, e _ _ h0⟩
      | 1, _ => exact ⟨v1, by go_simp, by go_simp, e _ _ h1⟩
      | 2, _ => exact ⟨v2, by go_simp, by go_simp, e _ _ h2⟩
      | 3, _ => exact ⟨v3, by go_simp, by go_simp, e _ _ h3⟩
    · match i, hi with
      | 0, _ => exact ⟨by go_simp, by go_simp⟩
      | 1, _ => exact ⟨by go_simp, by go_simp⟩
      | 2, _ => exact ⟨by go_simp, by go_simp⟩
      | 3, _ => exact ⟨by go_simp, by go_simp⟩
  case round =>
    obtain ⟨k, hk, rfl, HB, HR, hg⟩ := hrel
    by_cases hlt : k < 4
    · obtain ⟨v, hv, hf, hw⟩ := HB.out k hlt
      rw [Nat.zero_add] at hv hf
      have n3 : (k : Int) < 4 := by omega
      have hx := xor_all v hw.1
      have HT := Lib.hid (HB.out.turn hv hw)
      have HR2 : Hid (∀ i, i < 4 → ((wr.setCell ⟨w.heap.size, k, none⟩ (.int .u64 ((18446744073709551615 ^^^ v : Nat) : Int))).cell? ⟨w.heap.size + 1, i, none⟩).isSome = true ∧ (wr.setCell ⟨w.heap.size, k, none⟩ (.int .u64 ((18446744073709551615 ^^^ v : Nat) : Int))).frozen? ⟨w.heap.size + 1, i, none⟩ = false) := Lib.hid fun i hi => by
        rw [World.cell?_setCell_other _ _ _ _ (by simp), World.frozen?_setCell]; exact HR.out i hi
      go_wp2
      go_roundw
      case rel => exact ⟨k + 1, by omega, by go_num, HT, HR2, hg.setCell (Nat.le_refl _) _⟩
      case measure => simp [intOf]; omega
    · obtain rfl : k = 4 := by omega
      obtain ⟨u0, c0, -, w0⟩ := HB.out 0 (by omega)
      obtain ⟨u1, c1, -, w1⟩ := HB.out 1 (by omega)
      obtain ⟨u2, c2, -, w2⟩ := HB.out 2 (by omega)
      obtain ⟨u3, c3, -, w3⟩ := HB.out 3 (by omega)
      obtain ⟨x0, e0⟩ := Option.isSome_iff_exists.1 (HR.out 0 (by omega)).1
      obtain ⟨x1, e1⟩ := Option.isSome_iff_exists.1 (HR.out 1 (by omega)).1
      obtain ⟨x2, e2⟩ := Option.isSome_iff_exists.1 (HR.out 2 (by omega)).1
      obtain ⟨x3, e3⟩ := Option.isSome_iff_exists.1 (HR.out 3 (by omega)).1
      have f0 := (HR.out 0 (by omega)).2
      have f1 := (HR.out 1 (by omega)).2
      have f2 := (HR.out 2 (by omega)).2
      have f3 := (HR.out 3 (by omega)).2
      simp only [Nat.zero_add] at c0 c1 c2 c3
      have t : ∀ (u i : Nat), i < 4 → Wd64 u (turned p 4) i → Wd64 u (fun x => !p x) i := fun u i hi h => h.congr fun j hj => by unfold turned; rw [if_pos (by omega)]
      have HW := Lib.hid (show Wd64 u0 (fun x => !p x) 0 ∧ Wd64 u1 (fun x => !p x) 1 ∧ Wd64 u2 (fun x => !p x) 2 ∧ Wd64 u3 (fun x => !p x) 3 from ⟨t _ _ (by omega) w0, t _ _ (by omega) w1, t _ _ (by omega) w2, t _ _ (by omega) w3⟩)
      clear w0 w1 w2 w3 t
      go_wp2
      have hres : Tryz.f185.results = #[.cell 2 147] := by kernel_rfl
      refine bodyPost_ret (v := .agg #[.int .u64 u0, .int .u64 u1, .int .u64 u2, .int .u64 u3]) ?_ rfl ?_
      · simp only [results, hres]
        go_simp
      exact ⟨⟨u0, u1, u2, u3, rfl, HW.out⟩, (((hg.setCell (by simp) _).setCell (by simp) _).setCell (by simp) _).setCell (by simp) _⟩
end Go.Proofs.YtikaamonmaohjaaGreatDoor
namespace Go.Proofs.YtikaamonmaohjaaGreatDoor
open Go.RowKit Go.Sort
set_option maxRecDepth 100000
set_option maxHeartbeats 2000000

/-- a slice of bytes of the call's own that reads as l -/
def OwnB (W : World) (B : Nat) (v : Value) (l : List UInt8) : Prop := W.ownsRow B 5 1 v l.length (Lib.byteCells l)
def BytesAt (W : World) (A : Option Addr) (l : List UInt8) : Prop :=
  0 < l.length → ∃ b o, A = some ⟨b, o, none⟩ ∧ ∀ i c, l[i]? = some c → W.cell? ⟨b, o + i, none⟩ = some (.int .u8 (c.toNat : Int))
def ReadsB (W : World) (v : Value) (l : List UInt8) : Prop := ∃ A c, v = .slice A l.length c ∧ BytesAt W A l
/-- below B, and of all but rows of bytes, nothing has changed -/
structure Bk (B : Nat) (w w' : World) : Prop where
  b : Below B w w'
  o : Lib.OthersKept 5 none w w'
theorem Bk.refl (B : Nat) (w : World) : Bk B w w := ⟨Below.refl _ _, Lib.OthersKept.refl _ _ _⟩
theorem Bk.trans {B : Nat} {a b c : World} (h : Bk B a b) (g : Bk B b c) : Bk B a c := ⟨h.b.trans g.b, h.o.trans g.o⟩
theorem Bk.alloc {B : Nat} {a w : World} (h : Bk B a w) (hB : B ≤ a.heap.size) (c : Array Value) (t : TypeId) : Bk B a (w.alloc (.cells c t)) := ⟨h.b.alloc (Nat.le_trans hB h.b.size) _, h.o.alloc _⟩
theorem Bk.drew {B : Nat} {a w : World} (h : Bk B a w) : Bk B a w.drew := ⟨h.b.drew, h.o.drew⟩
theorem Bk.drewN {B : Nat} {a w : World} (h : Bk B a w) (n : Nat) : Bk B a (w.drewN n) := ⟨below_drewN h.b n, h.o⟩
theorem Bk.gr {w w' : World} (h : Bk w.heap.size w w') : Gr w w' := ⟨h.b⟩
theorem Bk.of_gr {B : Nat} {w w' : World} (h : Gr w w') (hB : B ≤ w.heap.size) : Bk B w w' :=
  ⟨h.b.mono hB, fun k _ hk _ _ => (h.b.block k (Array.getElem?_eq_some_iff.1 hk).1).trans hk⟩
theorem Bk.mono {B B' : Nat} {w w' : World} (h : Bk B w w') (hB : B' ≤ B) : Bk B' w w' := ⟨h.b.mono hB, h.o⟩
theorem OwnB.nil (W : World) (B : Nat) : OwnB W B (.slice none 0 0) [] := World.ownsRow_nil _ _ _ _
theorem OwnB.drew {W : World} {B : Nat} {v : Value} {l : List UInt8} (h : OwnB W B v l) : OwnB W.drew B v l := h
theorem OwnB.drewN {W : World} {B : Nat} {v : Value} {l : List UInt8} (h : OwnB W B v l) (n : Nat) : OwnB (W.drewN n) B v l := h
theorem OwnB.alloc {W : World} {B : Nat} {v : Value} {l : List UInt8} (h : OwnB W B v l) (o : Obj) : OwnB (W.alloc o) B v l := World.ownsRow.alloc h o
theorem OwnB.gr {W W' : World} {B : Nat} {v : Value} {l : List UInt8} (h : OwnB W B v l) (g : Gr W W') : OwnB W' B v l :=
  World.ownsRow.kept h (row := none) ⟨g.b.os, g.b.tape, g.b.output, g.b.size, fun k hk _ => g.b.block k hk⟩ (by cases v.ownBlock <;> simp)
theorem OwnB.mono {W : World} {B B' : Nat} {v : Value} {l : List UInt8} (h : OwnB W B v l) (hB : B' ≤ B) : OwnB W B' v l := by
  refine ⟨h.1, ?_⟩
  rcases h.2 with hn | ⟨g, cap, cur, e, hb, r⟩
  · exact .inl hn
  · exact .inr ⟨g, cap, cur, e, by omega, r⟩
theorem OwnB.lt {W : World} {B : Nat} {v : Value} {l : List UInt8} (h : OwnB W B v l) {k : Nat} (hk : v.ownBlock = some k) : B ≤ k ∧ k < W.heap.size := World.ownsRow.lt h k hk
theorem OwnB.kind {W : World} {B : Nat} {v : Value} {l : List UInt8} (h : OwnB W B v l) : ∀ g, v.ownBlock = some g → ∃ c fz, W.heap[g]? = some (.cells c 5 fz) := by
  intro g hg
  rcases h.2 with ⟨rfl, _⟩ | ⟨g', cap, cur, rfl, _, hgg, _⟩
  · simp [Value.ownBlock] at hg
  · simp [Value.ownBlock] at hg; subst hg; exact ⟨cur, _, hgg⟩
theorem u8_info : (Tryz.prog.info? 5).map (fun i => (i.zero, i.size, i.bytes)) = some (some (.int .u8 0), 1, 1) := by kernel_rfl
theorem bc_app (a b : List UInt8) : Lib.byteCells (a ++ b) = Lib.byteCells a ++ Lib.byteCells b := by simp [Lib.byteCells]
theorem bc_one (l : List UInt8) : ∀ u ∈ Lib.byteCells l, u.oneCell' = true := by
  intro u hu; simp [Lib.byteCells] at hu; obtain ⟨c, -, rfl⟩ := hu; rfl

theorem run_appB {W : World} {B : Nat} {v : Value} {l m : List UInt8} {A : Option Addr} {c : Nat} (h : OwnB W B v l) (hs : BytesAt W A m) (hm0 : 0 < m.length) (hn : l.length + m.length ≤ 1099511627776) (hB : B ≤ W.heap.size) :
    ∃ v' W', (Builtin.append_ #[63, 63] 63 #[v, .slice A m.length c]).run Tryz.prog W = .ok v' W' ∧ OwnB W' B v' (l ++ m) ∧ W.grownBy W' v.ownBlock := by
  obtain ⟨i0, hi, hz0, hz1, hz2⟩ := info_parts u8_info
  obtain ⟨b, o, rfl, hc⟩ := hs hm0
  have hadd : ∀ j, (⟨b, o, none⟩ : Addr).add j = ⟨b, o + j, none⟩ := fun j => by unfold Addr.add; split <;> simp_all
  obtain ⟨v', w', hr, h2, h3, _, _⟩ := run_append_own_at (P := Tryz.prog) W B 63 63 5 i0 (.int .u8 0) 1 1 Tryz.underlying63 hi hz0 hz1 hz2 rfl (by omega) v l.length _ h ⟨b, o, none⟩ m.length c (Lib.byteCells m) (by simp [Lib.byteCells]) (fun j u hu => by
    rw [hadd]
    simp only [Lib.byteCells, List.getElem?_map, Option.map_eq_some_iff] at hu
    obtain ⟨x, hx, rfl⟩ := hu
    exact hc j x hx) (bc_one m) (by unfold maxLen; omega) (by omega) hB
  refine ⟨v', w', hr, ?_, h3⟩
  unfold OwnB
  rw [bc_app, List.length_append]
  exact h2
theorem run_appS {W : World} {B : Nat} {v : Value} {l : List UInt8} {s : ByteArray} (h : OwnB W B v l) (hn : l.length + s.size ≤ 1099511627776) (hB : B ≤ W.heap.size) :
    ∃ v' W', (Builtin.append_ #[63, 9] 63 #[v, .string s]).run Tryz.prog W = .ok v' W' ∧ OwnB W' B v' (l ++ s.data.toList) ∧ W.grownBy W' v.ownBlock := by
  obtain ⟨i0, hi, hz0, hz1, hz2⟩ := info_parts u8_info
  obtain ⟨v', w', hr, h2, h3, _⟩ := Lib.run_append_own_string (P := Tryz.prog) W B 63 9 63 5 i0 Tryz.underlying63 Tryz.underlying9 hi hz0 hz1 hz2 v l.length _ h s (by unfold maxLen; omega) (by omega) hB
  refine ⟨v', w', hr, ?_, h3⟩
  unfold OwnB
  rw [bc_app, List.length_append, show s.data.toList.length = s.size by simp]
  exact h2
section
variable {P : Program} {o : Oper} {a : Act} {W : World} {K : Act → World → Prop} {Q : Exit → Act → World → Prop}
theorem wp_appB (hP : P = Tryz.prog) (s x : Operand)
    (ho : o.op = .call { callee := .builtin .append, args := #[s, x], argTypes := #[63, 63] }) (hty : o.type = 63)
    {B : Nat} {l m : List UInt8} (hs : OwnB W B (a.eval s) l) (hx : ReadsB W (a.eval x) m) (hm0 : 0 < m.length) (hn : l.length + m.length ≤ 1099511627776) (hB : B ≤ W.heap.size)
    (h : ∀ v' W', OwnB W' B v' (l ++ m) → Bk B W W' → K (a.put o.dst v') W') : o.wp P a W K Q := by
  subst hP
  obtain ⟨A, c, ex, hl⟩ := hx
  obtain ⟨v', W', hr, h1, h2⟩ := run_appB (c := c) hs hl hm0 hn hB
  unfold Oper.wp execOp
  simp only [ho, hty, resolve, invoke, builtin, Sem.run_bind, Sem.run_pure, Result.andThen_ok, List.map_toArray, List.map_cons, List.map_nil, ex, hr]
  exact h v' W' h1 ⟨(Below.refl B W).grown h2 hB fun k hk => (hs.lt hk).1, (Lib.OthersKept.refl _ _ W).grown h2 hs.kind⟩
theorem wp_appS (hP : P = Tryz.prog) (s x : Operand)
    (ho : o.op = .call { callee := .builtin .append, args := #[s, x], argTypes := #[63, 9] }) (hty : o.type = 63)
    {B : Nat} {l : List UInt8} {t : ByteArray} (hs : OwnB W B (a.eval s) l) (hx : a.eval x = .string t) (hn : l.length + t.size ≤ 1099511627776) (hB : B ≤ W.heap.size)
    (h : ∀ v' W', OwnB W' B v' (l ++ t.data.toList) → Bk B W W' → K (a.put o.dst v') W') : o.wp P a W K Q := by
  subst hP
  obtain ⟨v', W', hr, h1, h2⟩ := run_appS hs hn hB
  unfold Oper.wp execOp
  simp only [ho, hty, resolve, invoke, builtin, Sem.run_bind, Sem.run_pure, Result.andThen_ok, List.map_toArray, List.map_cons, List.map_nil, hx, hr]
  exact h v' W' h1 ⟨(Below.refl B W).grown h2 hB fun k hk => (hs.lt hk).1, (Lib.OthersKept.refl _ _ W).grown h2 hs.kind⟩
theorem wpList_appB (hP : P = Tryz.prog) {ops : Array Oper} {rest : List Oper} (hgd : o.guard = none) (s x : Operand)
    (ho : o.op = .call { callee := .builtin .append, args := #[s, x], argTypes := #[63, 63] }) (hty : o.type = 63)
    {B : Nat} {l m : List UInt8} (hs : OwnB W B (a.eval s) l) (hx : ReadsB W (a.eval x) m) (hm0 : 0 < m.length) (hn : l.length + m.length ≤ 1099511627776) (hB : B ≤ W.heap.size)
    (h : ∀ v' W', OwnB W' B v' (l ++ m) → Bk B W W' → wpList P ops Q rest (a.put o.dst v') W') : wpList P ops Q (o :: rest) a W :=
  wpList_plain hgd fun _ hK => wp_appB hP s x ho hty hs hx hm0 hn hB fun v' W' h1 hb => hK _ _ (h v' W' h1 hb)
theorem wpList_appS (hP : P = Tryz.prog) {ops : Array Oper} {rest : List Oper} (hgd : o.guard = none) (s x : Operand)
    (ho : o.op = .call { callee := .builtin .append, args := #[s, x], argTypes := #[63, 9] }) (hty : o.type = 63)
    {B : Nat} {l : List UInt8} {t : ByteArray} (hs : OwnB W B (a.eval s) l) (hx : a.eval x = .string t) (hn : l.length + t.size ≤ 1099511627776) (hB : B ≤ W.heap.size)
    (h : ∀ v' W', OwnB W' B v' (l ++ t.data.toList) → Bk B W W' → wpList P ops Q rest (a.put o.dst v') W') : wpList P ops Q (o :: rest) a W :=
  wpList_plain hgd fun _ hK => wp_appS hP s x ho hty hs hx hn hB fun v' W' h1 hb => hK _ _ (h v' W' h1 hb)
theorem step_appB (hP : P = Tryz.prog) {ops : Array Oper} {E : Prop} (hgd : o.guard = none) (s x : Operand)
    (ho : o.op = .call { callee := .builtin .append, args := #[s, x], argTypes := #[63, 63] }) (hty : o.type = 63)
    {B : Nat} {l m : List UInt8} (hs : OwnB W B (a.eval s) l) (hx : ReadsB W (a.eval x) m) (hm0 : 0 < m.length) (hn : l.length + m.length ≤ 1099511627776) (hB : B ≤ W.heap.size)
    (h : ∀ v' W', OwnB W' B v' (l ++ m) → Bk B W W' → K (a.put o.dst v') W') : if Region.wanted o (yielded ops a.tmps) = true then Oper.wp P o a W K Q else E := by
  have hw : Region.wanted o (yielded ops a.tmps) = true := by simp [Region.wanted, hgd]
  rw [if_pos hw]
  exact wp_appB hP s x ho hty hs hx hm0 hn hB h
end
theorem bytes_new (W : World) (cs : Array Value) (bs : List UInt8) (h : cs.toList = Lib.byteCells bs) : BytesAt (W.alloc (.cells cs 5)) (some ⟨W.heap.size, 0, none⟩) bs := fun _ => ⟨W.heap.size, 0, rfl, fun i c hc => by
  rw [Nat.zero_add, cell_of_row _ W.heap.size i cs 5 (0, 0) (heap_alloc_new W _), ← Array.getElem?_toList, h]
  simp [Lib.byteCells, hc]⟩
theorem readsB_new (W : World) (cs : Array Value) (bs : List UInt8) (n : Nat) (hn : n = bs.length) (h : cs.toList = Lib.byteCells bs) : ReadsB (W.alloc (.cells cs 5)) (.slice (some ⟨W.heap.size, 0, none⟩) n n) bs :=
  ⟨_, n, by rw [hn], bytes_new W cs bs h⟩
theorem readsB_behind (W : World) (o : Obj) (cs : Array Value) (bs : List UInt8) (n : Nat) (hn : n = bs.length) (h : cs.toList = Lib.byteCells bs) : ReadsB ((W.alloc o).alloc (.cells cs 5)) (.slice (some ⟨W.heap.size + 1, 0, none⟩) n n) bs := by
  have g := readsB_new (W.alloc o) cs bs n hn h
  rwa [show (W.alloc o).heap.size = W.heap.size + 1 by simp] at g
theorem conv_own {W : World} {B : Nat} {v : Value} {l : List UInt8} (h : OwnB W B v l) : (convert 63 9 v).run Tryz.prog W = .ok (.string ⟨l.toArray⟩) W := by
  rcases h.2 with ⟨rfl, e⟩ | ⟨g, cap, cur, rfl, _, hg, hn, hm, hs, ht⟩
  · have : l = [] := List.eq_nil_of_length_eq_zero e
    subst this
    exact run_convert_bytes_nil (P := Tryz.prog) W 63 5 Tryz.underlying63 Tryz.underlying5 0 0 9 Tryz.underlying9
  · refine run_convert_bytes_back (P := Tryz.prog) W 63 9 5 ⟨g, 0, none⟩ cap l Tryz.underlying63 Tryz.underlying5 Tryz.underlying9 fun j hj => ?_
    exact World.ownsRow.cells h rfl j _ (by simp [Lib.byteCells, hj])
end Go.Proofs.YtikaamonmaohjaaGreatDoor
namespace Go.Proofs.YtikaamonmaohjaaGreatDoor
open Go.RowKit
set_option maxRecDepth 100000
set_option maxHeartbeats 2000000

def spL : List UInt8 := [92, 46, 91, 93, 40, 41, 124, 42, 43, 63]
def escB (c : UInt8) : List UInt8 := if amongB spL c then [92, c] else [c]
def escS (s : List UInt8) : List UInt8 := s.flatMap escB
theorem escS_len (s : List UInt8) : (escS s).length ≤ 2 * s.length := by
  unfold escS
  induction s with
  | nil => simp
  | cons c r ih =>
    rw [List.flatMap_cons, List.length_append, List.length_cons]
    have : (escB c).length ≤ 2 := by unfold escB; split <;> simp
    omega
theorem escS_step {s : List UInt8} {k : Nat} (h : k < s.length) : escS (s.take (k + 1)) = escS (s.take k) ++ escB s[k] := by
  unfold escS
  rw [List.take_succ_eq_append_getElem h, List.flatMap_append]; simp
end Go.Proofs.YtikaamonmaohjaaGreatDoor
namespace Go.Proofs.YtikaamonmaohjaaGreatDoor
open Go.RowKit
set_option maxRecDepth 100000
set_option maxHeartbeats 2000000

/-- the bytes that may stand behind a stroke -/
def bsL : List UInt8 := [92, 46, 91, 93, 40, 41, 124, 42, 43, 63, 94, 36, 123, 125, 47, 45]
def litF (s : List UInt8) : Nat → Nat → List UInt8 → Option (List UInt8)
  | 0, _, _ => none
  | f + 1, k, out => if k < s.length then (if (letterS s spL bsL k).1 then litF s f (letterS s spL bsL k).2.2 (out ++ [(letterS s spL bsL k).2.1]) else none) else some out
theorem litF_s (s : List UInt8) (f k : Nat) (out : List UInt8) : litF s (f + 1) k out = if k < s.length then (if (letterS s spL bsL k).1 then litF s f (letterS s spL bsL k).2.2 (out ++ [(letterS s spL bsL k).2.1]) else none) else some out := rfl
def literalS (s : List UInt8) : Option (List UInt8) := litF s (s.length + 1) 0 []
theorem letter_on {s a b : List UInt8} {k : Nat} (h : (letterS s a b k).1 = true) : k < (letterS s a b k).2.2 := by
  unfold letterS at h ⊢
  cases hst : isAt s k 92
  · rw [hst] at h
    simp only [Bool.false_eq_true, if_false] at h ⊢
    cases e : s[k]? with
    | none => rw [e] at h; cases h
    | some c =>
      rw [e] at h
      simp only at h ⊢
      split at h
      · rename_i g; rw [if_pos g]; show k < k + 1; omega
      · cases h
  · rw [hst] at h
    simp only [if_true] at h ⊢
    cases e : s[k + 1]? with
    | none => rw [e] at h; cases h
    | some c =>
      rw [e] at h
      simp only at h ⊢
      split at h
      · rename_i g; rw [if_pos g]; show k < k + 1 + 1; omega
      · cases h
def litV : Option (List UInt8) → Value
  | some t => .tuple #[.string ⟨t.toArray⟩, .bool true]
  | none => .tuple #[.string ⟨#[]⟩, .bool false]
theorem OwnB.only {W W' : World} {B b : Nat} {v : Value} {l : List UInt8} (h : OwnB W B v l) (g : Only W W' b) (hb : b < B) : OwnB W' B v l :=
  World.ownsRow.kept h (row := some b) g (.inr fun e => by have := (h.lt e).1; omega)
end Go.Proofs.YtikaamonmaohjaaGreatDoor
namespace Go.Proofs.YtikaamonmaohjaaGreatDoor
open Go.RowKit
set_option maxRecDepth 100000
set_option maxHeartbeats 4000000

theorem itemS_le {s : List UInt8} {k : Nat} (h : k ≤ s.length) : (itemS s k).2.2.2 ≤ s.length ∧ ((itemS s k).1 = true → k < (itemS s k).2.2.2) := by
  have h1 := letterS_le s sbL sqL k h
  have h2 := letter_on (s := s) (a := sbL) (b := sqL) (k := k)
  unfold itemS
  obtain ⟨r, hr⟩ : ∃ r, letterS s sbL sqL k = r := ⟨_, rfl⟩
  rw [hr] at h1 h2 ⊢
  obtain ⟨ok, c, k1⟩ := r
  simp only at h1 h2 ⊢
  cases ok
  · exact ⟨h1.1, fun e => by cases e⟩
  have h2' := h2 rfl
  simp only [if_true]
  cases ht : isAt s k1 45
  · exact ⟨h1.1, fun _ => h2'⟩
  have hk1 : k1 < s.length := (List.getElem?_eq_some_iff.1 (of_decide_eq_true ht)).1
  have h3 := letterS_le s sbL sqL (k1 + 1) (by omega)
  simp only [if_true]
  obtain ⟨q, hq⟩ : ∃ q, letterS s sbL sqL (k1 + 1) = q := ⟨_, rfl⟩
  rw [hq] at h3 ⊢
  obtain ⟨ok2, c2, k2⟩ := q
  simp only at h3 ⊢
  cases ok2
  · exact ⟨h3.1, fun e => by cases e⟩
  simp only [if_true]
  split
  · exact ⟨by show k1 + 1 ≤ _; omega, fun e => by cases e⟩
  · exact ⟨h3.1, fun _ => by show k < k2; omega⟩
def setF (s : List UInt8) : Nat → Nat → (Nat → Bool) → Bool × (Nat → Bool) × Nat
  | 0, k, p => (false, p, k)
  | f + 1, k, p => if isAt s k 93 then (true, p, k + 1) else if (itemS s k).1 then setF s f (itemS s k).2.2.2 (fun x => p x || inR (itemS s k).2.1.toNat (itemS s k).2.2.1.toNat x) else (false, p, (itemS s k).2.2.2)
theorem setF_s (s : List UInt8) (f k : Nat) (p : Nat → Bool) : setF s (f + 1) k p = if isAt s k 93 then (true, p, k + 1) else if (itemS s k).1 then setF s f (itemS s k).2.2.2 (fun x => p x || inR (itemS s k).2.1.toNat (itemS s k).2.2.1.toNat x) else (false, p, (itemS s k).2.2.2) := rfl
/-- behind the opening bracket: is there a set, which, and the place behind it -/
def setS (s : List UInt8) (k : Nat) : Bool × (Nat → Bool) × Nat :=
  let k1 := if isAt s k 94 then k + 1 else k
  let r := itemS s k1
  if r.1 then
    let q := setF s (s.length + 1) r.2.2.2 (fun x => false || inR r.2.1.toNat r.2.2.1.toNat x)
    (q.1, (if isAt s k 94 then fun x => !q.2.1 x else q.2.1), q.2.2)
  else (false, fun _ => false, r.2.2.2)
/-- a node of one byte -/
def LeafV (v : Value) (p : Nat → Bool) : Prop := ∃ u0 u1 u2 u3 : Nat, v = .agg #[.int .i64 0, .int .u64 u0, .int .u64 u1, .int .u64 u2, .int .u64 u3, .slice none 0 0] ∧ Wd64 u0 p 0 ∧ Wd64 u1 p 1 ∧ Wd64 u2 p 2 ∧ Wd64 u3 p 3
def zeroN : Value := .agg #[.int .i64 0, .int .u64 0, .int .u64 0, .int .u64 0, .int .u64 0, .slice none 0 0]
def SetPPost (b : Nat) (s : ByteArray) (r : Bool × (Nat → Bool) × Nat) (w : World) (e : Ending) (w' : World) : Prop :=
  Rd w' b s r.2.2 ∧ Only w w' b ∧ ∃ v, e = .returned (.tuple #[v, .bool r.1]) ∧ (r.1 = true → LeafV v r.2.1) ∧ (r.1 = false → v = zeroN)
/-- six cells that may be written -/
def Six (W : World) (b : Nat) : Prop := ∀ i, i < 6 → (W.cell? ⟨b, i, none⟩).isSome = true ∧ W.frozen? ⟨b, i, none⟩ = false
theorem Six.on2 {W W' : World} {b d e : Nat} (h : Six W b) (g : On2 W W' d e) (h1 : b ≠ d) (h2 : b ≠ e) : Six W' b := fun i hi => by
  have hlt : b < W.heap.size := by
    obtain ⟨u, hu⟩ := Option.isSome_iff_exists.1 (h 0 (by omega)).1
    exact World.block_lt_of_cell? W _ hu
  have hb := g.block b hlt h1 h2
  exact ⟨by rw [World.cell?_of_block (a := ⟨b, i, none⟩) hb]; exact (h i hi).1, by rw [World.frozen?_of_block (a := ⟨b, i, none⟩) hb]; exact (h i hi).2⟩
theorem On2.of_r {w w' : World} {b d : Nat} (h : Only w w' b) : On2 w w' b d := (On2.refl w b d).l h
/-- what holds on the way: X: the world behind both new blocks -/
structure SetSt (b N : Nat) (s : ByteArray) (X W : World) (k : Nat) (p : Nat → Bool) : Prop where
  r : Rd W b s k
  p : BsAt W (N + 1) 1 p
  k : KeepsB X W (N + 1) 1
  x : Six W N
  o : On2 X W b (N + 1)
theorem SetSt.take {b N : Nat} {s : ByteArray} {X W W' : World} {k k' : Nat} {p : Nat → Bool} (h : SetSt b N s X W k p) (hb : b < N) (g : Only W W' b) (r : Rd W' b s k') : SetSt b N s X W' k' p :=
  ⟨r, h.p.only g (by omega), h.k.only g h.p.lt (by omega), h.x.on2 (On2.of_r (d := N + 1) g) (by omega) (by omega), h.o.l g⟩
theorem SetSt.item {b N : Nat} {s : ByteArray} {X W W' : World} {k k' : Nat} {p q : Nat → Bool} (h : SetSt b N s X W k p) (hb : b < N) (r : Rd W' b s k') (hp : BsAt W' (N + 1) 1 q) (g : On2 W W' b (N + 1)) (hk : KeepsB W W' (N + 1) 1) : SetSt b N s X W' k' q :=
  ⟨r, hp, h.k.trans hk, h.x.on2 g (by omega) (by omega), h.o.trans g⟩
theorem On2.only {w X W : World} {b : Nat} (g : Gr w X) (h : On2 X W b (w.heap.size + 1)) : Only w W b :=
  ⟨h.os.trans g.b.os, h.tape.trans g.b.tape, h.output.trans g.b.output, Nat.le_trans g.b.size h.size, fun i hi hne => (h.block i (Nat.lt_of_lt_of_le hi g.b.size) (fun e => hne (by rw [e])) (by omega)).trans (g.b.block i hi)⟩
theorem set_start (b k : Nat) (s : ByteArray) (w : World) (h : Rd w b s k) (X : World) (hX : X = (w.alloc (.cells #[.int .i64 0, .int .u64 0, .int .u64 0, .int .u64 0, .int .u64 0, .slice none 0 0] 150)).alloc (.cells #[.int .i64 0, .int .u64 0, .int .u64 0, .int .u64 0, .int .u64 0, .slice none 0 0] 150)) :
    SetSt b w.heap.size s X X k (fun _ => false) ∧ X.cell? ⟨w.heap.size + 1, 0, none⟩ = some (.int .i64 0) ∧ X.cell? ⟨w.heap.size + 1, 5, none⟩ = some (.slice none 0 0) ∧ Gr w X := by
  subst hX
  refine ⟨⟨h.gr (((Gr.refl w).alloc _ _).alloc _ _), fun i hi => ?_, KeepsB.refl _ _ _, fun i hi => ?_, On2.refl _ _ _⟩, by go_simp, by go_simp, ((Gr.refl w).alloc _ _).alloc _ _⟩
  · have e : Wd64 0 (fun _ => false) i := ⟨by omega, fun j _ => by simp⟩
    match i, hi with
    | 0, _ => exact ⟨0, by go_simp, by go_simp, e⟩
    | 1, _ => exact ⟨0, by go_simp, by go_simp, e⟩
    | 2, _ => exact ⟨0, by go_simp, by go_simp, e⟩
    | 3, _ => exact ⟨0, by go_simp, by go_simp, e⟩
  · match i, hi with
    | 0, _ => exact ⟨by go_simp, by go_simp⟩
    | 1, _ => exact ⟨by go_simp, by go_simp⟩
    | 2, _ => exact ⟨by go_simp, by go_simp⟩
    | 3, _ => exact ⟨by go_simp, by go_simp⟩
    | 4, _ => exact ⟨by go_simp, by go_simp⟩
    | 5, _ => exact ⟨by go_simp, by go_simp⟩
/-- the result's six cells, written -/
theorem Only.six {w W : World} {b : Nat} (h : Only w W b) (v0 v1 v2 v3 v4 v5 : Value) : Only w ((((((W.setCell ⟨w.heap.size, 0, none⟩ v0).setCell ⟨w.heap.size, 1, none⟩ v1).setCell ⟨w.heap.size, 2, none⟩ v2).setCell ⟨w.heap.size, 3, none⟩ v3).setCell ⟨w.heap.size, 4, none⟩ v4).setCell ⟨w.heap.size, 5, none⟩ v5) b := by
  have key : ∀ (W : World) (o : Nat) (v : Value), Only w W b → Only w (W.setCell ⟨w.heap.size, o, none⟩ v) b := fun W o v h =>
    ⟨h.os, h.tape, h.output, by simpa [World.setCell] using h.size, fun i hi hne => (Below.heap_setCell W _ _ i (by
      show i ≠ w.heap.size
      omega)).trans (h.block i hi hne)⟩
  exact key _ _ _ (key _ _ _ (key _ _ _ (key _ _ _ (key _ _ _ (key _ _ _ h)))))
theorem Rd.six {W : World} {b N : Nat} {s : ByteArray} {k : Nat} (h : Rd W b s k) (hb : b < N) (v0 v1 v2 v3 v4 v5 : Value) : Rd ((((((W.setCell ⟨N, 0, none⟩ v0).setCell ⟨N, 1, none⟩ v1).setCell ⟨N, 2, none⟩ v2).setCell ⟨N, 3, none⟩ v3).setCell ⟨N, 4, none⟩ v4).setCell ⟨N, 5, none⟩ v5) b s k := by
  have key : ∀ (W : World) (o : Nat) (v : Value), Rd W b s k → Rd (W.setCell ⟨N, o, none⟩ v) b s k := fun W o v h =>
    (Below.heap_setCell W _ _ b (by show b ≠ N; omega)).trans h
  exact key _ _ _ (key _ _ _ (key _ _ _ (key _ _ _ (key _ _ _ (key _ _ _ h)))))
theorem st_no {b k : Nat} {s : ByteArray} {w X W : World} {p q : Nat → Bool} {R : Bool × (Nat → Bool) × Nat} (v0 v1 v2 v3 v4 v5 : Value) (hb : b < w.heap.size) (H : R = (false, q, k)) (hg : Gr w X) (h : SetSt b w.heap.size s X W k p) :
    SetPPost b s R w (.returned (.tuple #[zeroN, .bool false])) ((((((W.setCell ⟨w.heap.size, 0, none⟩ v0).setCell ⟨w.heap.size, 1, none⟩ v1).setCell ⟨w.heap.size, 2, none⟩ v2).setCell ⟨w.heap.size, 3, none⟩ v3).setCell ⟨w.heap.size, 4, none⟩ v4).setCell ⟨w.heap.size, 5, none⟩ v5) := by
  subst H
  exact ⟨h.r.six hb _ _ _ _ _ _, (h.o.only hg).six _ _ _ _ _ _, zeroN, rfl, fun e => absurd e (by simp), fun _ => rfl⟩
theorem st_yes {b k : Nat} {s : ByteArray} {w X W : World} {p q : Nat → Bool} {v : Value} {R : Bool × (Nat → Bool) × Nat} (v0 v1 v2 v3 v4 v5 : Value) (hb : b < w.heap.size) (H : R = (true, q, k)) (hg : Gr w X) (h : SetSt b w.heap.size s X W k p) (hv : LeafV v q) :
    SetPPost b s R w (.returned (.tuple #[v, .bool true])) ((((((W.setCell ⟨w.heap.size, 0, none⟩ v0).setCell ⟨w.heap.size, 1, none⟩ v1).setCell ⟨w.heap.size, 2, none⟩ v2).setCell ⟨w.heap.size, 3, none⟩ v3).setCell ⟨w.heap.size, 4, none⟩ v4).setCell ⟨w.heap.size, 5, none⟩ v5) := by
  subst H
  exact ⟨h.r.six hb _ _ _ _ _ _, (h.o.only hg).six _ _ _ _ _ _, v, rfl, fun _ => hv, fun e => absurd e (by simp)⟩
theorem st_yes2 {b k : Nat} {s : ByteArray} {w X W : World} {q : Nat → Bool} {v : Value} {R : Bool × (Nat → Bool) × Nat} (v0 v1 v2 v3 v4 v5 : Value) (hb : b < w.heap.size) (H : R = (true, q, k)) (hg : Gr w X) (hr : Rd W b s k) (ho : On2 X W b (w.heap.size + 1)) (hv : LeafV v q) :
    SetPPost b s R w (.returned (.tuple #[v, .bool true])) ((((((W.setCell ⟨w.heap.size, 0, none⟩ v0).setCell ⟨w.heap.size, 1, none⟩ v1).setCell ⟨w.heap.size, 2, none⟩ v2).setCell ⟨w.heap.size, 3, none⟩ v3).setCell ⟨w.heap.size, 4, none⟩ v4).setCell ⟨w.heap.size, 5, none⟩ v5) := by
  subst H
  exact ⟨hr.six hb _ _ _ _ _ _, (ho.only hg).six _ _ _ _ _ _, v, rfl, fun _ => hv, fun e => absurd e (by simp)⟩
theorem Rd.four {W : World} {b N : Nat} {s : ByteArray} {k : Nat} (h : Rd W b s k) (hb : b < N) (v0 v1 v2 v3 : Value) : Rd ((((W.setCell ⟨N, 1, none⟩ v0).setCell ⟨N, 2, none⟩ v1).setCell ⟨N, 3, none⟩ v2).setCell ⟨N, 4, none⟩ v3) b s k := by
  have key : ∀ (W : World) (o : Nat) (v : Value), Rd W b s k → Rd (W.setCell ⟨N, o, none⟩ v) b s k := fun W o v h =>
    (Below.heap_setCell W _ _ b (by show b ≠ N; omega)).trans h
  exact key _ _ _ (key _ _ _ (key _ _ _ (key _ _ _ h)))
theorem set_any (b k : Nat) (s : ByteArray) (w : World) (h : Rd w b s k) (hk : k ≤ s.size) (hs : s.size ≤ 1000000) :
    Calls Tryz.prog 187 #[.pointer (some ⟨b, 0, none⟩)] w (SetPPost b s (setS s.data.toList k) w) := by
  have hlen : s.data.toList.length = s.size := by simp
  have HL := Lib.hid hlen
  have hbN := h.lt
  obtain ⟨X, hX⟩ : ∃ X, X = (w.alloc (.cells #[.int .i64 0, .int .u64 0, .int .u64 0, .int .u64 0, .int .u64 0, .slice none 0 0] 150)).alloc (.cells #[.int .i64 0, .int .u64 0, .int .u64 0, .int .u64 0, .int .u64 0, .slice none 0 0] 150) := ⟨_, rfl⟩
  obtain ⟨hst, hx0, hx5, hgX⟩ := set_start b k s w h X hX
  have CT := Lib.hid (fun (c : UInt8) (k : Nat) W (h : Rd W b s k) (hk : k ≤ s.size) => take_any b s k c W h hk hs)
  have CI := Lib.hid (fun (k : Nat) W p (h : Rd W b s k) (hk : k ≤ s.size) (hB : BsAt W (w.heap.size + 1) 1 p) => item_any b (w.heap.size + 1) 1 k s p W h hk hs hB (by omega))
  have HST := Lib.hid hst
  have HX := Lib.hid (And.intro hx0 (And.intro hx5 hgX))
  clear hst hx0 hx5 hgX h
  obtain ⟨R, hR⟩ : ∃ R, setS s.data.toList k = R := ⟨_, rfl⟩
  rw [hR]
  have HR := Lib.hid hR
  clear hR
  obtain ⟨wo, hwo⟩ : ∃ wo, isAt s.data.toList k 94 = wo := ⟨_, rfl⟩
  have hwl : wo = true → k < s.size := fun e => by
    have := (List.getElem?_eq_some_iff.1 (of_decide_eq_true (hwo.trans e))).1
    omega
  have C1 := Lib.hid (CT.out 94 k X HST.out.r hk)
  unfold TakePost at C1
  rw [hwo] at C1
  have HWO := Lib.hid hwo
  clear hwo
  go_enter Tryz.func187, Tryz.ntmps187
  go_wp2_with fail
  rw [← hX]
  refine C1.out.mono ?_
  rintro e w1 ⟨rfl, hr1, ho1⟩
  obtain ⟨k1, hk1⟩ : ∃ k1, (if wo then k + 1 else k) = k1 := ⟨_, rfl⟩
  have hk1s : k1 ≤ s.size := by
    rw [← hk1]
    cases wo
    · exact hk
    · exact hwl rfl
  rw [hk1] at hr1
  have HS1 := Lib.hid (HST.out.take hbN ho1 hr1)
  have C2 := Lib.hid (CI.out k1 w1 _ HS1.out.r hk1s HS1.out.p)
  have hit := itemS_le (s := s.data.toList) (k := k1) (by rw [hlen]; exact hk1s)
  rw [hlen] at hit
  have hR2 := HR.out
  unfold setS at hR2
  simp only at hR2
  rw [HWO.out] at hR2
  rw [hk1] at hR2
  obtain ⟨r, hr⟩ : ∃ r, itemS s.data.toList k1 = r := ⟨_, rfl⟩
  rw [hr] at hR2 C2 hit
  have HR3 := Lib.hid hR2
  clear HR hR2
  clear hr hr1 ho1 C1 hk1 HST
  obtain ⟨ok, c, d, k2⟩ := r
  unfold ItemPost at C2
  simp only at HR3 C2 hit
  have hres : Tryz.f187.results = #[.cell 2 150, .tmp 3] := by kernel_rfl
  cases ok
  · have H : Hid (R = (false, fun _ => false, k2)) := Lib.hid (by rw [← HR3.out]; rfl)
    clear HR3
    go_wp2_with fail
    refine C2.out.mono ?_
    rintro e w2 ⟨rfl, hr2, hb2, ho2, hk2⟩
    have HQ := Lib.hid (HS1.out.item hbN hr2 hb2 ho2 hk2)
    clear hr2 hb2 ho2 hk2
    obtain ⟨y0, e0⟩ := Option.isSome_iff_exists.1 (HQ.out.x 0 (by omega)).1
    obtain ⟨y1, e1⟩ := Option.isSome_iff_exists.1 (HQ.out.x 1 (by omega)).1
    obtain ⟨y2, e2⟩ := Option.isSome_iff_exists.1 (HQ.out.x 2 (by omega)).1
    obtain ⟨y3, e3⟩ := Option.isSome_iff_exists.1 (HQ.out.x 3 (by omega)).1
    obtain ⟨y4, e4⟩ := Option.isSome_iff_exists.1 (HQ.out.x 4 (by omega)).1
    obtain ⟨y5, e5⟩ := Option.isSome_iff_exists.1 (HQ.out.x 5 (by omega)).1
    have f0 := (HQ.out.x 0 (by omega)).2
    have f1 := (HQ.out.x 1 (by omega)).2
    have f2 := (HQ.out.x 2 (by omega)).2
    have f3 := (HQ.out.x 3 (by omega)).2
    have f4 := (HQ.out.x 4 (by omega)).2
    have f5 := (HQ.out.x 5 (by omega)).2
    go_wp2
    refine bodyPost_ret (v := .tuple #[zeroN, .bool false]) ?_ rfl ?_
    · simp only [results, hres]
      go_simp
      rfl
    exact st_no _ _ _ _ _ _ hbN H.out HX.out.2.2 HQ.out
  have HR4 : Hid (R = ((setF s.data.toList (s.size + 1) k2 (fun x => false || inR c.toNat d.toNat x)).1, (if wo then fun x => !(setF s.data.toList (s.size + 1) k2 (fun x => false || inR c.toNat d.toNat x)).2.1 x else (setF s.data.toList (s.size + 1) k2 (fun x => false || inR c.toNat d.toNat x)).2.1), (setF s.data.toList (s.size + 1) k2 (fun x => false || inR c.toNat d.toNat x)).2.2)) := Lib.hid (by rw [← HR3.out, hlen]; rfl)
  clear HR3
  obtain ⟨Q, hQ⟩ : ∃ Q, setF s.data.toList (s.size + 1) k2 (fun x => false || inR c.toNat d.toNat x) = Q := ⟨_, rfl⟩
  rw [hQ] at HR4
  have HQF := Lib.hid hQ
  have hk2 : k2 ≤ s.size := hit.1
  clear hQ hit
  go_wp2_with fail
  refine C2.out.mono ?_
  rintro e w2 ⟨rfl, hr2, hb2, ho2, hkk2⟩
  have HS2 := Lib.hid (HS1.out.item hbN hr2 hb2 ho2 hkk2)
  clear hr2 hb2 ho2 hkk2 C2 HS1
  go_wp2
  go_loopg [] (s.size + 1) (fun g wx => ∃ (k : Nat) (p : Nat → Bool), k ≤ s.size ∧ s.size + 1 ≤ k + g ∧ Hid (SetSt b w.heap.size s X wx k p) ∧ Hid (setF s.data.toList g k p = Q))
  case atStart => exact ⟨k2, _, hk2, by omega, HS2, HQF⟩
  case round =>
    clear HS2 HQF
    obtain ⟨k, p, hk, hf, HS, HF⟩ := hrel
    cases gk with
    | zero => omega
    | succ f =>
      have hF := HF.out
      rw [setF_s] at hF
      have C3 := Lib.hid (CT.out 93 k wr HS.out.r hk)
      unfold TakePost at C3
      obtain ⟨tk, htk⟩ : ∃ tk, isAt s.data.toList k 93 = tk := ⟨_, rfl⟩
      rw [htk] at C3 hF
      have htl : tk = true → k < s.size := fun e => by
        have := (List.getElem?_eq_some_iff.1 (of_decide_eq_true (htk.trans e))).1
        omega
      clear htk
      have HF2 := Lib.hid hF
      clear hF HF
      cases tk
      · have hit := itemS_le (s := s.data.toList) (k := k) (by rw [hlen]; exact hk)
        rw [hlen] at hit
        go_wp2_with fail
        refine C3.out.mono ?_
        rintro e w3 ⟨rfl, hr3, ho3⟩
        have HS3 : Hid (SetSt b w.heap.size s X w3 k p) := Lib.hid (HS.out.take hbN ho3 hr3)
        clear hr3 ho3
        have C4 := Lib.hid (CI.out k w3 _ HS3.out.r hk HS3.out.p)
        obtain ⟨r, hr⟩ : ∃ r, itemS s.data.toList k = r := ⟨_, rfl⟩
        rw [hr] at C4 hit HF2
        clear hr
        obtain ⟨ok, c', d', k'⟩ := r
        unfold ItemPost at C4
        simp only at C4 hit HF2
        cases ok
        · have H : Hid (R = (false, R.2.1, k')) := Lib.hid (by rw [HR4.out, ← HF2.out]; rfl)
          go_wp2_with fail
          refine C4.out.mono ?_
          rintro e w4 ⟨rfl, hr4, hb4, ho4, hk4⟩
          have HQ := Lib.hid (HS3.out.item hbN hr4 hb4 ho4 hk4)
          clear hr4 hb4 ho4 hk4
          obtain ⟨y0, e0⟩ := Option.isSome_iff_exists.1 (HQ.out.x 0 (by omega)).1
          obtain ⟨y1, e1⟩ := Option.isSome_iff_exists.1 (HQ.out.x 1 (by omega)).1
          obtain ⟨y2, e2⟩ := Option.isSome_iff_exists.1 (HQ.out.x 2 (by omega)).1
          obtain ⟨y3, e3⟩ := Option.isSome_iff_exists.1 (HQ.out.x 3 (by omega)).1
          obtain ⟨y4, e4⟩ := Option.isSome_iff_exists.1 (HQ.out.x 4 (by omega)).1
          obtain ⟨y5, e5⟩ := Option.isSome_iff_exists.1 (HQ.out.x 5 (by omega)).1
          have f0 := (HQ.out.x 0 (by omega)).2
          have f1 := (HQ.out.x 1 (by omega)).2
          have f2 := (HQ.out.x 2 (by omega)).2
          have f3 := (HQ.out.x 3 (by omega)).2
          have f4 := (HQ.out.x 4 (by omega)).2
          have f5 := (HQ.out.x 5 (by omega)).2
          go_wp2
          refine bodyPost_ret (v := .tuple #[zeroN, .bool false]) ?_ rfl ?_
          · simp only [results, hres]
            go_simp
            rfl
          exact st_no _ _ _ _ _ _ hbN H.out HX.out.2.2 HQ.out
        · have hit2 := hit.2 rfl
          have H : Hid (setF s.data.toList f k' (fun x => p x || inR c'.toNat d'.toNat x) = Q) := Lib.hid (by rw [← HF2.out]; rfl)
          go_wp2_with fail
          refine C4.out.mono ?_
          rintro e w4 ⟨rfl, hr4, hb4, ho4, hk4⟩
          have HQ := Lib.hid (HS3.out.item hbN hr4 hb4 ho4 hk4)
          clear hr4 hb4 ho4 hk4
          go_wp2
          go_roundg f
          case measure => omega
          case rel => exact ⟨k', _, hit.1, by omega, HQ, H⟩
      · have htl' := htl rfl
        have H : Hid (Q = (true, p, k + 1)) := Lib.hid (by rw [← HF2.out]; rfl)
        go_wp2_with fail
        refine C3.out.mono ?_
        rintro e w3 ⟨rfl, hr3, ho3⟩
        have HQ : Hid (SetSt b w.heap.size s X w3 (k + 1) p) := Lib.hid (HS.out.take hbN ho3 hr3)
        clear hr3 ho3
        cases wo
        · have H2 : Hid (R = (true, p, k + 1)) := Lib.hid (by rw [HR4.out, H.out]; rfl)
          have n0 := (HQ.out.k 0 (Or.inl (by omega))).1.trans HX.out.1
          have n5 := (HQ.out.k 5 (Or.inr (by omega))).1.trans HX.out.2.1
          obtain ⟨a0, n1, g1, p0⟩ := HQ.out.p 0 (by omega)
          obtain ⟨a1, n2, g2, p1⟩ := HQ.out.p 1 (by omega)
          obtain ⟨a2, n3, g3, p2⟩ := HQ.out.p 2 (by omega)
          obtain ⟨a3, n4, g4, p3⟩ := HQ.out.p 3 (by omega)
          simp only [Nat.reduceAdd] at n1 n2 n3 n4 g1 g2 g3 g4
          obtain ⟨y0, e0⟩ := Option.isSome_iff_exists.1 (HQ.out.x 0 (by omega)).1
          obtain ⟨y1, e1⟩ := Option.isSome_iff_exists.1 (HQ.out.x 1 (by omega)).1
          obtain ⟨y2, e2⟩ := Option.isSome_iff_exists.1 (HQ.out.x 2 (by omega)).1
          obtain ⟨y3, e3⟩ := Option.isSome_iff_exists.1 (HQ.out.x 3 (by omega)).1
          obtain ⟨y4, e4⟩ := Option.isSome_iff_exists.1 (HQ.out.x 4 (by omega)).1
          obtain ⟨y5, e5⟩ := Option.isSome_iff_exists.1 (HQ.out.x 5 (by omega)).1
          have f0 := (HQ.out.x 0 (by omega)).2
          have f1 := (HQ.out.x 1 (by omega)).2
          have f2 := (HQ.out.x 2 (by omega)).2
          have f3 := (HQ.out.x 3 (by omega)).2
          have f4 := (HQ.out.x 4 (by omega)).2
          have f5 := (HQ.out.x 5 (by omega)).2
          go_wp2
          refine bodyPost_ret (v := .tuple #[.agg #[.int .i64 0, .int .u64 a0, .int .u64 a1, .int .u64 a2, .int .u64 a3, .slice none 0 0], .bool true]) ?_ rfl ?_
          · simp only [results, hres]
            go_simp
          exact st_yes _ _ _ _ _ _ hbN H2.out HX.out.2.2 HQ.out ⟨a0, a1, a2, a3, rfl, p0, p1, p2, p3⟩
        · have H2 : Hid (R = (true, fun x => !p x, k + 1)) := Lib.hid (by rw [HR4.out, H.out]; rfl)
          have n0 := (HQ.out.k 0 (Or.inl (by omega))).1.trans HX.out.1
          have n5 := (HQ.out.k 5 (Or.inr (by omega))).1.trans HX.out.2.1
          obtain ⟨a0, n1, g1, p0⟩ := HQ.out.p 0 (by omega)
          obtain ⟨a1, n2, g2, p1⟩ := HQ.out.p 1 (by omega)
          obtain ⟨a2, n3, g3, p2⟩ := HQ.out.p 2 (by omega)
          obtain ⟨a3, n4, g4, p3⟩ := HQ.out.p 3 (by omega)
          simp only [Nat.reduceAdd] at n1 n2 n3 n4 g1 g2 g3 g4
          have CO := Lib.hid (others_any a0 a1 a2 a3 p w3 p0 p1 p2 p3)
          go_wp2_with fail
          refine CO.out.mono ?_
          rintro e w4 ⟨⟨u0, u1, u2, u3, rfl, q0, q1, q2, q3⟩, gg⟩
          have m0 := gg.cell n0
          have m1 := gg.cell n1
          have m2 := gg.cell n2
          have m3 := gg.cell n3
          have m4 := gg.cell n4
          have m5 := gg.cell n5
          have HQ2 : Hid (SetSt b w.heap.size s X w4 (k + 1) p) := Lib.hid (HQ.out.take hbN ((Only.refl _ b).gr gg) (HQ.out.r.gr gg))
          clear n0 n1 n2 n3 n4 n5 g1 g2 g3 g4 p0 p1 p2 p3 gg
          obtain ⟨_, _, g1, _⟩ := HQ2.out.p 0 (by omega)
          obtain ⟨_, _, g2, _⟩ := HQ2.out.p 1 (by omega)
          obtain ⟨_, _, g3, _⟩ := HQ2.out.p 2 (by omega)
          obtain ⟨_, _, g4, _⟩ := HQ2.out.p 3 (by omega)
          simp only [Nat.reduceAdd] at g1 g2 g3 g4
          have HQV := Lib.hid (show LeafV (.agg #[.int .i64 0, .int .u64 u0, .int .u64 u1, .int .u64 u2, .int .u64 u3, .slice none 0 0]) (fun x => !p x) from ⟨u0, u1, u2, u3, rfl, q0, q1, q2, q3⟩)
          clear q0 q1 q2 q3
          obtain ⟨y0, e0⟩ := Option.isSome_iff_exists.1 (HQ2.out.x 0 (by omega)).1
          obtain ⟨y1, e1⟩ := Option.isSome_iff_exists.1 (HQ2.out.x 1 (by omega)).1
          obtain ⟨y2, e2⟩ := Option.isSome_iff_exists.1 (HQ2.out.x 2 (by omega)).1
          obtain ⟨y3, e3⟩ := Option.isSome_iff_exists.1 (HQ2.out.x 3 (by omega)).1
          obtain ⟨y4, e4⟩ := Option.isSome_iff_exists.1 (HQ2.out.x 4 (by omega)).1
          obtain ⟨y5, e5⟩ := Option.isSome_iff_exists.1 (HQ2.out.x 5 (by omega)).1
          have f0 := (HQ2.out.x 0 (by omega)).2
          have f1 := (HQ2.out.x 1 (by omega)).2
          have f2 := (HQ2.out.x 2 (by omega)).2
          have f3 := (HQ2.out.x 3 (by omega)).2
          have f4 := (HQ2.out.x 4 (by omega)).2
          have f5 := (HQ2.out.x 5 (by omega)).2
          go_wp2
          refine bodyPost_ret (v := .tuple #[.agg #[.int .i64 0, .int .u64 u0, .int .u64 u1, .int .u64 u2, .int .u64 u3, .slice none 0 0], .bool true]) ?_ rfl ?_
          · simp only [results, hres]
            go_simp
          exact st_yes2 _ _ _ _ _ _ hbN H2.out HX.out.2.2 (HQ2.out.r.four (by omega) _ _ _ _) (HQ2.out.o.r (((((Only.refl w4 (w.heap.size + 1)).setCell (by rfl) _).setCell (by rfl) _).setCell (by rfl) _).setCell (by rfl) _)) HQV.out
end Go.Proofs.YtikaamonmaohjaaGreatDoor
