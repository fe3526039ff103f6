/- A pattern's letters: what is read at a place. No program in it. -/
import GoSem.Op.String
import Derived.Lib.Strings
import Derived.Lib.IndexLaws
namespace Go.Proofs.Ytnlfndhgdeapeaa

def amongB (s : List UInt8) (c : UInt8) : Bool := decide (c ∈ s)
theorem among_index (s : List UInt8) (c : UInt8) : decide (0 ≤ Lib.indexByte s c) = amongB s c := by
  unfold amongB
  rw [decide_eq_decide]
  constructor
  · intro h
    obtain ⟨o, ho⟩ : ∃ o : Nat, Lib.indexByte s c = o := ⟨(Lib.indexByte s c).toNat, by omega⟩
    obtain ⟨h1, -⟩ := Lib.indexByte_some ho
    exact List.mem_of_getElem? h1
  · intro h
    refine Decidable.byContradiction fun hn => ?_
    have h1 : Lib.indexByte s c = -1 := by have := Lib.indexByte_ge s c; omega
    obtain ⟨i, hi, rfl⟩ := List.getElem_of_mem h
    exact Lib.indexByte_none h1 i (List.getElem?_eq_getElem hi)
/-- is c what comes? -/
def isAt (s : List UInt8) (k : Nat) (c : UInt8) : Bool := decide (s[k]? = some c)
/-- one byte that says itself: is there one, which, and the place behind it (or where the reading stops) -/
def letterS (s barred stroked : List UInt8) (k : Nat) : Bool × UInt8 × Nat :=
  let st := isAt s k 92
  let k1 := if st then k + 1 else k
  match s[k1]? with
  | none => (false, 0, k1)
  | some c => if (if st then amongB stroked c else !amongB barred c) then (true, c, k1 + 1) else (false, 0, k1)
theorem letterS_le (s barred stroked : List UInt8) (k : Nat) (h : k ≤ s.length) : (letterS s barred stroked k).2.2 ≤ s.length ∧ k ≤ (letterS s barred stroked k).2.2 := by
  have h1 : isAt s k 92 = true → k < s.length := fun e => by
    have := of_decide_eq_true e
    exact (List.getElem?_eq_some_iff.1 this).1
  unfold letterS
  cases hst : isAt s k 92
  · simp only [Bool.false_eq_true, if_false]
    cases e : s[k]? with
    | none => exact ⟨h, Nat.le_refl _⟩
    | some c =>
      have := (List.getElem?_eq_some_iff.1 e).1
      simp only
      split
      · exact ⟨by show k + 1 ≤ _; omega, by show k ≤ k + 1; omega⟩
      · exact ⟨h, Nat.le_refl _⟩
  · have := h1 hst
    simp only [if_true]
    cases e : s[k + 1]? with
    | none => exact ⟨by show k + 1 ≤ _; omega, by show k ≤ k + 1; omega⟩
    | some c =>
      have := (List.getElem?_eq_some_iff.1 e).1
      simp only
      split
      · exact ⟨by show k + 1 + 1 ≤ _; omega, by show k ≤ k + 1 + 1; omega⟩
      · exact ⟨by show k + 1 ≤ _; omega, by show k ≤ k + 1; omega⟩
end Go.Proofs.Ytnlfndhgdeapeaa
