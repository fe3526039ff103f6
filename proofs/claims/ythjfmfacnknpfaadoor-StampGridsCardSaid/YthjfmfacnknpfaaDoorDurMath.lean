/- Durations as lists of bytes: what a text is worth, part by part. No program. -/
import Derived.Lib.ItoaNum
namespace Go.Proofs.YthjfmfacnknpfaaDoor

def dgt (c : UInt8) : Bool := decide (48 ≤ c.toNat) && decide (c.toNat ≤ 57)
def ndg (c : UInt8) : Bool := !dgt c
def numD (C : Nat) (l : List UInt8) : Nat := l.foldl (fun C c => 10 * C + (c.toNat - 48)) C
def unitName : Nat → List UInt8
  | 0 => [100]
  | 1 => [104]
  | 2 => [109]
  | 3 => [115]
  | 4 => [109, 115]
  | _ => []
def unitSize : Nat → Nat
  | 0 => 86400000
  | 1 => 3600000
  | 2 => 60000
  | 3 => 1000
  | _ => 1
def findU (nm : List UInt8) (next : Nat) : Option Nat := [0, 1, 2, 3, 4].find? fun j => decide (next ≤ j) && (unitName j == nm)

theorem dropWhile_lt {p : UInt8 → Bool} : ∀ {l : List UInt8}, l.takeWhile p ≠ [] → (l.dropWhile p).length < l.length
  | [], h => by simp at h
  | c :: r, h => by
    cases hp : p c
    · rw [List.takeWhile_cons, hp] at h; simp at h
    · rw [List.dropWhile_cons, hp]
      have : (r.dropWhile p).length ≤ r.length := (List.dropWhile_sublist p).length_le
      simp; omega
theorem dropWhile_le (p : UInt8 → Bool) (l : List UInt8) : (l.dropWhile p).length ≤ l.length := (List.dropWhile_sublist p).length_le

/-- what the parts from here on come to; none: no parts -/
def parts (l : List UInt8) (next : Nat) : Option Nat :=
  if l.takeWhile dgt = [] then none
  else match findU ((l.dropWhile dgt).takeWhile ndg) next with
    | none => none
    | some j =>
      if ((l.dropWhile dgt).dropWhile ndg) = [] then some (numD 0 (l.takeWhile dgt) * unitSize j)
      else (parts ((l.dropWhile dgt).dropWhile ndg) (j + 1)).map (numD 0 (l.takeWhile dgt) * unitSize j + ·)
termination_by l.length
decreasing_by
  rename_i h _
  have := dropWhile_lt (l := l) h
  have := dropWhile_le ndg (l.dropWhile dgt)
  omega

/-- behind a unit's name -/
def behind (C : Nat) (l : List UInt8) (j : Nat) : Option Nat :=
  if l = [] then some (C * unitSize j) else (parts l (j + 1)).map (C * unitSize j + ·)
/-- at the search of a name -/
def partsS (C : Nat) (nm l : List UInt8) (next : Nat) : Option Nat :=
  match findU nm next with
  | none => none
  | some j => behind C l j
/-- in a name, of which pre is read -/
def partsL (C : Nat) (pre l : List UInt8) (next : Nat) : Option Nat := partsS C (pre ++ l.takeWhile ndg) (l.dropWhile ndg) next
/-- in digits, of which C is read -/
def partsD (C : Nat) (l : List UInt8) (next : Nat) : Option Nat := partsL (numD C (l.takeWhile dgt)) [] (l.dropWhile dgt) next

theorem parts_nil (next : Nat) : parts [] next = none := by rw [parts]; simp
theorem parts_not {c : UInt8} {l : List UInt8} (h : dgt c = false) (next : Nat) : parts (c :: l) next = none := by
  rw [parts]; simp [h]
theorem parts_dig {c : UInt8} {l : List UInt8} (h : dgt c = true) (next : Nat) : parts (c :: l) next = partsD 0 (c :: l) next := by
  rw [parts]
  have h1 : (c :: l).takeWhile dgt ≠ [] := by simp [h]
  rw [if_neg h1]
  unfold partsD partsL partsS behind
  rw [List.nil_append]
theorem partsD_step {c : UInt8} {l : List UInt8} (h : dgt c = true) (C next : Nat) : partsD C (c :: l) next = partsD (10 * C + (c.toNat - 48)) l next := by
  unfold partsD
  rw [List.takeWhile_cons, List.dropWhile_cons, h]
  rfl
theorem partsD_stop {c : UInt8} {l : List UInt8} (h : dgt c = false) (C next : Nat) : partsD C (c :: l) next = partsL C [] (c :: l) next := by
  unfold partsD
  rw [List.takeWhile_cons, List.dropWhile_cons, h]
  rfl
theorem partsD_nil (C next : Nat) : partsD C [] next = partsL C [] [] next := rfl
theorem partsL_step {c : UInt8} {l : List UInt8} (h : dgt c = false) (C : Nat) (pre : List UInt8) (next : Nat) : partsL C pre (c :: l) next = partsL C (pre ++ [c]) l next := by
  unfold partsL
  have : ndg c = true := by simp [ndg, h]
  rw [List.takeWhile_cons, List.dropWhile_cons, this]
  simp
theorem partsL_stop {c : UInt8} {l : List UInt8} (h : dgt c = true) (C : Nat) (pre : List UInt8) (next : Nat) : partsL C pre (c :: l) next = partsS C pre (c :: l) next := by
  unfold partsL
  have : ndg c = false := by simp [ndg, h]
  rw [List.takeWhile_cons, List.dropWhile_cons, this]
  simp
theorem partsL_nil (C : Nat) (pre : List UInt8) (next : Nat) : partsL C pre [] next = partsS C pre [] next := by
  unfold partsL; simp
theorem findU_5 (nm : List UInt8) : findU nm 5 = none := by simp [findU]
theorem findU_hit {nm : List UInt8} {next : Nat} (h5 : next < 5) (h : nm = unitName next) : findU nm next = some next := by
  rcases (by omega : next = 0 ∨ next = 1 ∨ next = 2 ∨ next = 3 ∨ next = 4) with rfl | rfl | rfl | rfl | rfl <;> subst h <;> rfl
theorem findU_miss {nm : List UInt8} {next : Nat} (h5 : next < 5) (h : nm ≠ unitName next) : findU nm next = findU nm (next + 1) := by
  have hne : (unitName next == nm) = false := by
    rw [beq_eq_false_iff_ne]; exact fun e => h e.symm
  unfold findU
  apply congrArg (fun p => List.find? p [0, 1, 2, 3, 4])
  funext j
  by_cases hj : j = next
  · subst hj; rw [hne]; simp
  · by_cases hl : next ≤ j
    · have : next + 1 ≤ j := by omega
      simp [hl, this]
    · have : ¬ next + 1 ≤ j := by omega
      simp [hl, this]
theorem partsS_5 (C : Nat) (nm l : List UInt8) : partsS C nm l 5 = none := by unfold partsS; rw [findU_5]
theorem partsS_hit {C : Nat} {nm l : List UInt8} {next : Nat} (h5 : next < 5) (h : nm = unitName next) : partsS C nm l next = behind C l next := by
  unfold partsS; rw [findU_hit h5 h]
theorem partsS_miss {C : Nat} {nm l : List UInt8} {next : Nat} (h5 : next < 5) (h : nm ≠ unitName next) : partsS C nm l next = partsS C nm l (next + 1) := by
  unfold partsS; rw [findU_miss h5 h]

/-- a duration's number and error, by what its parts come to -/
def resV : Option Nat → Int
  | none => 0
  | some T => if 1 ≤ T ∧ T ≤ 1125899906842624 then T else 0
def resE : Option Nat → Int
  | none => 2
  | some T => if 1 ≤ T ∧ T ≤ 1125899906842624 then 0 else 1
def durO (l : List UInt8) : Option Nat := if 64 < l.length then none else parts l 0
/-- t stands for T, cut -/
def Sat (t T : Nat) : Prop := (T ≤ 1125899906842624 → t = T) ∧ (1125899906842624 < T → 1125899906842624 < t)
theorem Sat.zero : Sat 0 0 := ⟨fun _ => rfl, fun h => by omega⟩
theorem res_sat {t T : Nat} (h : Sat t T) (hp : 1 ≤ t ∧ t ≤ 1125899906842624) : resV (some T) = t ∧ resE (some T) = 0 := by
  have hT : T ≤ 1125899906842624 := by
    rcases Nat.lt_or_ge 1125899906842624 T with h1 | h1
    · have := h.2 h1; omega
    · exact h1
  have := h.1 hT
  subst this
  simp only [resV, resE]
  rw [if_pos hp, if_pos hp]
  exact ⟨rfl, rfl⟩
theorem res_not {t T : Nat} (h : Sat t T) (hp : ¬ (1 ≤ t ∧ t ≤ 1125899906842624)) : resV (some T) = 0 ∧ resE (some T) = 1 := by
  have hT : ¬ (1 ≤ T ∧ T ≤ 1125899906842624) := by
    intro h1
    have := h.1 h1.2
    omega
  simp only [resV, resE]
  rw [if_neg hT, if_neg hT]
  exact ⟨rfl, rfl⟩
end Go.Proofs.YthjfmfacnknpfaaDoor
