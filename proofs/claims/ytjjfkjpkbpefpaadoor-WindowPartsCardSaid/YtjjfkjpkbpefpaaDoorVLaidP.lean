/- Rows of small numbers that came in. -/
import Derived.Test.YtjjfkjpkbpefpaaDoorVLawP
import Derived.Test.YtjjfkjpkbpefpaaDoorVLaid
import Derived.ChangeSlices
namespace Go.Proofs.YtjjfkjpkbpefpaaDoor.Vn
open Go.RowKit Go.ChangeShapes Go.WideShapes
set_option maxRecDepth 100000

section
variable {H : Type} {enc : TypeId × Value → H} {W : World} {base : Nat} {sp : Nat → Bool} {held : Bool}
theorem open_i8s {v : Value} {d : DataW H} {p : List MemPlace} (h : DataW.Trod enc Tryd.prog W base sp held 53 v d p) (hv : ∃ a n c, v = .slice a n c) :
    ∃ A n c x, v = .slice A n c ∧ n ≤ maxLen ∧ IsAt .i8 W A n x ∧ ∀ j : Nat, -128 ≤ x j ∧ x j ≤ 128 := by
  obtain ⟨fuel, hf⟩ := h
  obtain ⟨a0, n0, c0, rfl⟩ := hv
  rcases open_ints Tryd.underlying53 Tryd.underlying55 (by kernel_rfl) hf with ⟨hcs, _⟩ | ⟨x, l, c, zs, hcs, _, hl, hm, hz, _, hcell, hwz⟩
  · simp [Value.cells] at hcs
    obtain ⟨rfl, rfl, rfl⟩ := hcs
    exact ⟨none, 0, 0, fun _ => 0, rfl, Nat.zero_le _, fun h => by omega, fun _ => by simp only; omega⟩
  · simp [Value.cells] at hcs
    obtain ⟨rfl, rfl, rfl⟩ := hcs
    have hlz : n0 ≤ zs.length := by rw [hz]; split <;> omega
    refine ⟨_, _, _, fun i => zs.getD i 0, rfl, by omega, fun h0 => ?_, fun j => ?_⟩
    · obtain ⟨b, off, rfl, hc⟩ := ints_at hcell (by omega)
      exact ⟨b, off, rfl, fun i hi => hc i (by omega)⟩
    · by_cases hj : j < zs.length
      · have hmem : zs.getD j 0 ∈ zs := by
          rw [List.getD, List.getElem?_eq_getElem hj]
          exact List.getElem_mem _
        have hb := bounds_i8 (hwz _ hmem)
        show -128 ≤ zs.getD j 0 ∧ zs.getD j 0 ≤ 128
        omega
      · have : zs.getD j 0 = 0 := by rw [List.getD, List.getElem?_eq_none (by omega)]; rfl
        show -128 ≤ zs.getD j 0 ∧ zs.getD j 0 ≤ 128
        rw [this]; omega
theorem open_u8s {v : Value} {d : DataW H} {p : List MemPlace} (h : DataW.Trod enc Tryd.prog W base sp held 54 v d p) (hv : ∃ a n c, v = .slice a n c) :
    ∃ A n c x, v = .slice A n c ∧ n ≤ maxLen ∧ IsAt .u8 W A n x ∧ ∀ j : Nat, 0 ≤ x j ∧ x j ≤ 255 := by
  obtain ⟨fuel, hf⟩ := h
  obtain ⟨a0, n0, c0, rfl⟩ := hv
  rcases open_ints Tryd.underlying54 Tryd.underlying5 (by kernel_rfl) hf with ⟨hcs, _⟩ | ⟨x, l, c, zs, hcs, _, hl, hm, hz, _, hcell, hwz⟩
  · simp [Value.cells] at hcs
    obtain ⟨rfl, rfl, rfl⟩ := hcs
    exact ⟨none, 0, 0, fun _ => 0, rfl, Nat.zero_le _, fun h => by omega, fun _ => by simp only; omega⟩
  · simp [Value.cells] at hcs
    obtain ⟨rfl, rfl, rfl⟩ := hcs
    have hlz : n0 ≤ zs.length := by rw [hz]; split <;> omega
    refine ⟨_, _, _, fun i => zs.getD i 0, rfl, by omega, fun h0 => ?_, fun j => ?_⟩
    · obtain ⟨b, off, rfl, hc⟩ := ints_at hcell (by omega)
      exact ⟨b, off, rfl, fun i hi => hc i (by omega)⟩
    · by_cases hj : j < zs.length
      · have hmem : zs.getD j 0 ∈ zs := by
          rw [List.getD, List.getElem?_eq_getElem hj]
          exact List.getElem_mem _
        have hb := bounds_u8 (hwz _ hmem)
        show 0 ≤ zs.getD j 0 ∧ zs.getD j 0 ≤ 255
        omega
      · have : zs.getD j 0 = 0 := by rw [List.getD, List.getElem?_eq_none (by omega)]; rfl
        show 0 ≤ zs.getD j 0 ∧ zs.getD j 0 ≤ 255
        rw [this]; omega
end
end Go.Proofs.YtjjfkjpkbpefpaaDoor.Vn
