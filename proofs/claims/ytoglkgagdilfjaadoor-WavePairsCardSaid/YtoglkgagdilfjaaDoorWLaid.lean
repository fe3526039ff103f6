/- What comes in, read as rows of numbers; what the listed variable gives. -/
import Derived.Test.YtoglkgagdilfjaaDoorWWhole
import Derived.Test.YtoglkgagdilfjaaDoorRows
import Derived.ChangeSame
import Derived.ChangeSlices
import Derived.WideShapes
import Derived.ProofKit
import Derived.LaidMore
import Derived.LaidSub
import Derived.Lay
import Derived.OpenShut
import Derived.Lib.LaidTab
import Derived.Lib.SmallJoins
namespace Go.Proofs.YtoglkgagdilfjaaDoor
open Go.RowKit Go.ChangeShapes Go.WideShapes
set_option maxRecDepth 100000

theorem laid_one {P : Program} {W : World} {L : List (String × DataW Unit)} (name : String) (d : DataW Unit) (hf : (L.filter fun x => x.1 == name) = [(name, d)]) (hp : ([(name, d)].all fun x => x.2.handleName?.isNone) = true) (h : laidMetH P L W) : laidMet P [(name, d)] W := by
  have h1 := h.filter (fun x => x.1 == name)
  rw [hf, MakeChecks.laidMetH_plain _ _ _ hp] at h1
  exact h1
theorem kn_of {W : World} (hb : laidMet Tryd.prog [("isobar/fval.bits", Lib.tabData .u64 [9221120237041090561, 9218868437227405314, 9218868437227405312, 9223372036854775808])] W) : Tab W := by
  have gB : Tryd.prog.globalNamed "isobar/fval.bits" = some 1 := by kernel_rfl
  have tB := Lib.tabIs_of_head (rest := []) gB (t := 60) (e := 22) (n := 4) (by kernel_rfl) Tryd.underlying60 Tryd.underlying22 (by kernel_rfl) (by kernel_rfl) hb
  exact ⟨tB.cell gB 0 (by decide), tB.cell gB 1 (by decide), tB.cell gB 2 (by decide), tB.cell gB 3 (by decide)⟩
/-- a number without a sign -/
theorem u64_of {x : Int} (h : (Lit.int .u64 x).wf = true) : ∃ n : Nat, x = n ∧ n < 2 ^ 64 := by
  have := bounds_u64 h
  exact ⟨x.toNat, by omega, by omega⟩
section
variable {H : Type} {enc : TypeId × Value → H} {W : World} {base : Nat} {sp : Nat → Bool} {held : Bool}
theorem open_us {v : Value} {d : DataW H} {p : List MemPlace} (h : DataW.Trod enc Tryd.prog W base sp held 26 v d p) (hv : ∃ a n c, v = .slice a n c) :
    ∃ A n c x, v = .slice A n c ∧ n ≤ maxLen ∧ UsAt W A n x := by
  obtain ⟨fuel, hf⟩ := h
  obtain ⟨a0, n0, c0, rfl⟩ := hv
  rcases open_ints Tryd.underlying26 Tryd.underlying22 (by kernel_rfl) hf with ⟨hcs, _⟩ | ⟨x, l, c, zs, hcs, _, hl, hm, hz, _, hcell, hwz⟩
  · simp [Value.cells] at hcs
    obtain ⟨rfl, rfl, rfl⟩ := hcs
    exact ⟨none, 0, 0, fun _ => 0, rfl, Nat.zero_le _, fun h => by omega⟩
  · simp [Value.cells] at hcs
    obtain ⟨rfl, rfl, rfl⟩ := hcs
    have hlz : n0 ≤ zs.length := by rw [hz]; split <;> omega
    refine ⟨_, _, _, fun i => (zs.getD i 0).toNat, rfl, by omega, fun h0 => ?_⟩
    obtain ⟨b, off, rfl, hc⟩ := ints_at hcell (by omega)
    refine ⟨b, off, rfl, fun i hi => ?_⟩
    have h1 := hc i (by omega)
    have hmem : zs.getD i 0 ∈ zs := by
      rw [List.getD, List.getElem?_eq_getElem (by omega : i < zs.length)]
      exact List.getElem_mem _
    have hb := bounds_u64 (hwz _ hmem)
    rw [h1, Int.toNat_of_nonneg hb.1]
theorem open_hs {v : Value} {d : DataW H} {p : List MemPlace} (h : DataW.Trod enc Tryd.prog W base sp held 47 v d p) (hv : ∃ a n c, v = .slice a n c) :
    ∃ A n c x, v = .slice A n c ∧ n ≤ maxLen ∧ HsAt W A n x ∧ ∀ j : Nat, -32768 ≤ x j ∧ x j ≤ 32768 := by
  obtain ⟨fuel, hf⟩ := h
  obtain ⟨a0, n0, c0, rfl⟩ := hv
  rcases open_ints Tryd.underlying47 Tryd.underlying48 (by kernel_rfl) hf with ⟨hcs, _⟩ | ⟨x, l, c, zs, hcs, _, hl, hm, hz, _, hcell, hwz⟩
  · simp [Value.cells] at hcs
    obtain ⟨rfl, rfl, rfl⟩ := hcs
    exact ⟨none, 0, 0, fun _ => 0, rfl, Nat.zero_le _, fun h => by omega, fun _ => by simp only; omega⟩
  · simp [Value.cells] at hcs
    obtain ⟨rfl, rfl, rfl⟩ := hcs
    have hlz : n0 ≤ zs.length := by rw [hz]; split <;> omega
    refine ⟨_, _, _, fun i => zs.getD i 0, rfl, by omega, fun h0 => ?_, fun j => ?_⟩
    · obtain ⟨b, off, rfl, hc⟩ := ints_at hcell (by omega)
      exact ⟨b, off, rfl, fun i hi => hc i (by omega)⟩
    · by_cases hj : j < zs.length
      · have hmem : zs.getD j 0 ∈ zs := by
          rw [List.getD, List.getElem?_eq_getElem hj]
          exact List.getElem_mem _
        have hb := bounds_i16 (hwz _ hmem)
        show -32768 ≤ zs.getD j 0 ∧ zs.getD j 0 ≤ 32768
        omega
      · have : zs.getD j 0 = 0 := by rw [List.getD, List.getElem?_eq_none (by omega)]; rfl
        show -32768 ≤ zs.getD j 0 ∧ zs.getD j 0 ≤ 32768
        rw [this]; omega
end
theorem cardPairs (a b c d q : Int) (w : World) (ht : Tab w) (ha : (Lit.int .u64 a).wf = true) (hb : (Lit.int .u64 b).wf = true) (hc : (Lit.int .u64 c).wf = true) (hd : (Lit.int .u64 d).wf = true) :
    Calls Tryd.prog 3 #[.int .u64 a, .int .u64 b, .int .u64 c, .int .u64 d, .int .i64 q] w fun e w' => e = .returned (.bool true) ∧ Gr w w' := by
  obtain ⟨a', rfl, la⟩ := u64_of ha
  obtain ⟨b', rfl, lb⟩ := u64_of hb
  obtain ⟨c', rfl, lc⟩ := u64_of hc
  obtain ⟨d', rfl, ld⟩ := u64_of hd
  exact walkPairs a' b' c' d' q w ht la lb
theorem cardTurns (a b m n : Int) (w : World) (ht : Tab w) (ha : (Lit.int .u64 a).wf = true) (hb : (Lit.int .u64 b).wf = true) :
    Calls Tryd.prog 5 #[.int .u64 a, .int .u64 b, .int .i64 m, .int .i64 n] w fun e w' => e = .returned (.bool true) ∧ Gr w w' := by
  obtain ⟨a', rfl, la⟩ := u64_of ha
  obtain ⟨b', rfl, lb⟩ := u64_of hb
  exact walkTurns a' b' m n w ht la lb
theorem cardWhole (A1 A2 : Option Addr) (n m c1 c2 : Nat) (x y : Nat → Int) (q : Int) (w : World) (ht : Tab w) (h1 : HsAt w A1 n x) (h2 : HsAt w A2 m y) (hn : n ≤ maxLen) (hm : m ≤ maxLen)
    (hx : ∀ j : Nat, -32768 ≤ x j ∧ x j ≤ 32768) (hy : ∀ j : Nat, -32768 ≤ y j ∧ y j ≤ 32768) :
    Calls Tryd.prog 6 #[.slice A1 n c1, .slice A2 m c2, .int .i64 q] w fun e w' => e = .returned (.bool true) ∧ Gr w w' := by
  by_cases h : 200 < n ∨ 200 < m ∨ n % 4 ≠ 0
  · exact walkWhole_none A1 A2 n m c1 c2 q w ht hn hm h
  · exact walkWhole_some A1 A2 n m c1 c2 x y q w ht h1 h2 (by omega) (by omega) (by omega) hx hy
end Go.Proofs.YtoglkgagdilfjaaDoor
