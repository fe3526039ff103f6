/- What comes in, read as lists; what the listed variables give. -/
import Derived.Test.YtegbenbhiadnbaaDoorKey
import Derived.Test.YtegbenbhiadnbaaDoorParts
import Derived.Test.YtegbenbhiadnbaaDoorRows
import Derived.ChangeSame
import Derived.WideShapes
import Derived.ProofKit
import Derived.LaidMore
import Derived.LaidSub
import Derived.Lay
import Derived.OpenShut
import Derived.Lib.LaidTab
import Derived.Lib.SmallJoins
import Derived.Deep.Slices
import Derived.Deep.Strs
namespace Go.Proofs.YtegbenbhiadnbaaDoor
open Go.RowKit
set_option maxRecDepth 100000

theorem laid_one {P : Program} {W : World} {L : List (String × DataW Unit)} (name : String) (d : DataW Unit) (hf : (L.filter fun x => x.1 == name) = [(name, d)]) (hp : ([(name, d)].all fun x => x.2.handleName?.isNone) = true) (h : laidMetH P L W) : laidMet P [(name, d)] W := by
  have h1 := h.filter (fun x => x.1 == name)
  rw [hf, MakeChecks.laidMetH_plain _ _ _ hp] at h1
  exact h1
theorem kn_of {W : World} (hu : laidMet Tryd.prog [("internal/strconv.uint64pow10", Lib.tabData .u64 Lib.pow10Tab)] W) : Kn W :=
  Lib.tabIs_of_head (rest := []) (show Tryd.prog.globalNamed "internal/strconv.uint64pow10" = some 3 by kernel_rfl) (t := 131) (e := 92) (n := 20) (by kernel_rfl) Tryd.underlying131 Tryd.underlying92 (by kernel_rfl) (by kernel_rfl) hu

theorem addr_plain {W : World} {a : Addr} {v : Value} (h : W.cell? (a.add 0) = some v) : ∃ b o, a = ⟨b, o, none⟩ := by
  obtain ⟨b, o, s⟩ := a
  have hs : s = none := by simpa [Addr.add] using World.cell?_spot h
  exact ⟨b, o, by rw [hs]⟩
section
variable {H : Type} {enc : TypeId × Value → H} {W : World} {base : Nat} {sp : Nat → Bool} {held : Bool}
/-- a list that a function of the place gives -/
theorem list_of {α : Type} (n : Nat) (p : Nat → α → Prop) (h : ∀ i, i < n → ∃ a, p i a) : ∃ l : List α, l.length = n ∧ ∀ i a, l[i]? = some a → p i a := by
  induction n with
  | zero => exact ⟨[], rfl, fun i a h => by simp at h⟩
  | succ n ih =>
    obtain ⟨l, hl, hp⟩ := ih fun i hi => h i (by omega)
    obtain ⟨a, ha⟩ := h n (by omega)
    refine ⟨l ++ [a], by simp [hl], fun i b hb => ?_⟩
    by_cases hi : i < n
    · rw [List.getElem?_append_left (by omega)] at hb; exact hp i b hb
    · have : i < (l ++ [a]).length := (List.getElem?_eq_some_iff.1 hb).1
      simp at this
      obtain rfl : i = n := by omega
      rw [List.getElem?_append_right (by omega), hl] at hb
      simp at hb; subst hb; exact ha
/-- labels that came in -/
theorem open_labs {v : Value} {d : DataW H} {p : List MemPlace} (h : DataW.Trod enc Tryd.prog W base sp held 22 v d p) (hv : ∃ a n c, v = .slice a n c) :
    ∃ A n c, v = .slice A n c ∧ n ≤ c ∧ c ≤ maxLen ∧ (n ≤ 80 → ∃ l : List Lb, l.length = n ∧ LabsAt W A l ∧ Wd l) := by
  obtain ⟨fuel, hf⟩ := h
  obtain ⟨a0, n0, c0, rfl⟩ := hv
  rcases Go.Deep.open_slice Tryd.underlying22 hf with ⟨hcs, _⟩ | ⟨a, len, cap, m, n, D, Pl, hcs, _, hl, hm, hmm, _, hi⟩
  · simp [Value.cells] at hcs
    obtain ⟨rfl, rfl, rfl⟩ := hcs
    exact ⟨none, 0, 0, rfl, Nat.le_refl _, Nat.zero_le _, fun _ => ⟨[], rfl, LabsAt.none_ _ _, fun x hx => by simp at hx⟩⟩
  · simp [Value.cells] at hcs
    obtain ⟨rfl, rfl, rfl⟩ := hcs
    refine ⟨_, _, _, rfl, hl, hm, fun h80 => ?_⟩
    have hC : Tryd.prog.cellsOf 48 = 2 := by kernel_rfl
    have hC9 : Tryd.prog.cellsOf 9 = 1 := by kernel_rfl
    have hlm : n0 ≤ m := by rw [hmm]; split <;> omega
    have key : ∀ i, i < n0 → ∃ x : Lb, W.cell? (a.add (i * 2)) = some (.string x.1) ∧ W.cell? ((a.add (i * 2)).add 1) = some (.string x.2) ∧ x.1.size ≤ maxLen ∧ x.2.size ≤ maxLen := by
      intro i hin
      obtain ⟨cs', hc, ht⟩ := hi i (by omega)
      rw [hC] at hc
      obtain ⟨_, hlen, hat⟩ := World.cells?_some hc
      obtain ⟨ys, n2, _, _, _, _, hfl⟩ := DataW.trod_struct Tryd.underlying48 ht
      match cs', hlen with
      | [u0, u1], _ =>
        have q0 := hfl 0 _ rfl
        have q1 := hfl 1 _ rfl
        have hy : ys.length = 2 := by assumption
        match ys, hy with
        | [y0, y1], _ =>
          obtain ⟨s0, e0, _, g0⟩ := DataW.trod_string Tryd.underlying9 q0
          obtain ⟨s1, e1, _, g1⟩ := DataW.trod_string Tryd.underlying9 q1
          change List.take (Tryd.prog.cellsOf 9) (List.drop 0 [u0, u1]) = _ at e0
          change List.take (Tryd.prog.cellsOf 9) (List.drop 1 [u0, u1]) = _ at e1
          rw [hC9] at e0 e1
          obtain rfl : u0 = .string s0 := by simpa using e0
          obtain rfl : u1 = .string s1 := by simpa using e1
          have h0 := hat 0 (by omega)
          have h1 := hat 1 (by omega)
          rw [show (a.add (i * 2)).add 0 = a.add (i * 2) by unfold Addr.add; simp] at h0
          exact ⟨(s0, s1), h0, h1, g0, g1⟩
    obtain ⟨l, hll, hp⟩ := list_of n0 _ key
    refine ⟨l, hll, fun h0 => ?_, fun x hx => ?_⟩
    · have hx0 := (hp 0 _ (List.getElem?_eq_getElem h0)).1
      rw [Nat.zero_mul] at hx0
      obtain ⟨b, o, rfl⟩ := addr_plain hx0
      refine ⟨b, o, rfl, fun i x hx => ?_⟩
      obtain ⟨c1, c2, _⟩ := hp i x hx
      have hadd : ∀ b o j, (⟨b, o, none⟩ : Addr).add j = ⟨b, o + j, none⟩ := fun b o j => by unfold Addr.add; split <;> simp_all
      rw [hadd] at c1
      rw [hadd, hadd] at c2
      exact ⟨c1, c2⟩
    · obtain ⟨i, hi', rfl⟩ := List.getElem_of_mem hx
      obtain ⟨_, _, g⟩ := hp i _ (List.getElem?_eq_getElem hi')
      exact g
/-- texts that came in -/
theorem texts_of {v : Value} {fuel : Nat} {x : DataW H × List MemPlace} (hf : DataW.trod enc Tryd.prog W base sp held fuel 23 [v] = some x) :
    ∃ A n c, v = .slice A n c ∧ n ≤ c ∧ c ≤ maxLen ∧ (∀ m, m ≤ n → m ≤ 81 → ∃ l : List ByteArray, l.length = m ∧ StrsAt W A l ∧ ∀ x ∈ l, x.size ≤ maxLen) := by
  have hC9 : Tryd.prog.cellsOf 9 = 1 := by kernel_rfl
  rcases Go.Deep.open_slice1 Tryd.underlying23 hC9 hf with ⟨hcs, _⟩ | ⟨a, len, cap, m, n, V, D, Pl, hcs, _, hl, hm, hmm, _, hi⟩
  · simp only [List.cons.injEq, and_true] at hcs
    refine ⟨none, 0, 0, hcs, Nat.le_refl _, Nat.zero_le _, fun m hm _ => ?_⟩
    obtain rfl : m = 0 := by omega
    exact ⟨[], rfl, StrsAt.none_ _ _, fun x hx => by simp at hx⟩
  · simp only [List.cons.injEq, and_true] at hcs
    refine ⟨_, _, _, hcs, hl, hm, fun k hk _ => ?_⟩
    have hlm : len ≤ m := by rw [hmm]; split <;> omega
    have key : ∀ i, i < k → ∃ x : ByteArray, W.cell? (a.add i) = some (.string x) ∧ x.size ≤ maxLen := by
      intro i hin
      obtain ⟨hc, ht⟩ := hi i (by omega)
      obtain ⟨s0, e0, _, g0⟩ := DataW.trod_string Tryd.underlying9 ht
      simp only [List.cons.injEq, and_true] at e0
      exact ⟨s0, by rw [hc, e0], g0⟩
    obtain ⟨l, hll, hp⟩ := list_of k _ key
    refine ⟨l, hll, fun h0 => ?_, fun x hx => ?_⟩
    · have hx0 := (hp 0 _ (List.getElem?_eq_getElem h0)).1
      obtain ⟨b, o, rfl⟩ := addr_plain hx0
      refine ⟨b, o, rfl, fun i x hx => ?_⟩
      have hadd : ∀ b o j, (⟨b, o, none⟩ : Addr).add j = ⟨b, o + j, none⟩ := fun b o j => by unfold Addr.add; split <;> simp_all
      have := (hp i x hx).1
      rwa [hadd] at this
    · obtain ⟨i, hi', rfl⟩ := List.getElem_of_mem hx
      exact (hp i _ (List.getElem?_eq_getElem hi')).2
theorem open_texts {v : Value} {d : DataW H} {p : List MemPlace} (h : DataW.Trod enc Tryd.prog W base sp held 23 v d p) (hv : ∃ a n c, v = .slice a n c) :
    ∃ A n c, v = .slice A n c ∧ n ≤ c ∧ c ≤ maxLen ∧ (∀ m, m ≤ n → m ≤ 81 → ∃ l : List ByteArray, l.length = m ∧ StrsAt W A l ∧ ∀ x ∈ l, x.size ≤ maxLen) := by
  obtain ⟨fuel, hf⟩ := h
  obtain ⟨a0, n0, c0, rfl⟩ := hv
  exact texts_of (v := .slice a0 n0 c0) hf
/-- a group that came in -/
theorem open_group {r : Reach} {b0 : Nat} {v : Value} {d : DataW H} {p : List MemPlace} (h : DataW.Trod enc Tryd.prog W base sp held 25 v d p) (hv : Value.okWide Tryd.prog W r b0 25 v) :
    ∃ A n c how, v = .agg #[.int .i64 how, .slice A n c] ∧ n ≤ c ∧ c ≤ maxLen ∧ (∀ m, m ≤ n → m ≤ 81 → ∃ l : List ByteArray, l.length = m ∧ StrsAt W A l ∧ ∀ x ∈ l, x.size ≤ maxLen) := by
  obtain ⟨cs, rfl, hsz⟩ := Go.WideShapes.okWide_struct Tryd.underlying25 hv
  have hC : Tryd.prog.cellsOf 25 = 2 := by kernel_rfl
  rw [hC] at hsz
  obtain ⟨fuel, hf⟩ := h
  obtain ⟨l, rfl⟩ : ∃ l : List Value, cs = l.toArray := ⟨cs.toList, by simp⟩
  match l, hsz with
  | [v0, v1], _ =>
    obtain ⟨y0, y1, n, _, _, h0, h1⟩ := Go.ChangeShapes.trod_struct2 Tryd.underlying25 hf
    obtain ⟨x, e0, _, _⟩ := DataW.trod_int Tryd.underlying3 (show DataW.trod enc Tryd.prog W base sp held n 3 [v0] = some y0 from h0)
    obtain ⟨A, m, c, e1, r1, r2, r3⟩ := texts_of (show DataW.trod enc Tryd.prog W base sp held n 23 [v1] = some y1 from h1)
    simp only [List.cons.injEq, and_true] at e0
    subst e0 e1
    exact ⟨A, m, c, x, rfl, r1, r2, r3⟩
end
end Go.Proofs.YtegbenbhiadnbaaDoor
