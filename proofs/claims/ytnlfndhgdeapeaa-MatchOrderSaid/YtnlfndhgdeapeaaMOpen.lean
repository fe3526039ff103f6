/- Matchers and labels that come in, read as lists. -/
import Derived.Test.YtnlfndhgdeapeaaOrdIn
import Derived.Test.YtnlfndhgdeapeaaRows
import Derived.ChangeSame
import Derived.WideShapes
import Derived.ProofKit
import Derived.LaidMore
import Derived.LaidSub
import Derived.Lay
import Derived.OpenShut
import Derived.Lib.LaidTab
import Derived.Lib.SmallJoins
import Derived.Deep.Slices
import Derived.Deep.Strs
namespace Go.Proofs.Ytnlfndhgdeapeaa
open Go.RowKit
set_option maxRecDepth 100000

theorem addr_plain {W : World} {a : Addr} {v : Value} (h : W.cell? (a.add 0) = some v) : ∃ b o, a = ⟨b, o, none⟩ := by
  obtain ⟨b, o, s⟩ := a
  have hs : s = none := by simpa [Addr.add] using World.cell?_spot h
  exact ⟨b, o, by rw [hs]⟩
section
variable {H : Type} {enc : TypeId × Value → H} {W : World} {base : Nat} {sp : Nat → Bool} {held : Bool}
/-- a list that a function of the place gives -/
theorem list_of {α : Type} (n : Nat) (p : Nat → α → Prop) (h : ∀ i, i < n → ∃ a, p i a) : ∃ l : List α, l.length = n ∧ ∀ i a, l[i]? = some a → p i a := by
  induction n with
  | zero => exact ⟨[], rfl, fun i a h => by simp at h⟩
  | succ n ih =>
    obtain ⟨l, hl, hp⟩ := ih fun i hi => h i (by omega)
    obtain ⟨a, ha⟩ := h n (by omega)
    refine ⟨l ++ [a], by simp [hl], fun i b hb => ?_⟩
    by_cases hi : i < n
    · rw [List.getElem?_append_left (by omega)] at hb; exact hp i b hb
    · have : i < (l ++ [a]).length := (List.getElem?_eq_some_iff.1 hb).1
      simp at this
      obtain rfl : i = n := by omega
      rw [List.getElem?_append_right (by omega), hl] at hb
      simp at hb; subst hb; exact ha
/-- labels that came in -/
theorem open_labs {v : Value} {d : DataW H} {p : List MemPlace} (h : DataW.Trod enc Try.prog W base sp held 39 v d p) (hv : ∃ a n c, v = .slice a n c) :
    ∃ A n c, v = .slice A n c ∧ n ≤ c ∧ c ≤ maxLen ∧ (n ≤ 80 → ∃ l : List Lb, l.length = n ∧ LabsAt W A l ∧ Wd l) := by
  obtain ⟨fuel, hf⟩ := h
  obtain ⟨a0, n0, c0, rfl⟩ := hv
  rcases Go.Deep.open_slice Try.underlying39 hf with ⟨hcs, _⟩ | ⟨a, len, cap, m, n, D, Pl, hcs, _, hl, hm, hmm, _, hi⟩
  · simp [Value.cells] at hcs
    obtain ⟨rfl, rfl, rfl⟩ := hcs
    exact ⟨none, 0, 0, rfl, Nat.le_refl _, Nat.zero_le _, fun _ => ⟨[], rfl, LabsAt.none_ _ _, fun x hx => by simp at hx⟩⟩
  · simp [Value.cells] at hcs
    obtain ⟨rfl, rfl, rfl⟩ := hcs
    refine ⟨_, _, _, rfl, hl, hm, fun h80 => ?_⟩
    have hC : Try.prog.cellsOf 81 = 2 := by kernel_rfl
    have hC9 : Try.prog.cellsOf 9 = 1 := by kernel_rfl
    have hlm : n0 ≤ m := by rw [hmm]; split <;> omega
    have key : ∀ i, i < n0 → ∃ x : Lb, W.cell? (a.add (i * 2)) = some (.string x.1) ∧ W.cell? ((a.add (i * 2)).add 1) = some (.string x.2) ∧ x.1.size ≤ maxLen ∧ x.2.size ≤ maxLen := by
      intro i hin
      obtain ⟨cs', hc, ht⟩ := hi i (by omega)
      rw [hC] at hc
      obtain ⟨_, hlen, hat⟩ := World.cells?_some hc
      obtain ⟨ys, n2, _, _, _, _, hfl⟩ := DataW.trod_struct Try.underlying81 ht
      match cs', hlen with
      | [u0, u1], _ =>
        have q0 := hfl 0 _ rfl
        have q1 := hfl 1 _ rfl
        have hy : ys.length = 2 := by assumption
        match ys, hy with
        | [y0, y1], _ =>
          obtain ⟨s0, e0, _, g0⟩ := DataW.trod_string Try.underlying9 q0
          obtain ⟨s1, e1, _, g1⟩ := DataW.trod_string Try.underlying9 q1
          change List.take (Try.prog.cellsOf 9) (List.drop 0 [u0, u1]) = _ at e0
          change List.take (Try.prog.cellsOf 9) (List.drop 1 [u0, u1]) = _ at e1
          rw [hC9] at e0 e1
          obtain rfl : u0 = .string s0 := by simpa using e0
          obtain rfl : u1 = .string s1 := by simpa using e1
          have h0 := hat 0 (by omega)
          have h1 := hat 1 (by omega)
          rw [show (a.add (i * 2)).add 0 = a.add (i * 2) by unfold Addr.add; simp] at h0
          exact ⟨(s0, s1), h0, h1, g0, g1⟩
    obtain ⟨l, hll, hp⟩ := list_of n0 _ key
    refine ⟨l, hll, fun h0 => ?_, fun x hx => ?_⟩
    · have hx0 := (hp 0 _ (List.getElem?_eq_getElem h0)).1
      rw [Nat.zero_mul] at hx0
      obtain ⟨b, o, rfl⟩ := addr_plain hx0
      refine ⟨b, o, rfl, fun i x hx => ?_⟩
      obtain ⟨c1, c2, _⟩ := hp i x hx
      have hadd : ∀ b o j, (⟨b, o, none⟩ : Addr).add j = ⟨b, o + j, none⟩ := fun b o j => by unfold Addr.add; split <;> simp_all
      rw [hadd] at c1
      rw [hadd, hadd] at c2
      exact ⟨c1, c2⟩
    · obtain ⟨i, hi', rfl⟩ := List.getElem_of_mem hx
      obtain ⟨_, _, g⟩ := hp i _ (List.getElem?_eq_getElem hi')
      exact g
/-- matchers that came in -/
theorem open_mats {v : Value} {d : DataW H} {p : List MemPlace} (h : DataW.Trod enc Try.prog W base sp held 35 v d p) (hv : ∃ a n c, v = .slice a n c) :
    ∃ A n c, v = .slice A n c ∧ n ≤ c ∧ c ≤ maxLen ∧ ∃ l : List Mt, l.length = n ∧ MatsAt W A l ∧ Wm l := by
  obtain ⟨fuel, hf⟩ := h
  obtain ⟨a0, n0, c0, rfl⟩ := hv
  rcases Go.Deep.open_slice Try.underlying35 hf with ⟨hcs, _⟩ | ⟨a, len, cap, m, n, D, Pl, hcs, _, hl, hm, hmm, _, hi⟩
  · simp [Value.cells] at hcs
    obtain ⟨rfl, rfl, rfl⟩ := hcs
    exact ⟨none, 0, 0, rfl, Nat.le_refl _, Nat.zero_le _, [], rfl, fun h => absurd h (by simp), fun x hx => by simp at hx⟩
  · simp [Value.cells] at hcs
    obtain ⟨rfl, rfl, rfl⟩ := hcs
    refine ⟨_, _, _, rfl, hl, hm, ?_⟩
    have hC : Try.prog.cellsOf 33 = 3 := by kernel_rfl
    have hCi : Try.prog.cellsOf 3 = 1 := by kernel_rfl
    have hC9 : Try.prog.cellsOf 9 = 1 := by kernel_rfl
    have hlm : n0 ≤ m := by rw [hmm]; split <;> omega
    have key : ∀ i, i < n0 → ∃ x : Mt, W.cell? (a.add (i * 3)) = some (.int .i64 x.k) ∧ W.cell? ((a.add (i * 3)).add 1) = some (.string x.n) ∧ W.cell? ((a.add (i * 3)).add 2) = some (.string x.v) ∧ x.n.size ≤ maxLen ∧ x.v.size ≤ maxLen := by
      intro i hin
      obtain ⟨cs', hc, ht⟩ := hi i (by omega)
      rw [hC] at hc
      obtain ⟨_, hlen, hat⟩ := World.cells?_some hc
      obtain ⟨ys, n2, _, _, _, _, hfl⟩ := DataW.trod_struct Try.underlying33 ht
      match cs', hlen with
      | [u0, u1, u2], _ =>
        have q0 := hfl 0 _ rfl
        have q1 := hfl 1 _ rfl
        have q2 := hfl 2 _ rfl
        have hy : ys.length = 3 := by assumption
        match ys, hy with
        | [y0, y1, y2], _ =>
          obtain ⟨s0, e0, _, g0⟩ := DataW.trod_int Try.underlying3 q0
          obtain ⟨s1, e1, _, g1⟩ := DataW.trod_string Try.underlying9 q1
          obtain ⟨s2, e2, _, g2⟩ := DataW.trod_string Try.underlying9 q2
          change List.take (Try.prog.cellsOf 3) (List.drop 0 [u0, u1, u2]) = _ at e0
          change List.take (Try.prog.cellsOf 9) (List.drop 1 [u0, u1, u2]) = _ at e1
          change List.take (Try.prog.cellsOf 9) (List.drop 2 [u0, u1, u2]) = _ at e2
          rw [hCi] at e0
          rw [hC9] at e1 e2
          obtain rfl : u0 = .int .i64 s0 := by simpa using e0
          obtain rfl : u1 = .string s1 := by simpa using e1
          obtain rfl : u2 = .string s2 := by simpa using e2
          have h0 := hat 0 (by omega)
          have h1 := hat 1 (by omega)
          have h2 := hat 2 (by omega)
          rw [show (a.add (i * 3)).add 0 = a.add (i * 3) by unfold Addr.add; simp] at h0
          exact ⟨⟨s0, s1, s2⟩, h0, h1, h2, g1, g2⟩
    obtain ⟨l, hll, hp⟩ := list_of n0 _ key
    refine ⟨l, hll, fun h0 => ?_, fun x hx => ?_⟩
    · have hx0 := (hp 0 _ (List.getElem?_eq_getElem h0)).1
      rw [Nat.zero_mul] at hx0
      obtain ⟨b, o, rfl⟩ := addr_plain hx0
      refine ⟨b, o, rfl, fun i x hx => ?_⟩
      obtain ⟨c1, c2, c3, _⟩ := hp i x hx
      have hadd : ∀ b o j, (⟨b, o, none⟩ : Addr).add j = ⟨b, o + j, none⟩ := fun b o j => by unfold Addr.add; split <;> simp_all
      rw [hadd] at c1
      rw [hadd, hadd] at c2 c3
      exact ⟨c1, c2, c3⟩
    · obtain ⟨i, hi', rfl⟩ := List.getElem_of_mem hx
      obtain ⟨_, _, _, g⟩ := hp i _ (List.getElem?_eq_getElem hi')
      exact g
end
theorem lawOrd_of (A : Option Addr) (m c : Nat) (xk : Int) (xn xv : ByteArray) (B : Option Addr) (n d : Nat) (w : World) (o : ∃ l : List Mt, l.length = m ∧ MatsAt w A l ∧ Wm l) (hlc : m ≤ c) (hcm : c ≤ maxLen) (h1 : xn.size ≤ maxLen) (h2 : xv.size ≤ maxLen) (hn : n ≤ maxLen) (hB : n ≤ 80 → ∃ s : List Lb, s.length = n ∧ LabsAt w B s ∧ Wd s) :
    Calls Try.prog 5 #[.slice A m c, .agg #[.int .i64 xk, .string xn, .string xv], .slice B n d] w fun e w' => e = .returned (.bool true) ∧ Gr w w' := by
  obtain ⟨l, rfl, hl, hw⟩ := o
  exact lawOrd_any A l c xk xn xv B n d w hl hw hlc hcm (fun x hx => by simp at hx; subst hx; exact ⟨h1, h2⟩) hn hB
end Go.Proofs.Ytnlfndhgdeapeaa
