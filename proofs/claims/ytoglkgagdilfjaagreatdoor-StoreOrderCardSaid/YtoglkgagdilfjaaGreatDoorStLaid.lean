/- Samples that came in, read as a list; what the listed variables give. -/
import Derived.Test.YtoglkgagdilfjaaGreatDoorOfS
import Derived.Test.YtoglkgagdilfjaaGreatDoorRows
import Derived.ChangeSame
import Derived.WideShapes
import Derived.ProofKit
import Derived.LaidMore
import Derived.LaidSub
import Derived.Lay
import Derived.OpenShut
import Derived.Lib.LaidTab
import Derived.Lib.SmallJoins
import Derived.Deep.Slices
import Derived.Deep.Strs
namespace Go.Proofs.YtoglkgagdilfjaaGreatDoor
open Go.RowKit
set_option maxRecDepth 100000

theorem laid_one {P : Program} {W : World} {L : List (String × DataW Unit)} (name : String) (d : DataW Unit) (hf : (L.filter fun x => x.1 == name) = [(name, d)]) (hp : ([(name, d)].all fun x => x.2.handleName?.isNone) = true) (h : laidMetH P L W) : laidMet P [(name, d)] W := by
  have h1 := h.filter (fun x => x.1 == name)
  rw [hf, MakeChecks.laidMetH_plain _ _ _ hp] at h1
  exact h1
theorem kn_of {W : World} (hu : laidMet Tryz.prog [("internal/strconv.uint64pow10", Lib.tabData .u64 Lib.pow10Tab)] W) : Kn W :=
  Lib.tabIs_of_head (rest := []) (show Tryz.prog.globalNamed "internal/strconv.uint64pow10" = some 2 by kernel_rfl) (t := 281) (e := 132) (n := 20) (by kernel_rfl) Tryz.underlying281 Tryz.underlying132 (by kernel_rfl) (by kernel_rfl) hu
theorem tab_of {W : World} (hb : laidMet Tryz.prog [("isobar/fval.bits", Lib.tabData .u64 [9221120237041090561, 9218868437227405314, 9218868437227405312, 9223372036854775808])] W) : Tab W := by
  have gB : Tryz.prog.globalNamed "isobar/fval.bits" = some 0 := by kernel_rfl
  have tB := Lib.tabIs_of_head (rest := []) gB (t := 159) (e := 132) (n := 4) (by kernel_rfl) Tryz.underlying159 Tryz.underlying132 (by kernel_rfl) (by kernel_rfl) hb
  exact ⟨tB.cell gB 0 (by decide), tB.cell gB 1 (by decide), tB.cell gB 2 (by decide), tB.cell gB 3 (by decide)⟩
theorem addr_plain {W : World} {a : Addr} {v : Value} (h : W.cell? (a.add 0) = some v) : ∃ b o, a = ⟨b, o, none⟩ := by
  obtain ⟨b, o, s⟩ := a
  have hs : s = none := by simpa [Addr.add] using World.cell?_spot h
  exact ⟨b, o, by rw [hs]⟩
theorem add_flat (b o j : Nat) : (⟨b, o, none⟩ : Addr).add j = ⟨b, o + j, none⟩ := by unfold Addr.add; split <;> simp_all
section
variable {H : Type} {enc : TypeId × Value → H} {W : World} {base : Nat} {sp : Nat → Bool} {held : Bool}
/-- a list that a function of the place gives -/
theorem list_of {α : Type} (n : Nat) (p : Nat → α → Prop) (h : ∀ i, i < n → ∃ a, p i a) : ∃ l : List α, l.length = n ∧ ∀ i a, l[i]? = some a → p i a := by
  induction n with
  | zero => exact ⟨[], rfl, fun i a h => by simp at h⟩
  | succ n ih =>
    obtain ⟨l, hl, hp⟩ := ih fun i hi => h i (by omega)
    obtain ⟨a, ha⟩ := h n (by omega)
    refine ⟨l ++ [a], by simp [hl], fun i b hb => ?_⟩
    by_cases hi : i < n
    · rw [List.getElem?_append_left (by omega)] at hb; exact hp i b hb
    · have : i < (l ++ [a]).length := (List.getElem?_eq_some_iff.1 hb).1
      simp at this
      obtain rfl : i = n := by omega
      rw [List.getElem?_append_right (by omega), hl] at hb
      simp at hb; subst hb; exact ha
/-- labels that came in, within something else -/
theorem labs_of {v : Value} {fuel : Nat} {x : DataW H × List MemPlace} (hf : DataW.trod enc Tryz.prog W base sp held fuel 35 [v] = some x) :
    ∃ A c, ∃ l : List Lb, v = .slice A l.length c ∧ l.length ≤ c ∧ c ≤ maxLen ∧ LabsAt W A l ∧ Wd l := by
  rcases Go.Deep.open_slice Tryz.underlying35 hf with ⟨hcs, _⟩ | ⟨a, len, cap, m, n, D, Pl, hcs, _, hl, hm, hmm, _, hi⟩
  · simp only [List.cons.injEq, and_true] at hcs
    exact ⟨none, 0, [], hcs, Nat.le_refl _, Nat.zero_le _, LabsAt.none_ _ _, fun x hx => by simp at hx⟩
  · simp only [List.cons.injEq, and_true] at hcs
    have hC : Tryz.prog.cellsOf 76 = 2 := by kernel_rfl
    have hC9 : Tryz.prog.cellsOf 9 = 1 := by kernel_rfl
    have hlm : len ≤ m := by rw [hmm]; split <;> omega
    have key : ∀ i, i < len → ∃ x : Lb, W.cell? (a.add (i * 2)) = some (.string x.1) ∧ W.cell? ((a.add (i * 2)).add 1) = some (.string x.2) ∧ x.1.size ≤ maxLen ∧ x.2.size ≤ maxLen := by
      intro i hin
      obtain ⟨cs', hc, ht⟩ := hi i (by omega)
      rw [hC] at hc
      obtain ⟨_, hlen, hat⟩ := World.cells?_some hc
      obtain ⟨ys, n2, _, _, _, _, hfl⟩ := DataW.trod_struct Tryz.underlying76 ht
      match cs', hlen with
      | [u0, u1], _ =>
        have q0 := hfl 0 _ rfl
        have q1 := hfl 1 _ rfl
        have hy : ys.length = 2 := by assumption
        match ys, hy with
        | [y0, y1], _ =>
          obtain ⟨s0, e0, _, g0⟩ := DataW.trod_string Tryz.underlying9 q0
          obtain ⟨s1, e1, _, g1⟩ := DataW.trod_string Tryz.underlying9 q1
          change List.take (Tryz.prog.cellsOf 9) (List.drop 0 [u0, u1]) = _ at e0
          change List.take (Tryz.prog.cellsOf 9) (List.drop 1 [u0, u1]) = _ at e1
          rw [hC9] at e0 e1
          obtain rfl : u0 = .string s0 := by simpa using e0
          obtain rfl : u1 = .string s1 := by simpa using e1
          have h0 := hat 0 (by omega)
          have h1 := hat 1 (by omega)
          rw [show (a.add (i * 2)).add 0 = a.add (i * 2) by unfold Addr.add; simp] at h0
          exact ⟨(s0, s1), h0, h1, g0, g1⟩
    obtain ⟨l, hll, hp⟩ := list_of len _ key
    refine ⟨some a, cap, l, by rw [hcs, hll], by omega, hm, fun h0 => ?_, fun x hx => ?_⟩
    · have hx0 := (hp 0 _ (List.getElem?_eq_getElem h0)).1
      rw [Nat.zero_mul] at hx0
      obtain ⟨b, o, rfl⟩ := addr_plain hx0
      refine ⟨b, o, rfl, fun i x hx => ?_⟩
      obtain ⟨c1, c2, _⟩ := hp i x hx
      rw [add_flat] at c1
      rw [add_flat, add_flat] at c2
      exact ⟨c1, c2⟩
    · obtain ⟨i, hi', rfl⟩ := List.getElem_of_mem hx
      obtain ⟨_, _, g⟩ := hp i _ (List.getElem?_eq_getElem hi')
      exact g
/-- samples that came in -/
theorem open_raws {v : Value} {d : DataW H} {p : List MemPlace} (h : DataW.Trod enc Tryz.prog W base sp held 22 v d p) (hv : ∃ a n c, v = .slice a n c) :
    ∃ A c, ∃ l : List Rwm, v = .slice A l.length c ∧ l.length ≤ c ∧ l.length ≤ maxLen ∧ RawsAt W A l ∧ WdR l ∧ ∀ r ∈ l, r.l.length ≤ maxLen := by
  obtain ⟨fuel, hf⟩ := h
  obtain ⟨a0, n0, c0, rfl⟩ := hv
  rcases Go.Deep.open_slice Tryz.underlying22 hf with ⟨hcs, _⟩ | ⟨a, len, cap, m, n, D, Pl, hcs, _, hl, hm, hmm, _, hi⟩
  · simp [Value.cells] at hcs
    obtain ⟨rfl, rfl, rfl⟩ := hcs
    exact ⟨none, 0, [], rfl, Nat.le_refl _, Nat.zero_le _, fun h => by simp at h, fun x hx => by simp at hx, fun x hx => by simp at hx⟩
  · simp [Value.cells] at hcs
    obtain ⟨rfl, rfl, rfl⟩ := hcs
    have hC : Tryz.prog.cellsOf 38 = 3 := by kernel_rfl
    have hC1 : Tryz.prog.cellsOf 35 = 1 := by kernel_rfl
    have hC2 : Tryz.prog.cellsOf 3 = 1 := by kernel_rfl
    have hC3 : Tryz.prog.cellsOf 36 = 1 := by kernel_rfl
    have hlm : n0 ≤ m := by rw [hmm]; split <;> omega
    have key : ∀ i, i < n0 → ∃ x : Rwm, (∃ LA lc, W.cell? (a.add (i * 3)) = some (.slice LA x.l.length lc) ∧ LabsAt W LA x.l) ∧ W.cell? ((a.add (i * 3)).add 1) = some (.int .i64 x.t) ∧ W.cell? ((a.add (i * 3)).add 2) = some (.float .f64 x.v) ∧ Wd x.l ∧ x.l.length ≤ maxLen := by
      intro i hin
      obtain ⟨cs', hc, ht⟩ := hi i (by omega)
      rw [hC] at hc
      obtain ⟨_, hlen, hat⟩ := World.cells?_some hc
      obtain ⟨ys, n2, _, _, _, _, hfl⟩ := DataW.trod_struct Tryz.underlying38 ht
      match cs', hlen with
      | [u0, u1, u2], _ =>
        have q0 := hfl 0 _ rfl
        have q1 := hfl 1 _ rfl
        have q2 := hfl 2 _ rfl
        have hy : ys.length = 3 := by assumption
        match ys, hy with
        | [y0, y1, y2], _ =>
          change DataW.trod enc Tryz.prog W base sp held n2 35 (List.take (Tryz.prog.cellsOf 35) (List.drop 0 [u0, u1, u2])) = some y0 at q0
          rw [hC1] at q0
          obtain ⟨LA, lc, ll, rfl, f1, f2, f3, f4⟩ := labs_of (v := u0) q0
          obtain ⟨t0, e1, _, _⟩ := DataW.trod_int Tryz.underlying3 q1
          change List.take (Tryz.prog.cellsOf 3) (List.drop 1 [.slice LA ll.length lc, u1, u2]) = _ at e1
          rw [hC2] at e1
          obtain rfl : u1 = .int .i64 t0 := by simpa using e1
          change DataW.trod enc Tryz.prog W base sp held n2 36 (List.take (Tryz.prog.cellsOf 36) (List.drop 2 [.slice LA ll.length lc, .int .i64 t0, u2])) = some y2 at q2
          rw [hC3] at q2
          have e2 : ∃ b, u2 = .float .f64 b := by
            change DataW.trod enc Tryz.prog W base sp held n2 36 [u2] = some y2 at q2
            cases n2 with
            | zero => simp [DataW.trod] at q2
            | succ n2 =>
              unfold DataW.trod at q2
              rw [Tryz.underlying36] at q2
              split at q2 <;> simp_all
          obtain ⟨b0, rfl⟩ := e2
          have h0 := hat 0 (by omega)
          have h1 := hat 1 (by omega)
          have h2 := hat 2 (by omega)
          rw [show (a.add (i * 3)).add 0 = a.add (i * 3) by unfold Addr.add; simp] at h0
          exact ⟨⟨ll, t0, b0⟩, ⟨LA, lc, h0, f3⟩, h1, h2, f4, Nat.le_trans f1 f2⟩
    obtain ⟨l, hll, hp⟩ := list_of n0 _ key
    refine ⟨some a, c0, l, by rw [hll], by omega, by omega, fun h0 => ?_, fun x hx => ?_, fun x hx => ?_⟩
    · obtain ⟨⟨LA, lc, hx0, -⟩, -⟩ := hp 0 _ (List.getElem?_eq_getElem h0)
      rw [Nat.zero_mul] at hx0
      obtain ⟨b, o, rfl⟩ := addr_plain hx0
      refine ⟨b, o, rfl, fun i x hx => ?_⟩
      obtain ⟨⟨LA, lc, c1, c2⟩, c3, c4, -⟩ := hp i x hx
      rw [add_flat] at c1
      rw [add_flat, add_flat] at c3 c4
      exact ⟨LA, lc, c1, c2, c3, c4⟩
    · obtain ⟨i, hi', rfl⟩ := List.getElem_of_mem hx
      exact (hp i _ (List.getElem?_eq_getElem hi')).2.2.2.1
    · obtain ⟨i, hi', rfl⟩ := List.getElem_of_mem hx
      exact (hp i _ (List.getElem?_eq_getElem hi')).2.2.2.2
end
end Go.Proofs.YtoglkgagdilfjaaGreatDoor
