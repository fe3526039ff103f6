/- Samples that came in, read as a list; what the listed variables give. -/
import Derived.Test.YtjjfkjpkbpefpaaDoorVOut
import Derived.Test.YtjjfkjpkbpefpaaDoorRows
import Derived.ChangeSame
import Derived.WideShapes
import Derived.ProofKit
import Derived.LaidMore
import Derived.LaidSub
import Derived.Lay
import Derived.OpenShut
import Derived.Lib.LaidTab
import Derived.Lib.SmallJoins
import Derived.Deep.Slices
import Derived.Deep.Strs
namespace Go.Proofs.YtjjfkjpkbpefpaaDoor.Vn
open Go.RowKit
set_option maxRecDepth 100000

theorem laid_one {P : Program} {W : World} {L : List (String × DataW Unit)} (name : String) (d : DataW Unit) (hf : (L.filter fun x => x.1 == name) = [(name, d)]) (hp : ([(name, d)].all fun x => x.2.handleName?.isNone) = true) (h : laidMetH P L W) : laidMet P [(name, d)] W := by
  have h1 := h.filter (fun x => x.1 == name)
  rw [hf, MakeChecks.laidMetH_plain _ _ _ hp] at h1
  exact h1
/-- an element, a string and an integer, of a table of structs of these two -/
theorem laid_named {P : Program} {W : World} {name : String} {k : IntKind} {z0 : List UInt8} {z1 : Int} {d : DataW Unit} {l : List (DataW Unit)} {g t e n i : Nat} {f0 f1 : Field} (hg : P.globalNamed name = some g) (hty : (P.globals[g]?).map (·.type) = some t)
    (ht : P.underlying t = some (.array n e)) (he : P.underlying e = some (.struct #[f0, f1])) (hce : P.cellsOf e = 2) (h0 : P.underlying f0.type = some .string) (h1 : P.underlying f1.type = some (.int k)) (o0 : f0.offset = 0) (o1 : f1.offset = 1) (c0 : P.cellsOf f0.type = 1) (c1 : P.cellsOf f1.type = 1)
    (hl : d = .agg l) (hi : l[i]? = some (.agg [.lit (.string z0), .lit (.int k z1)])) (hin : i < n)
    (h : laidMet P [(name, d)] W) : W.cell? ⟨g, i * 2, none⟩ = some (.string ⟨z0.toArray⟩) ∧ W.cell? ⟨g, i * 2 + 1, none⟩ = some (.int k z1) := by
  obtain ⟨ps, ⟨g', t', cs, fuel, p, q, hg', ht', hvar, hd, _, _⟩, _⟩ := h
  obtain rfl := Option.some.inj (hg.symm.trans hg')
  obtain rfl := Option.some.inj (hty.symm.trans ht')
  obtain ⟨xs, m, _, ex, _, hn, hel⟩ := DataW.trod_array ht hd
  have hx := hel i hin
  have e1 : l = xs.map (·.1) := by
    have := congrArg Prod.fst ex
    rw [hl] at this
    simpa using this
  have hxi : i < xs.length := by omega
  rw [List.getElem?_eq_getElem hxi, hce] at hx
  have e2 : (xs[i]).1 = .agg [.lit (.string z0), .lit (.int k z1)] := by
    rw [e1, List.getElem?_map, List.getElem?_eq_getElem hxi] at hi
    simpa using hi
  obtain ⟨ys, m2, _, ey, _, hn2, hf⟩ := DataW.trod_struct he hx
  match ys, hn2 with
  | [y0, y1], _ =>
    have q0 := hf 0 f0 rfl
    have q1 := hf 1 f1 rfl
    rw [o0, c0] at q0
    rw [o1, c1] at q1
    obtain ⟨a0, u0, v0, _⟩ := DataW.trod_string h0 q0
    obtain ⟨a1, u1, v1, _⟩ := DataW.trod_int h1 q1
    have e3 := congrArg Prod.fst ey
    rw [e2] at e3
    simp only [List.map_cons, List.map_nil, DataW.agg.injEq, List.cons.injEq, and_true] at e3
    have z0e : a0 = ⟨z0.toArray⟩ := by
      have := e3.1; rw [v0] at this
      simp only [DataW.lit.injEq, Lit.string.injEq] at this
      apply ByteArray.ext
      rw [this]
    have z1e : a1 = z1 := by
      have := e3.2; rw [v1] at this
      simp only [DataW.lit.injEq, Lit.int.injEq, true_and] at this; exact this.symm
    have hv0 := World.var?_cell hg hvar (i * 2)
    have hv1 := World.var?_cell hg hvar (i * 2 + 1)
    refine ⟨?_, ?_⟩
    · have : (((cs.toList.drop (i * 2)).take 2).drop 0 |>.take 1)[0]? = some (.string a0) := by rw [u0]; rfl
      rw [hv0, ← z0e]
      simpa using this
    · have : (((cs.toList.drop (i * 2)).take 2).drop 1 |>.take 1)[0]? = some (.int k a1) := by rw [u1]; rfl
      rw [hv1, ← z1e]
      simpa using this

theorem tab_of {W : World} (hb : laidMet Tryd.prog [("isobar/fval.bits", Lib.tabData .u64 [9221120237041090561, 9218868437227405314, 9218868437227405312, 9223372036854775808])] W) : Tab W := by
  have gB : Tryd.prog.globalNamed "isobar/fval.bits" = some 2 := by kernel_rfl
  have tB := Lib.tabIs_of_head (rest := []) gB (t := 93) (e := 29) (n := 4) (by kernel_rfl) Tryd.underlying93 Tryd.underlying29 (by kernel_rfl) (by kernel_rfl) hb
  exact ⟨tB.cell gB 0 (by decide), tB.cell gB 1 (by decide), tB.cell gB 2 (by decide), tB.cell gB 3 (by decide)⟩
theorem ftab_of {W : World} (hs : laidMet Tryd.prog [("isobar/window.functions", Rows.laid_isobar_window_functions)] W) : FTab W := by
  have key : ∀ i z0 z1, i < 15 → (match (Rows.laid_isobar_window_functions : DataW Unit) with | .agg l => l | _ => [])[i]? = some (.agg [.lit (.string z0), .lit (.int .i64 z1)]) → W.cell? ⟨1, i * 2, none⟩ = some (.string ⟨z0.toArray⟩) ∧ W.cell? ⟨1, i * 2 + 1, none⟩ = some (.int .i64 z1) := fun i z0 z1 hi hl =>
    laid_named (g := 1) (t := 73) (e := 72) (n := 15) (by kernel_rfl) (by kernel_rfl) Tryd.underlying73 Tryd.underlying72 (by kernel_rfl) Tryd.underlying9 Tryd.underlying3 rfl rfl (by kernel_rfl) (by kernel_rfl) rfl hl hi hs
  have k0 := key 0 [] 0 (by omega) rfl
  have k1 := key 1 [99, 111, 117, 110, 116, 95, 111, 118, 101, 114, 95, 116, 105, 109, 101] 1 (by omega) rfl
  have k2 := key 2 [115, 117, 109, 95, 111, 118, 101, 114, 95, 116, 105, 109, 101] 1 (by omega) rfl
  have k3 := key 3 [97, 118, 103, 95, 111, 118, 101, 114, 95, 116, 105, 109, 101] 1 (by omega) rfl
  have k4 := key 4 [109, 105, 110, 95, 111, 118, 101, 114, 95, 116, 105, 109, 101] 1 (by omega) rfl
  have k5 := key 5 [109, 97, 120, 95, 111, 118, 101, 114, 95, 116, 105, 109, 101] 1 (by omega) rfl
  have k6 := key 6 [108, 97, 115, 116, 95, 111, 118, 101, 114, 95, 116, 105, 109, 101] 1 (by omega) rfl
  have k7 := key 7 [102, 105, 114, 115, 116, 95, 111, 118, 101, 114, 95, 116, 105, 109, 101] 1 (by omega) rfl
  have k8 := key 8 [105, 110, 99, 114, 101, 97, 115, 101] 2 (by omega) rfl
  have k9 := key 9 [114, 97, 116, 101] 2 (by omega) rfl
  have k10 := key 10 [100, 101, 108, 116, 97] 2 (by omega) rfl
  have k11 := key 11 [99, 104, 97, 110, 103, 101, 115] 1 (by omega) rfl
  have k12 := key 12 [114, 101, 115, 101, 116, 115] 1 (by omega) rfl
  have k13 := key 13 [119, 97, 118, 101, 95, 109, 97, 103] 1 (by omega) rfl
  have k14 := key 14 [119, 97, 118, 101, 95, 116, 117, 114, 110] 1 (by omega) rfl
  refine ⟨fun i hi => ?_, fun i h1 hi => ?_⟩
  · match i, hi with
    | 0, _ => exact k0.1
    | 1, _ => exact k1.1
    | 2, _ => exact k2.1
    | 3, _ => exact k3.1
    | 4, _ => exact k4.1
    | 5, _ => exact k5.1
    | 6, _ => exact k6.1
    | 7, _ => exact k7.1
    | 8, _ => exact k8.1
    | 9, _ => exact k9.1
    | 10, _ => exact k10.1
    | 11, _ => exact k11.1
    | 12, _ => exact k12.1
    | 13, _ => exact k13.1
    | 14, _ => exact k14.1
  · match i, hi, h1 with
    | 1, _, _ => exact k1.2
    | 2, _, _ => exact k2.2
    | 3, _, _ => exact k3.2
    | 4, _, _ => exact k4.2
    | 5, _, _ => exact k5.2
    | 6, _, _ => exact k6.2
    | 7, _, _ => exact k7.2
    | 8, _, _ => exact k8.2
    | 9, _, _ => exact k9.2
    | 10, _, _ => exact k10.2
    | 11, _, _ => exact k11.2
    | 12, _, _ => exact k12.2
    | 13, _, _ => exact k13.2
    | 14, _, _ => exact k14.2
theorem addr_plain {W : World} {a : Addr} {v : Value} (h : W.cell? (a.add 0) = some v) : ∃ b o, a = ⟨b, o, none⟩ := by
  obtain ⟨b, o, s⟩ := a
  have hs : s = none := by simpa [Addr.add] using World.cell?_spot h
  exact ⟨b, o, by rw [hs]⟩
theorem add_flat (b o j : Nat) : (⟨b, o, none⟩ : Addr).add j = ⟨b, o + j, none⟩ := by unfold Addr.add; split <;> simp_all
section
variable {H : Type} {enc : TypeId × Value → H} {W : World} {base : Nat} {sp : Nat → Bool} {held : Bool}
/-- a list that a function of the place gives -/
theorem list_of {α : Type} (n : Nat) (p : Nat → α → Prop) (h : ∀ i, i < n → ∃ a, p i a) : ∃ l : List α, l.length = n ∧ ∀ i a, l[i]? = some a → p i a := by
  induction n with
  | zero => exact ⟨[], rfl, fun i a h => by simp at h⟩
  | succ n ih =>
    obtain ⟨l, hl, hp⟩ := ih fun i hi => h i (by omega)
    obtain ⟨a, ha⟩ := h n (by omega)
    refine ⟨l ++ [a], by simp [hl], fun i b hb => ?_⟩
    by_cases hi : i < n
    · rw [List.getElem?_append_left (by omega)] at hb; exact hp i b hb
    · have : i < (l ++ [a]).length := (List.getElem?_eq_some_iff.1 hb).1
      simp at this
      obtain rfl : i = n := by omega
      rw [List.getElem?_append_right (by omega), hl] at hb
      simp at hb; subst hb; exact ha
theorem float_of {n : Nat} {u : Value} {y : DataW H × List MemPlace} (q : DataW.trod enc Tryd.prog W base sp held n 26 [u] = some y) : ∃ b, u = .float .f64 b ∧ b < 2 ^ 64 := by
  cases n with
  | zero => simp [DataW.trod] at q
  | succ n =>
    unfold DataW.trod at q
    rw [Tryd.underlying26] at q
    have hu : ∃ k b, u = .float k b := by
      split at q <;> simp_all
    obtain ⟨k, b, rfl⟩ := hu
    simp only at q
    split at q
    · rename_i hw
      obtain ⟨rfl, hw⟩ := hw
      exact ⟨b, rfl, by simpa [Lit.wf] using hw⟩
    · cases q
/-- samples that came in -/
theorem open_smps {v : Value} {d : DataW H} {p : List MemPlace} (h : DataW.Trod enc Tryd.prog W base sp held 22 v d p) (hv : ∃ a n c, v = .slice a n c) :
    ∃ A c, ∃ l : List Sm, v = .slice A l.length c ∧ l.length ≤ c ∧ l.length ≤ maxLen ∧ At2 encP W A l ∧ ∀ q ∈ l, q.2 < 2 ^ 64 := by
  obtain ⟨fuel, hf⟩ := h
  obtain ⟨a0, n0, c0, rfl⟩ := hv
  rcases Go.Deep.open_slice Tryd.underlying22 hf with ⟨hcs, _⟩ | ⟨a, len, cap, m, n, D, Pl, hcs, _, hl, hm, hmm, _, hi⟩
  · simp [Value.cells] at hcs
    obtain ⟨rfl, rfl, rfl⟩ := hcs
    exact ⟨none, 0, [], rfl, Nat.le_refl _, Nat.zero_le _, At2.nil _ _, fun x hx => by simp at hx⟩
  · simp [Value.cells] at hcs
    obtain ⟨rfl, rfl, rfl⟩ := hcs
    have hC : Tryd.prog.cellsOf 34 = 2 := by kernel_rfl
    have hC2 : Tryd.prog.cellsOf 3 = 1 := by kernel_rfl
    have hC3 : Tryd.prog.cellsOf 26 = 1 := by kernel_rfl
    have hlm : n0 ≤ m := by rw [hmm]; split <;> omega
    have key : ∀ i, i < n0 → ∃ x : Sm, W.cell? (a.add (i * 2)) = some (.int .i64 x.1) ∧ W.cell? ((a.add (i * 2)).add 1) = some (.float .f64 x.2) ∧ x.2 < 2 ^ 64 := by
      intro i hin
      obtain ⟨cs', hc, ht⟩ := hi i (by omega)
      rw [hC] at hc
      obtain ⟨_, hlen, hat⟩ := World.cells?_some hc
      obtain ⟨ys, n2, _, _, _, _, hfl⟩ := DataW.trod_struct Tryd.underlying34 ht
      match cs', hlen with
      | [u0, u1], _ =>
        have q0 := hfl 0 _ rfl
        have q1 := hfl 1 _ rfl
        have hy : ys.length = 2 := by assumption
        match ys, hy with
        | [y0, y1], _ =>
          obtain ⟨t0, e0, _, _⟩ := DataW.trod_int Tryd.underlying3 q0
          change List.take (Tryd.prog.cellsOf 3) (List.drop 0 [u0, u1]) = _ at e0
          rw [hC2] at e0
          obtain rfl : u0 = .int .i64 t0 := by simpa using e0
          change DataW.trod enc Tryd.prog W base sp held n2 26 (List.take (Tryd.prog.cellsOf 26) (List.drop 1 [.int .i64 t0, u1])) = some y1 at q1
          rw [hC3] at q1
          change DataW.trod enc Tryd.prog W base sp held n2 26 [u1] = some y1 at q1
          obtain ⟨b0, rfl, hb⟩ := float_of q1
          have h0 := hat 0 (by omega)
          have h1 := hat 1 (by omega)
          rw [show (a.add (i * 2)).add 0 = a.add (i * 2) by unfold Addr.add; simp] at h0
          exact ⟨(t0, b0), h0, h1, hb⟩
    obtain ⟨l, hll, hp⟩ := list_of n0 _ key
    refine ⟨some a, c0, l, by rw [hll], by omega, by omega, fun h0 => ?_, fun x hx => ?_⟩
    · obtain ⟨hx0, -⟩ := hp 0 _ (List.getElem?_eq_getElem h0)
      rw [Nat.zero_mul] at hx0
      obtain ⟨b, o, rfl⟩ := addr_plain hx0
      refine ⟨b, o, rfl, fun i x hx u v hu => ?_⟩
      obtain ⟨c1, c2, -⟩ := hp i x hx
      rw [add_flat] at c1
      rw [add_flat, add_flat] at c2
      simp only [encP, List.cons.injEq, and_true] at hu
      obtain ⟨rfl, rfl⟩ := hu
      exact ⟨c1, c2⟩
    · obtain ⟨i, hi', rfl⟩ := List.getElem_of_mem hx
      exact (hp i _ (List.getElem?_eq_getElem hi')).2.2
end
end Go.Proofs.YtjjfkjpkbpefpaaDoor.Vn
