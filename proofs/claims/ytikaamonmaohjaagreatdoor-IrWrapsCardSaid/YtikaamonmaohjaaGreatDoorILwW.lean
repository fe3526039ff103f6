/- IrWraps: the walk over known() as it is. -/
import Derived.Test.YtikaamonmaohjaaGreatDoorISize
import Derived.Test.YtikaamonmaohjaaGreatDoorIGrp
import Derived.Test.YtikaamonmaohjaaGreatDoorRows
import Derived.ChangeSame
import Derived.WideShapes
import Derived.ProofKit
import Derived.LaidMore
import Derived.LaidSub
import Derived.Lay
import Derived.OpenShut
import Derived.Lib.LaidTab
import Derived.Lib.SmallJoins
import Derived.Deep.Slices
import Derived.Deep.Strs
import Derived.Test.YtikaamonmaohjaaGreatDoorIKnw
namespace Go.Proofs.YtikaamonmaohjaaGreatDoor.Ir
open Go.RowKit
set_option maxRecDepth 100000

theorem laid_one {P : Program} {W : World} {L : List (String × DataW Unit)} (name : String) (d : DataW Unit) (hf : (L.filter fun x => x.1 == name) = [(name, d)]) (hp : ([(name, d)].all fun x => x.2.handleName?.isNone) = true) (h : laidMetH P L W) : laidMet P [(name, d)] W := by
  have h1 := h.filter (fun x => x.1 == name)
  rw [hf, MakeChecks.laidMetH_plain _ _ _ hp] at h1
  exact h1
/-- an element of a table of strings -/
theorem laid_str {P : Program} {W : World} {name : String} {z : List UInt8} {d : DataW Unit} {l : List (DataW Unit)} {g t e n i : Nat} (hg : P.globalNamed name = some g) (hty : (P.globals[g]?).map (·.type) = some t)
    (ht : P.underlying t = some (.array n e)) (he : P.underlying e = some .string) (hce : P.cellsOf e = 1) (hl : d = .agg l) (hi : l[i]? = some (.lit (.string z))) (hin : i < n)
    (h : laidMet P [(name, d)] W) : W.cell? ⟨g, i, none⟩ = some (.string ⟨z.toArray⟩) := by
  obtain ⟨ps, ⟨g', t', cs, fuel, p, q, hg', ht', hvar, hd, _, _⟩, _⟩ := h
  obtain rfl := Option.some.inj (hg.symm.trans hg')
  obtain rfl := Option.some.inj (hty.symm.trans ht')
  obtain ⟨xs, m, _, ex, _, hn, hel⟩ := DataW.trod_array ht hd
  have hx := hel i hin
  have e1 : l = xs.map (·.1) := by
    have := congrArg Prod.fst ex
    rw [hl] at this
    simpa using this
  have hxi : i < xs.length := by omega
  rw [List.getElem?_eq_getElem hxi, hce] at hx
  have e2 : (xs[i]).1 = .lit (.string z) := by
    rw [e1, List.getElem?_map, List.getElem?_eq_getElem hxi] at hi
    simpa using hi
  obtain ⟨a0, u0, v0, _⟩ := DataW.trod_string he hx
  have z0e : a0 = ⟨z.toArray⟩ := by
    have e3 := congrArg Prod.fst v0
    rw [e2] at e3
    simp only [DataW.lit.injEq, Lit.string.injEq] at e3
    apply ByteArray.ext
    rw [e3]
  have hv0 := World.var?_cell hg hvar i
  have : ((cs.toList.drop (i * 1)).take 1)[0]? = some (.string a0) := by rw [u0]; rfl
  rw [hv0, ← z0e]
  simpa using this
theorem laid_named {P : Program} {W : World} {name : String} {k : IntKind} {z0 : List UInt8} {z1 : Int} {d : DataW Unit} {l : List (DataW Unit)} {g t e n i : Nat} {f0 f1 : Field} (hg : P.globalNamed name = some g) (hty : (P.globals[g]?).map (·.type) = some t)
    (ht : P.underlying t = some (.array n e)) (he : P.underlying e = some (.struct #[f0, f1])) (hce : P.cellsOf e = 2) (h0 : P.underlying f0.type = some .string) (h1 : P.underlying f1.type = some (.int k)) (o0 : f0.offset = 0) (o1 : f1.offset = 1) (c0 : P.cellsOf f0.type = 1) (c1 : P.cellsOf f1.type = 1)
    (hl : d = .agg l) (hi : l[i]? = some (.agg [.lit (.string z0), .lit (.int k z1)])) (hin : i < n)
    (h : laidMet P [(name, d)] W) : W.cell? ⟨g, i * 2, none⟩ = some (.string ⟨z0.toArray⟩) ∧ W.cell? ⟨g, i * 2 + 1, none⟩ = some (.int k z1) := by
  obtain ⟨ps, ⟨g', t', cs, fuel, p, q, hg', ht', hvar, hd, _, _⟩, _⟩ := h
  obtain rfl := Option.some.inj (hg.symm.trans hg')
  obtain rfl := Option.some.inj (hty.symm.trans ht')
  obtain ⟨xs, m, _, ex, _, hn, hel⟩ := DataW.trod_array ht hd
  have hx := hel i hin
  have e1 : l = xs.map (·.1) := by
    have := congrArg Prod.fst ex
    rw [hl] at this
    simpa using this
  have hxi : i < xs.length := by omega
  rw [List.getElem?_eq_getElem hxi, hce] at hx
  have e2 : (xs[i]).1 = .agg [.lit (.string z0), .lit (.int k z1)] := by
    rw [e1, List.getElem?_map, List.getElem?_eq_getElem hxi] at hi
    simpa using hi
  obtain ⟨ys, m2, _, ey, _, hn2, hf⟩ := DataW.trod_struct he hx
  match ys, hn2 with
  | [y0, y1], _ =>
    have q0 := hf 0 f0 rfl
    have q1 := hf 1 f1 rfl
    rw [o0, c0] at q0
    rw [o1, c1] at q1
    obtain ⟨a0, u0, v0, _⟩ := DataW.trod_string h0 q0
    obtain ⟨a1, u1, v1, _⟩ := DataW.trod_int h1 q1
    have e3 := congrArg Prod.fst ey
    rw [e2] at e3
    simp only [List.map_cons, List.map_nil, DataW.agg.injEq, List.cons.injEq, and_true] at e3
    have z0e : a0 = ⟨z0.toArray⟩ := by
      have := e3.1; rw [v0] at this
      simp only [DataW.lit.injEq, Lit.string.injEq] at this
      apply ByteArray.ext
      rw [this]
    have z1e : a1 = z1 := by
      have := e3.2; rw [v1] at this
      simp only [DataW.lit.injEq, Lit.int.injEq, true_and] at this; exact this.symm
    have hv0 := World.var?_cell hg hvar (i * 2)
    have hv1 := World.var?_cell hg hvar (i * 2 + 1)
    refine ⟨?_, ?_⟩
    · have : (((cs.toList.drop (i * 2)).take 2).drop 0 |>.take 1)[0]? = some (.string a0) := by rw [u0]; rfl
      rw [hv0, ← z0e]
      simpa using this
    · have : (((cs.toList.drop (i * 2)).take 2).drop 1 |>.take 1)[0]? = some (.int k a1) := by rw [u1]; rfl
      rw [hv1, ← z1e]
      simpa using this

/-- the two tables of names -/
theorem lt_of {W : World} (hf : laidMet Tryz.prog [("isobar/window.functions", Rows.laid_isobar_window_functions)] W) (hs : laidMet Tryz.prog [("isobar/agg.names", Rows.laid_isobar_agg_names)] W) : Lt W := by
  have key : ∀ i z0 z1, i < 15 → (match (Rows.laid_isobar_window_functions : DataW Unit) with | .agg l => l | _ => [])[i]? = some (.agg [.lit (.string z0), .lit (.int .i64 z1)]) → W.cell? ⟨1, i * 2, none⟩ = some (.string ⟨z0.toArray⟩) ∧ W.cell? ⟨1, i * 2 + 1, none⟩ = some (.int .i64 z1) := fun i z0 z1 hi hl =>
    laid_named (g := 1) (t := 134) (e := 133) (n := 15) (by kernel_rfl) (by kernel_rfl) Tryz.underlying134 Tryz.underlying133 (by kernel_rfl) Tryz.underlying9 Tryz.underlying3 rfl rfl (by kernel_rfl) (by kernel_rfl) rfl hl hi hf
  refine ⟨fun i hi => ?_, fun i hi => ?_⟩
  · match i, hi with
    | 0, _ => exact ⟨_, (key 0 [] 0 (by omega) rfl).1, by decide +kernel⟩
    | 1, _ => exact ⟨_, (key 1 [99, 111, 117, 110, 116, 95, 111, 118, 101, 114, 95, 116, 105, 109, 101] 1 (by omega) rfl).1, by decide +kernel⟩
    | 2, _ => exact ⟨_, (key 2 [115, 117, 109, 95, 111, 118, 101, 114, 95, 116, 105, 109, 101] 1 (by omega) rfl).1, by decide +kernel⟩
    | 3, _ => exact ⟨_, (key 3 [97, 118, 103, 95, 111, 118, 101, 114, 95, 116, 105, 109, 101] 1 (by omega) rfl).1, by decide +kernel⟩
    | 4, _ => exact ⟨_, (key 4 [109, 105, 110, 95, 111, 118, 101, 114, 95, 116, 105, 109, 101] 1 (by omega) rfl).1, by decide +kernel⟩
    | 5, _ => exact ⟨_, (key 5 [109, 97, 120, 95, 111, 118, 101, 114, 95, 116, 105, 109, 101] 1 (by omega) rfl).1, by decide +kernel⟩
    | 6, _ => exact ⟨_, (key 6 [108, 97, 115, 116, 95, 111, 118, 101, 114, 95, 116, 105, 109, 101] 1 (by omega) rfl).1, by decide +kernel⟩
    | 7, _ => exact ⟨_, (key 7 [102, 105, 114, 115, 116, 95, 111, 118, 101, 114, 95, 116, 105, 109, 101] 1 (by omega) rfl).1, by decide +kernel⟩
    | 8, _ => exact ⟨_, (key 8 [105, 110, 99, 114, 101, 97, 115, 101] 2 (by omega) rfl).1, by decide +kernel⟩
    | 9, _ => exact ⟨_, (key 9 [114, 97, 116, 101] 2 (by omega) rfl).1, by decide +kernel⟩
    | 10, _ => exact ⟨_, (key 10 [100, 101, 108, 116, 97] 2 (by omega) rfl).1, by decide +kernel⟩
    | 11, _ => exact ⟨_, (key 11 [99, 104, 97, 110, 103, 101, 115] 1 (by omega) rfl).1, by decide +kernel⟩
    | 12, _ => exact ⟨_, (key 12 [114, 101, 115, 101, 116, 115] 1 (by omega) rfl).1, by decide +kernel⟩
    | 13, _ => exact ⟨_, (key 13 [119, 97, 118, 101, 95, 109, 97, 103] 1 (by omega) rfl).1, by decide +kernel⟩
    | 14, _ => exact ⟨_, (key 14 [119, 97, 118, 101, 95, 116, 117, 114, 110] 1 (by omega) rfl).1, by decide +kernel⟩
    | i + 15, h => exact absurd h (by omega)
  · match i, hi with
    | 0, _ => exact ⟨_, laid_str (g := 2) (t := 135) (e := 9) (n := 9) (i := 0) (z := []) (l := match (Rows.laid_isobar_agg_names : DataW Unit) with | .agg l => l | _ => []) (by kernel_rfl) (by kernel_rfl) Tryz.underlying135 Tryz.underlying9 (by kernel_rfl) rfl rfl (by decide) hs, by decide +kernel⟩
    | 1, _ => exact ⟨_, laid_str (g := 2) (t := 135) (e := 9) (n := 9) (i := 1) (z := [115, 117, 109]) (l := match (Rows.laid_isobar_agg_names : DataW Unit) with | .agg l => l | _ => []) (by kernel_rfl) (by kernel_rfl) Tryz.underlying135 Tryz.underlying9 (by kernel_rfl) rfl rfl (by decide) hs, by decide +kernel⟩
    | 2, _ => exact ⟨_, laid_str (g := 2) (t := 135) (e := 9) (n := 9) (i := 2) (z := [99, 111, 117, 110, 116]) (l := match (Rows.laid_isobar_agg_names : DataW Unit) with | .agg l => l | _ => []) (by kernel_rfl) (by kernel_rfl) Tryz.underlying135 Tryz.underlying9 (by kernel_rfl) rfl rfl (by decide) hs, by decide +kernel⟩
    | 3, _ => exact ⟨_, laid_str (g := 2) (t := 135) (e := 9) (n := 9) (i := 3) (z := [109, 105, 110]) (l := match (Rows.laid_isobar_agg_names : DataW Unit) with | .agg l => l | _ => []) (by kernel_rfl) (by kernel_rfl) Tryz.underlying135 Tryz.underlying9 (by kernel_rfl) rfl rfl (by decide) hs, by decide +kernel⟩
    | 4, _ => exact ⟨_, laid_str (g := 2) (t := 135) (e := 9) (n := 9) (i := 4) (z := [109, 97, 120]) (l := match (Rows.laid_isobar_agg_names : DataW Unit) with | .agg l => l | _ => []) (by kernel_rfl) (by kernel_rfl) Tryz.underlying135 Tryz.underlying9 (by kernel_rfl) rfl rfl (by decide) hs, by decide +kernel⟩
    | 5, _ => exact ⟨_, laid_str (g := 2) (t := 135) (e := 9) (n := 9) (i := 5) (z := [97, 118, 103]) (l := match (Rows.laid_isobar_agg_names : DataW Unit) with | .agg l => l | _ => []) (by kernel_rfl) (by kernel_rfl) Tryz.underlying135 Tryz.underlying9 (by kernel_rfl) rfl rfl (by decide) hs, by decide +kernel⟩
    | 6, _ => exact ⟨_, laid_str (g := 2) (t := 135) (e := 9) (n := 9) (i := 6) (z := [116, 111, 112, 107]) (l := match (Rows.laid_isobar_agg_names : DataW Unit) with | .agg l => l | _ => []) (by kernel_rfl) (by kernel_rfl) Tryz.underlying135 Tryz.underlying9 (by kernel_rfl) rfl rfl (by decide) hs, by decide +kernel⟩
    | 7, _ => exact ⟨_, laid_str (g := 2) (t := 135) (e := 9) (n := 9) (i := 7) (z := [98, 111, 116, 116, 111, 109, 107]) (l := match (Rows.laid_isobar_agg_names : DataW Unit) with | .agg l => l | _ => []) (by kernel_rfl) (by kernel_rfl) Tryz.underlying135 Tryz.underlying9 (by kernel_rfl) rfl rfl (by decide) hs, by decide +kernel⟩
    | 8, _ => exact ⟨_, laid_str (g := 2) (t := 135) (e := 9) (n := 9) (i := 8) (z := [103, 114, 111, 117, 112]) (l := match (Rows.laid_isobar_agg_names : DataW Unit) with | .agg l => l | _ => []) (by kernel_rfl) (by kernel_rfl) Tryz.underlying135 Tryz.underlying9 (by kernel_rfl) rfl rfl (by decide) hs, by decide +kernel⟩
    | i + 9, h => exact absurd h (by omega)
theorem addr_plain {W : World} {a : Addr} {v : Value} (h : W.cell? (a.add 0) = some v) : ∃ b o, a = ⟨b, o, none⟩ := by
  obtain ⟨b, o, s⟩ := a
  have hs : s = none := by simpa [Addr.add] using World.cell?_spot h
  exact ⟨b, o, by rw [hs]⟩
theorem add_flat (b o j : Nat) : (⟨b, o, none⟩ : Addr).add j = ⟨b, o + j, none⟩ := by unfold Addr.add; split <;> simp_all
section
variable {H : Type} {enc : TypeId × Value → H} {W : World} {base : Nat} {sp : Nat → Bool} {held : Bool}
/-- a list that a function of the place gives -/
theorem list_of {α : Type} (n : Nat) (p : Nat → α → Prop) (h : ∀ i, i < n → ∃ a, p i a) : ∃ l : List α, l.length = n ∧ ∀ i a, l[i]? = some a → p i a := by
  induction n with
  | zero => exact ⟨[], rfl, fun i a h => by simp at h⟩
  | succ n ih =>
    obtain ⟨l, hl, hp⟩ := ih fun i hi => h i (by omega)
    obtain ⟨a, ha⟩ := h n (by omega)
    refine ⟨l ++ [a], by simp [hl], fun i b hb => ?_⟩
    by_cases hi : i < n
    · rw [List.getElem?_append_left (by omega)] at hb; exact hp i b hb
    · have : i < (l ++ [a]).length := (List.getElem?_eq_some_iff.1 hb).1
      simp at this
      obtain rfl : i = n := by omega
      rw [List.getElem?_append_right (by omega), hl] at hb
      simp at hb; subst hb; exact ha
theorem float_of {n : Nat} {u : Value} {y : DataW H × List MemPlace} (q : DataW.trod enc Tryz.prog W base sp held n 22 [u] = some y) : ∃ b, u = .float .f64 b ∧ b < 2 ^ 64 := by
  cases n with
  | zero => simp [DataW.trod] at q
  | succ n =>
    unfold DataW.trod at q
    rw [Tryz.underlying22] at q
    have hu : ∃ k b, u = .float k b := by
      split at q <;> simp_all
    obtain ⟨k, b, rfl⟩ := hu
    simp only at q
    split at q
    · rename_i hw
      obtain ⟨rfl, hw⟩ := hw
      exact ⟨b, rfl, by simpa [Lit.wf] using hw⟩
    · cases q
/-- texts that came in, all of them -/
theorem textsL_of {v : Value} {fuel : Nat} {x : DataW H × List MemPlace} (hf : DataW.trod enc Tryz.prog W base sp held fuel 24 [v] = some x) :
    ∃ A c, ∃ l : List ByteArray, v = .slice A l.length c ∧ l.length ≤ c ∧ c ≤ maxLen ∧ StrsAt W A l ∧ ∀ x ∈ l, x.size ≤ maxLen := by
  have hC9 : Tryz.prog.cellsOf 9 = 1 := by kernel_rfl
  rcases Go.Deep.open_slice1 Tryz.underlying24 hC9 hf with ⟨hcs, _⟩ | ⟨a, len, cap, m, n, V, D, Pl, hcs, _, hl, hm, hmm, _, hi⟩
  · simp only [List.cons.injEq, and_true] at hcs
    exact ⟨none, 0, [], hcs, Nat.le_refl _, Nat.zero_le _, StrsAt.none_ _ _, fun x hx => by simp at hx⟩
  · simp only [List.cons.injEq, and_true] at hcs
    have hlm : len ≤ m := by rw [hmm]; split <;> omega
    have key : ∀ i, i < len → ∃ x : ByteArray, W.cell? (a.add i) = some (.string x) ∧ x.size ≤ maxLen := by
      intro i hin
      obtain ⟨hc, ht⟩ := hi i (by omega)
      obtain ⟨s0, e0, _, g0⟩ := DataW.trod_string Tryz.underlying9 ht
      simp only [List.cons.injEq, and_true] at e0
      exact ⟨s0, by rw [hc, e0], g0⟩
    obtain ⟨l, hll, hp⟩ := list_of len _ key
    refine ⟨some a, cap, l, by rw [hcs, hll], by omega, hm, fun h0 => ?_, fun x hx => ?_⟩
    · have hx0 := (hp 0 _ (List.getElem?_eq_getElem h0)).1
      obtain ⟨b, o, rfl⟩ := addr_plain hx0
      refine ⟨b, o, rfl, fun i x hx => ?_⟩
      have := (hp i x hx).1
      rwa [add_flat] at this
    · obtain ⟨i, hi', rfl⟩ := List.getElem_of_mem hx
      exact (hp i _ (List.getElem?_eq_getElem hi')).2
/-- matchers that came in -/
theorem matsL_of {v : Value} {fuel : Nat} {x : DataW H × List MemPlace} (hf : DataW.trod enc Tryz.prog W base sp held fuel 23 [v] = some x) :
    ∃ A c, ∃ l : List Mt, v = .slice A l.length c ∧ l.length ≤ c ∧ c ≤ maxLen ∧ MatsAt W A l ∧ Wm l := by
  rcases Go.Deep.open_slice Tryz.underlying23 hf with ⟨hcs, _⟩ | ⟨a, len, cap, m, n, D, Pl, hcs, _, hl, hm, hmm, _, hi⟩
  · simp only [List.cons.injEq, and_true] at hcs
    exact ⟨none, 0, [], hcs, Nat.le_refl _, Nat.zero_le _, fun h => absurd h (by simp), fun x hx => by simp at hx⟩
  · simp only [List.cons.injEq, and_true] at hcs
    have hC : Tryz.prog.cellsOf 48 = 3 := by kernel_rfl
    have hCi : Tryz.prog.cellsOf 3 = 1 := by kernel_rfl
    have hC9 : Tryz.prog.cellsOf 9 = 1 := by kernel_rfl
    have hlm : len ≤ m := by rw [hmm]; split <;> omega
    have key : ∀ i, i < len → ∃ x : Mt, W.cell? (a.add (i * 3)) = some (.int .i64 x.k) ∧ W.cell? ((a.add (i * 3)).add 1) = some (.string x.n) ∧ W.cell? ((a.add (i * 3)).add 2) = some (.string x.v) ∧ x.n.size ≤ maxLen ∧ x.v.size ≤ maxLen := by
      intro i hin
      obtain ⟨cs', hc, ht⟩ := hi i (by omega)
      rw [hC] at hc
      obtain ⟨_, hlen, hat⟩ := World.cells?_some hc
      obtain ⟨ys, n2, _, _, _, _, hfl⟩ := DataW.trod_struct Tryz.underlying48 ht
      match cs', hlen with
      | [u0, u1, u2], _ =>
        have q0 := hfl 0 _ rfl
        have q1 := hfl 1 _ rfl
        have q2 := hfl 2 _ rfl
        have hy : ys.length = 3 := by assumption
        match ys, hy with
        | [y0, y1, y2], _ =>
          obtain ⟨s0, e0, _, g0⟩ := DataW.trod_int Tryz.underlying3 q0
          obtain ⟨s1, e1, _, g1⟩ := DataW.trod_string Tryz.underlying9 q1
          obtain ⟨s2, e2, _, g2⟩ := DataW.trod_string Tryz.underlying9 q2
          change List.take (Tryz.prog.cellsOf 3) (List.drop 0 [u0, u1, u2]) = _ at e0
          change List.take (Tryz.prog.cellsOf 9) (List.drop 1 [u0, u1, u2]) = _ at e1
          change List.take (Tryz.prog.cellsOf 9) (List.drop 2 [u0, u1, u2]) = _ at e2
          rw [hCi] at e0
          rw [hC9] at e1 e2
          obtain rfl : u0 = .int .i64 s0 := by simpa using e0
          obtain rfl : u1 = .string s1 := by simpa using e1
          obtain rfl : u2 = .string s2 := by simpa using e2
          have h0 := hat 0 (by omega)
          have h1 := hat 1 (by omega)
          have h2 := hat 2 (by omega)
          rw [show (a.add (i * 3)).add 0 = a.add (i * 3) by unfold Addr.add; simp] at h0
          exact ⟨⟨s0, s1, s2⟩, h0, h1, h2, g1, g2⟩
    obtain ⟨l, hll, hp⟩ := list_of len _ key
    refine ⟨some a, cap, l, by rw [hcs, hll], by omega, hm, fun h0 => ?_, fun x hx => ?_⟩
    · have hx0 := (hp 0 _ (List.getElem?_eq_getElem h0)).1
      rw [Nat.zero_mul] at hx0
      obtain ⟨b, o, rfl⟩ := addr_plain hx0
      refine ⟨b, o, rfl, fun i x hx => ?_⟩
      obtain ⟨c1, c2, c3, _⟩ := hp i x hx
      have hadd : ∀ b o j, (⟨b, o, none⟩ : Addr).add j = ⟨b, o + j, none⟩ := fun b o j => by unfold Addr.add; split <;> simp_all
      rw [hadd] at c1
      rw [hadd, hadd] at c2 c3
      exact ⟨c1, c2, c3⟩
    · obtain ⟨i, hi', rfl⟩ := List.getElem_of_mem hx
      obtain ⟨_, _, _, g⟩ := hp i _ (List.getElem?_eq_getElem hi')
      exact g
theorem int_of {n : Nat} {u : Value} {y : DataW H × List MemPlace} (q : DataW.trod enc Tryz.prog W base sp held n 3 [u] = some y) : ∃ x, u = .int .i64 x ∧ I64 x := by
  obtain ⟨x, e, _, w⟩ := DataW.trod_int Tryz.underlying3 q
  simp only [List.cons.injEq, and_true] at e
  exact ⟨x, e, by have := bounds_i64 w; unfold I64; omega⟩
theorem str_of {n : Nat} {u : Value} {y : DataW H × List MemPlace} (q : DataW.trod enc Tryz.prog W base sp held n 9 [u] = some y) : ∃ s, u = .string s ∧ s.size ≤ maxLen := by
  obtain ⟨s, e, _, g⟩ := DataW.trod_string Tryz.underlying9 q
  simp only [List.cons.injEq, and_true] at e
  exact ⟨s, e, g⟩
theorem bool_of {n : Nat} {u : Value} {y : DataW H × List MemPlace} (q : DataW.trod enc Tryz.prog W base sp held n 4 [u] = some y) : ∃ b, u = .bool b := by
  obtain ⟨b, e, _⟩ := DataW.trod_bool Tryz.underlying4 q
  simp only [List.cons.injEq, and_true] at e
  exact ⟨b, e⟩
theorem grp_of {n : Nat} {u v : Value} {y : DataW H × List MemPlace} (q : DataW.trod enc Tryz.prog W base sp held n 26 [u, v] = some y) :
    ∃ how A c, ∃ l : List ByteArray, u = .int .i64 how ∧ I64 how ∧ v = .slice A l.length c ∧ l.length ≤ c ∧ c ≤ maxLen ∧ StrsAt W A l ∧ ∀ x ∈ l, x.size ≤ maxLen := by
  obtain ⟨y0, y1, m, _, _, h0, h1⟩ := Go.ChangeShapes.trod_struct2 Tryz.underlying26 q
  obtain ⟨x, e0, w0⟩ := int_of (show DataW.trod enc Tryz.prog W base sp held m 3 [u] = some y0 from h0)
  obtain ⟨A, c, s, e1, r1, r2, r3, r4⟩ := textsL_of (show DataW.trod enc Tryz.prog W base sp held m 24 [v] = some y1 from h1)
  exact ⟨x, A, c, s, e0, w0, e1, r1, r2, r3, r4⟩
/-- a plan, read to its end -/
theorem node_of : ∀ (fuel : Nat) (cs : List Value) (x : DataW H × List MemPlace), DataW.trod enc Tryz.prog W base sp held fuel 31 cs = some x → ∃ (t : Tr) (p : Np), cs = nV t.d p t.ks.length ∧ TrP W t p := by
  intro fuel
  induction fuel using Nat.strongRecOn with
  | _ fuel ih =>
  intro cs x h
  have hC : Tryz.prog.cellsOf 31 = 17 := by kernel_rfl
  obtain ⟨ys, n, rfl, _, hlen, hys, hfl⟩ := DataW.trod_struct Tryz.underlying31 h
  rw [hC] at hlen
  match cs, hlen with
  | [u0, u1, u2, u3, u4, u5, u6, u7, u8, u9, u10, u11, u12, u13, u14, u15, u16], _ =>
    match ys, hys with
    | [y0, y1, y2, y3, y4, y5, y6, y7, y8, y9, y10, y11, y12], _ =>
      obtain ⟨k, rfl, wk⟩ := int_of (show DataW.trod enc Tryz.prog W base sp held n 3 [u0] = some y0 from hfl 0 _ rfl)
      obtain ⟨num, rfl, -⟩ := float_of (show DataW.trod enc Tryz.prog W base sp held n 22 [u1] = some y1 from hfl 1 _ rfl)
      obtain ⟨fn, rfl, wfn⟩ := int_of (show DataW.trod enc Tryz.prog W base sp held n 3 [u2] = some y2 from hfl 2 _ rfl)
      obtain ⟨mA, mC, m, rfl, m1, m2, m3, m4⟩ := matsL_of (show DataW.trod enc Tryz.prog W base sp held n 23 [u3] = some y3 from hfl 3 _ rfl)
      obtain ⟨rg, rfl, wrg⟩ := int_of (show DataW.trod enc Tryz.prog W base sp held n 3 [u4] = some y4 from hfl 4 _ rfl)
      obtain ⟨st, rfl, wst⟩ := int_of (show DataW.trod enc Tryz.prog W base sp held n 3 [u5] = some y5 from hfl 5 _ rfl)
      obtain ⟨of, rfl, wof⟩ := int_of (show DataW.trod enc Tryz.prog W base sp held n 3 [u6] = some y6 from hfl 6 _ rfl)
      obtain ⟨gh, gA, gC, gn, rfl, wgh, rfl, g1, g2, g3, g4⟩ := grp_of (show DataW.trod enc Tryz.prog W base sp held n 26 [u7, u8] = some y7 from hfl 7 _ rfl)
      have hx := show DataW.trod enc Tryz.prog W base sp held n 28 [u9, u10, u11, u12] = some y8 from hfl 8 _ rfl
      obtain ⟨zs, nx, rfl, _, _, hzs, hxl⟩ := DataW.trod_struct Tryz.underlying28 hx
      match zs, hzs with
      | [z0, z1, z2], _ =>
        obtain ⟨xh, xA, xC, xn, rfl, wxh, rfl, x1, x2, x3, x4⟩ := grp_of (show DataW.trod enc Tryz.prog W base sp held nx 26 [u9, u10] = some z0 from hxl 0 _ rfl)
        obtain ⟨card, rfl, wcd⟩ := int_of (show DataW.trod enc Tryz.prog W base sp held nx 3 [u11] = some z1 from hxl 1 _ rfl)
        obtain ⟨iA, iC, inc, rfl, i1, i2, i3, i4⟩ := textsL_of (show DataW.trod enc Tryz.prog W base sp held nx 24 [u12] = some z2 from hxl 2 _ rfl)
        obtain ⟨flag, rfl⟩ := bool_of (show DataW.trod enc Tryz.prog W base sp held (nx + 1) 4 [u13] = some y9 from hfl 9 _ rfl)
        obtain ⟨name, rfl, wn⟩ := str_of (show DataW.trod enc Tryz.prog W base sp held (nx + 1) 9 [u14] = some y10 from hfl 10 _ rfl)
        obtain ⟨value, rfl, wv⟩ := str_of (show DataW.trod enc Tryz.prog W base sp held (nx + 1) 9 [u15] = some y11 from hfl 11 _ rfl)
        have hk := show DataW.trod enc Tryz.prog W base sp held (nx + 1) 29 [u16] = some y12 from hfl 12 _ rfl
        have hML : maxLen = 9223372036854775807 := by unfold maxLen; decide
        rw [hML] at m2 g2 x2 i2
        rcases DataW.trod_slice Tryz.underlying29 hk with ⟨hcs, _⟩ | ⟨a, len, cap, elems, rest, nn, hnn, hcs, _, _, hl, hm, hel, hi, _, _⟩
        · simp only [List.cons.injEq, and_true] at hcs
          subst hcs
          refine ⟨.mk ⟨k, num, fn, m, rg, st, of, gh, gn, xh, xn, card, inc, flag, name, value⟩ [], ⟨mA, mC, gA, gC, xA, xC, iA, iC, none, 0⟩, rfl, ?_⟩
          unfold TrP
          exact ⟨⟨⟨m1, m2, g1, g2, x1, x2, i1, i2, Nat.le_refl _, Nat.zero_le _, m4, g4, x4, i4, wn, wv, wk, wfn, wrg, wst, wof, wgh, wxh, wcd⟩, m3, g3, x3, i3⟩, fun h => absurd h (by simp)⟩
        · simp only [List.cons.injEq, and_true] at hcs
          have key : ∀ i, i < len → ∃ y : Tr × Np, (∀ j, j < 17 → W.cell? ((a.add (i * 17)).add j) = (nV y.1.d y.2 y.1.ks.length)[j]?) ∧ TrP W y.1 y.2 := by
            intro i hin
            have h1 := hi i hin
            rw [hC, List.getElem?_eq_getElem (by omega)] at h1
            obtain ⟨cs', hc, ht⟩ := Option.bind_eq_some_iff.1 h1
            obtain ⟨_, hlen, hat⟩ := World.cells?_some hc
            obtain ⟨t, p, rfl, hT⟩ := ih nn (by omega) cs' _ ht
            exact ⟨(t, p), hat, hT⟩
          obtain ⟨l, hll, hp⟩ := list_of len _ key
          subst hcs
          subst hll
          refine ⟨.mk ⟨k, num, fn, m, rg, st, of, gh, gn, xh, xn, card, inc, flag, name, value⟩ (l.map (·.1)), ⟨mA, mC, gA, gC, xA, xC, iA, iC, some a, cap⟩, by simp [nV, Tr.d, Tr.ks], ?_⟩
          unfold TrP
          rw [hML] at hm
          refine ⟨⟨⟨m1, m2, g1, g2, x1, x2, i1, i2, by simpa using hl, hm, m4, g4, x4, i4, wn, wv, wk, wfn, wrg, wst, wof, wgh, wxh, wcd⟩, m3, g3, x3, i3⟩, fun h0 => ?_⟩
          have h0 : 0 < l.length := by simpa using h0
          have hx0 := (hp 0 _ (List.getElem?_eq_getElem h0)).1 0 (by omega)
          rw [Nat.zero_mul] at hx0
          have hx1 : W.cell? (a.add 0) = some (.int .i64 (l[0]).1.d.k) := by
            rw [show (a.add 0).add 0 = a.add 0 by unfold Addr.add; simp] at hx0
            exact hx0
          obtain ⟨b, o, rfl⟩ := addr_plain hx1
          refine ⟨b, o, rfl, KidsAt.of fun j hj => ?_⟩
          have hj' : j < l.length := by simpa using hj
          obtain ⟨c1, c2⟩ := hp j _ (List.getElem?_eq_getElem hj')
          refine ⟨(l[j]).2, fun i v hv => ?_, by simpa using c2⟩
          have hi17 : i < 17 := by
            have := (List.getElem?_eq_some_iff.1 hv).1
            simpa [nV] using this
          have := c1 i hi17
          rw [add_flat, add_flat] at this
          rw [this]
          simpa using hv
/-- a plan that came in -/
theorem open_node {r : Reach} {b0 : Nat} {v : Value} {d : DataW H} {p : List MemPlace} (h : DataW.Trod enc Tryz.prog W base sp held 31 v d p) (hv : Value.okWide Tryz.prog W r b0 31 v) :
    ∃ (t : Tr) (q : Np), v = .agg (nV t.d q t.ks.length).toArray ∧ TrP W t q := by
  obtain ⟨cs, rfl, hsz⟩ := Go.WideShapes.okWide_struct Tryz.underlying31 hv
  obtain ⟨fuel, hf⟩ := h
  obtain ⟨t, q, e, hT⟩ := node_of fuel _ _ hf
  refine ⟨t, q, ?_, hT⟩
  have e2 : cs.toList = nV t.d q t.ks.length := e
  rw [← e2]
end
end Go.Proofs.YtikaamonmaohjaaGreatDoor.Ir
namespace Go.Proofs.YtikaamonmaohjaaGreatDoor.Ir
open Go.RowKit
theorem lawWraps (t : Tr) (p : Np) (times kind : Int) (w : World) (h : TrP w t p) (hl : Lt w) (ht : (Lit.int .i64 times).wf = true) :
    Calls Tryz.prog 4 #[.agg (nV t.d p t.ks.length).toArray, .int .i64 times, .int .i64 kind] w fun e w' => e = .returned (.bool true) ∧ Gr w w' :=
  walkWraps t p times kind w h hl (fun W g => known_any W (hl.gr g)) (bounds_i64 ht).1 (bounds_i64 ht).2
end Go.Proofs.YtikaamonmaohjaaGreatDoor.Ir
