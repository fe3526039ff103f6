/- What the listed package variables give: the table of units, the powers of ten. -/
import Derived.Test.YthjfmfacnknpfaaDoorItoa
import Derived.Test.YthjfmfacnknpfaaDoorRows
import Derived.ProofKit
import Derived.LaidMore
import Derived.LaidSub
import Derived.Lay
import Derived.OpenShut
import Derived.Lib.LaidTab
import Derived.Lib.SmallJoins
import Derived.Deep.Strs
namespace Go.Proofs.YthjfmfacnknpfaaDoor
open Go.RowKit
set_option maxRecDepth 100000

theorem laid_one {P : Program} {W : World} {L : List (String × DataW Unit)} (name : String) (d : DataW Unit) (hf : (L.filter fun x => x.1 == name) = [(name, d)]) (hp : ([(name, d)].all fun x => x.2.handleName?.isNone) = true) (h : laidMetH P L W) : laidMet P [(name, d)] W := by
  have h1 := h.filter (fun x => x.1 == name)
  rw [hf, MakeChecks.laidMetH_plain _ _ _ hp] at h1
  exact h1

/-- an element, a string and an integer, of a table of structs of these two -/
theorem laid_named {P : Program} {W : World} {name : String} {k : IntKind} {z0 : List UInt8} {z1 : Int} {d : DataW Unit} {l : List (DataW Unit)} {g t e n i : Nat} {f0 f1 : Field} (hg : P.globalNamed name = some g) (hty : (P.globals[g]?).map (·.type) = some t)
    (ht : P.underlying t = some (.array n e)) (he : P.underlying e = some (.struct #[f0, f1])) (hce : P.cellsOf e = 2) (h0 : P.underlying f0.type = some .string) (h1 : P.underlying f1.type = some (.int k)) (o0 : f0.offset = 0) (o1 : f1.offset = 1) (c0 : P.cellsOf f0.type = 1) (c1 : P.cellsOf f1.type = 1)
    (hl : d = .agg l) (hi : l[i]? = some (.agg [.lit (.string z0), .lit (.int k z1)])) (hin : i < n)
    (h : laidMet P [(name, d)] W) : W.cell? ⟨g, i * 2, none⟩ = some (.string ⟨z0.toArray⟩) ∧ W.cell? ⟨g, i * 2 + 1, none⟩ = some (.int k z1) := by
  obtain ⟨ps, ⟨g', t', cs, fuel, p, q, hg', ht', hvar, hd, _, _⟩, _⟩ := h
  obtain rfl := Option.some.inj (hg.symm.trans hg')
  obtain rfl := Option.some.inj (hty.symm.trans ht')
  obtain ⟨xs, m, _, ex, _, hn, hel⟩ := DataW.trod_array ht hd
  have hx := hel i hin
  have e1 : l = xs.map (·.1) := by
    have := congrArg Prod.fst ex
    rw [hl] at this
    simpa using this
  have hxi : i < xs.length := by omega
  rw [List.getElem?_eq_getElem hxi, hce] at hx
  have e2 : (xs[i]).1 = .agg [.lit (.string z0), .lit (.int k z1)] := by
    rw [e1, List.getElem?_map, List.getElem?_eq_getElem hxi] at hi
    simpa using hi
  obtain ⟨ys, m2, _, ey, _, hn2, hf⟩ := DataW.trod_struct he hx
  match ys, hn2 with
  | [y0, y1], _ =>
    have q0 := hf 0 f0 rfl
    have q1 := hf 1 f1 rfl
    rw [o0, c0] at q0
    rw [o1, c1] at q1
    obtain ⟨a0, u0, v0, _⟩ := DataW.trod_string h0 q0
    obtain ⟨a1, u1, v1, _⟩ := DataW.trod_int h1 q1
    have e3 := congrArg Prod.fst ey
    rw [e2] at e3
    simp only [List.map_cons, List.map_nil, DataW.agg.injEq, List.cons.injEq, and_true] at e3
    have z0e : a0 = ⟨z0.toArray⟩ := by
      have := e3.1; rw [v0] at this
      simp only [DataW.lit.injEq, Lit.string.injEq] at this
      apply ByteArray.ext
      rw [this]
    have z1e : a1 = z1 := by
      have := e3.2; rw [v1] at this
      simp only [DataW.lit.injEq, Lit.int.injEq, true_and] at this; exact this.symm
    have hv0 := World.var?_cell hg hvar (i * 2)
    have hv1 := World.var?_cell hg hvar (i * 2 + 1)
    refine ⟨?_, ?_⟩
    · have : (((cs.toList.drop (i * 2)).take 2).drop 0 |>.take 1)[0]? = some (.string a0) := by rw [u0]; rfl
      rw [hv0, ← z0e]
      simpa using this
    · have : (((cs.toList.drop (i * 2)).take 2).drop 1 |>.take 1)[0]? = some (.int k a1) := by rw [u1]; rfl
      rw [hv1, ← z1e]
      simpa using this

theorem kn_of {W : World}
    (hu : laidMet Tryd.prog [("internal/strconv.uint64pow10", Lib.tabData .u64 Lib.pow10Tab)] W)
    (hs : laidMet Tryd.prog [("isobar/stamp.units", Rows.laid_isobar_stamp_units)] W) : KnU W := by
  have gU : Tryd.prog.globalNamed "internal/strconv.uint64pow10" = some 1 := by kernel_rfl
  have tU := Lib.tabIs_of_head (rest := []) gU (t := 67) (e := 61) (n := 20) (by kernel_rfl) Tryd.underlying67 Tryd.underlying61 (by kernel_rfl) (by kernel_rfl) hu
  refine ⟨fun j hj => ?_, tU⟩
  have key : ∀ i z0 z1, i < 5 → (match (Rows.laid_isobar_stamp_units : DataW Unit) with | .agg l => l | _ => [])[i]? = some (.agg [.lit (.string z0), .lit (.int .i64 z1)]) → W.cell? ⟨0, i * 2, none⟩ = some (.string ⟨z0.toArray⟩) ∧ W.cell? ⟨0, i * 2 + 1, none⟩ = some (.int .i64 z1) := fun i z0 z1 hi hl =>
    laid_named (g := 0) (t := 51) (e := 50) (n := 5) (by kernel_rfl) (by kernel_rfl) Tryd.underlying51 Tryd.underlying50 (by kernel_rfl) Tryd.underlying9 Tryd.underlying3 rfl rfl (by kernel_rfl) (by kernel_rfl) rfl hl hi hs
  rcases (by omega : j = 0 ∨ j = 1 ∨ j = 2 ∨ j = 3 ∨ j = 4) with rfl | rfl | rfl | rfl | rfl
  · exact key 0 [100] 86400000 (by omega) rfl
  · exact key 1 [104] 3600000 (by omega) rfl
  · exact key 2 [109] 60000 (by omega) rfl
  · exact key 3 [115] 1000 (by omega) rfl
  · exact key 4 [109, 115] 1 (by omega) rfl
end Go.Proofs.YthjfmfacnknpfaaDoor
