/- What the listed package variables give: the cells of the tables. -/
import Derived.Test.YtndbcbmkmafieaaGreatDoorKnown
import Derived.Test.YtndbcbmkmafieaaGreatDoorRows
import Derived.ProofKit
import Derived.LaidMore
import Derived.LaidSub
import Derived.Lay
import Derived.OpenShut
import Derived.Lib.LaidTab
import Derived.Deep.Strs
namespace Go.Proofs.YtndbcbmkmafieaaGreatDoor
open Go.RowKit
set_option maxRecDepth 100000

theorem laid_one {P : Program} {W : World} {L : List (String × DataW Unit)} (name : String) (d : DataW Unit) (hf : (L.filter fun x => x.1 == name) = [(name, d)]) (hp : ([(name, d)].all fun x => x.2.handleName?.isNone) = true) (h : laidMetH P L W) : laidMet P [(name, d)] W := by
  have h1 := h.filter (fun x => x.1 == name)
  rw [hf, MakeChecks.laidMetH_plain _ _ _ hp] at h1
  exact h1

/-- a bool -/
theorem laid_bool {P : Program} {W : World} {name : String} {b : Bool} {g t : Nat} (hg : P.globalNamed name = some g) (hty : (P.globals[g]?).map (·.type) = some t) (ht : P.underlying t = some .bool)
    (h : laidMet P [(name, .lit (.bool b))] W) : W.cell? ⟨g, 0, none⟩ = some (.bool b) := by
  obtain ⟨ps, ⟨g', t', cs, fuel, p, q, hg', ht', hvar, hd, _, _⟩, _⟩ := h
  obtain rfl := Option.some.inj (hg.symm.trans hg')
  obtain rfl := Option.some.inj (hty.symm.trans ht')
  obtain ⟨c, e1, e2⟩ := DataW.trod_bool ht hd
  have := World.var?_cell hg hvar 0
  rw [Array.eq_one_of_toList e1] at this
  have e3 : c = b := by simpa using (congrArg Prod.fst e2).symm
  rw [e3] at this
  simpa using this

/-- the first field, an integer, of a struct of three integers -/
theorem laid_first3 {P : Program} {W : World} {name : String} {k : IntKind} {z : Int} {d1 d2 : DataW Unit} {g t : Nat} {f0 f1 f2 : Field} (hg : P.globalNamed name = some g) (hty : (P.globals[g]?).map (·.type) = some t)
    (ht : P.underlying t = some (.struct #[f0, f1, f2])) (h0 : P.underlying f0.type = some (.int k)) (ho : f0.offset = 0) (hc : P.cellsOf f0.type = 1)
    (h : laidMet P [(name, .agg [.lit (.int k z), d1, d2])] W) : W.cell? ⟨g, 0, none⟩ = some (.int k z) := by
  obtain ⟨ps, ⟨g', t', cs, fuel, p, q, hg', ht', hvar, hd, _, _⟩, _⟩ := h
  obtain rfl := Option.some.inj (hg.symm.trans hg')
  obtain rfl := Option.some.inj (hty.symm.trans ht')
  obtain ⟨y0, y1, y2, n, e, _, q0, _, _⟩ := Deep.trod_struct3 ht hd
  obtain ⟨m, e1, e2, _⟩ := DataW.trod_int h0 q0
  have hv := World.var?_cell hg hvar 0
  have hm : m = z := by
    have := congrArg Prod.fst e
    rw [e2] at this
    simp only [DataW.agg.injEq, List.cons.injEq, DataW.lit.injEq, Lit.int.injEq, true_and] at this
    exact this.1.symm
  rw [hc, ho] at e1
  rw [hv, ← hm]
  have : cs.toList[0]? = some (.int k m) := by
    have h0 : ((cs.toList.drop 0).take 1)[0]? = some (.int k m) := by rw [e1]; rfl
    simpa using h0
  simpa using this

/-- two integers, an element of a table of structs of two -/
theorem laid_pair {P : Program} {W : World} {name : String} {k : IntKind} {z0 z1 : Int} {d : DataW Unit} {l : List (DataW Unit)} {g t e n i : Nat} {f0 f1 : Field} (hg : P.globalNamed name = some g) (hty : (P.globals[g]?).map (·.type) = some t)
    (ht : P.underlying t = some (.array n e)) (he : P.underlying e = some (.struct #[f0, f1])) (hce : P.cellsOf e = 2) (h0 : P.underlying f0.type = some (.int k)) (h1 : P.underlying f1.type = some (.int k)) (o0 : f0.offset = 0) (o1 : f1.offset = 1) (c0 : P.cellsOf f0.type = 1) (c1 : P.cellsOf f1.type = 1)
    (hl : d = .agg l) (hi : l[i]? = some (.agg [.lit (.int k z0), .lit (.int k z1)])) (hin : i < n)
    (h : laidMet P [(name, d)] W) : W.cell? ⟨g, i * 2, none⟩ = some (.int k z0) ∧ W.cell? ⟨g, i * 2 + 1, none⟩ = some (.int k z1) := by
  obtain ⟨ps, ⟨g', t', cs, fuel, p, q, hg', ht', hvar, hd, _, _⟩, _⟩ := h
  obtain rfl := Option.some.inj (hg.symm.trans hg')
  obtain rfl := Option.some.inj (hty.symm.trans ht')
  obtain ⟨xs, m, _, ex, _, hn, hel⟩ := DataW.trod_array ht hd
  have hx := hel i hin
  have e1 : l = xs.map (·.1) := by
    have := congrArg Prod.fst ex
    rw [hl] at this
    simpa using this
  have hxi : i < xs.length := by omega
  rw [List.getElem?_eq_getElem hxi, hce] at hx
  have e2 : (xs[i]).1 = .agg [.lit (.int k z0), .lit (.int k z1)] := by
    rw [e1, List.getElem?_map, List.getElem?_eq_getElem hxi] at hi
    simpa using hi
  obtain ⟨ys, m2, _, ey, _, hn2, hf⟩ := DataW.trod_struct he hx
  match ys, hn2 with
  | [y0, y1], _ =>
    have q0 := hf 0 f0 rfl
    have q1 := hf 1 f1 rfl
    rw [o0, c0] at q0
    rw [o1, c1] at q1
    obtain ⟨a0, u0, v0, _⟩ := DataW.trod_int h0 q0
    obtain ⟨a1, u1, v1, _⟩ := DataW.trod_int h1 q1
    have e3 := congrArg Prod.fst ey
    rw [e2] at e3
    simp only [List.map_cons, List.map_nil, DataW.agg.injEq, List.cons.injEq, and_true] at e3
    have z0e : a0 = z0 := by
      have := e3.1; rw [v0] at this
      simp only [DataW.lit.injEq, Lit.int.injEq, true_and] at this; exact this.symm
    have z1e : a1 = z1 := by
      have := e3.2; rw [v1] at this
      simp only [DataW.lit.injEq, Lit.int.injEq, true_and] at this; exact this.symm
    have hv0 := World.var?_cell hg hvar (i * 2)
    have hv1 := World.var?_cell hg hvar (i * 2 + 1)
    refine ⟨?_, ?_⟩
    · have : (((cs.toList.drop (i * 2)).take 2).drop 0 |>.take 1)[0]? = some (.int k a0) := by rw [u0]; rfl
      rw [hv0, ← z0e]
      simpa using this
    · have : (((cs.toList.drop (i * 2)).take 2).drop 1 |>.take 1)[0]? = some (.int k a1) := by rw [u1]; rfl
      rw [hv1, ← z1e]
      simpa using this

/-- an element, a float, of a slice -/
theorem laid_slice_float {P : Program} {W : World} {name : String} {fk : FloatKind} {z n : Nat} {l : List (DataW Unit)} {g t e i : Nat} (hg : P.globalNamed name = some g) (hty : (P.globals[g]?).map (·.type) = some t)
    (ht : P.underlying t = some (.slice e)) (he : P.underlying e = some (.float fk)) (hce : P.cellsOf e = 1) (hn : l.length = n) (hi : l[i]? = some (.lit (.float fk z)))
    (h : laidMet P [(name, .slice l [])] W) : ∃ b o c, n ≤ c ∧ W.cell? ⟨g, 0, none⟩ = some (.slice (some ⟨b, o, none⟩) n c) ∧ W.cell? ⟨b, o + i, none⟩ = some (.float fk z) := by
  obtain ⟨ps, ⟨g', t', cs, fuel, p, q, hg', ht', hvar, hd, _, _⟩, _⟩ := h
  obtain rfl := Option.some.inj (hg.symm.trans hg')
  obtain rfl := Option.some.inj (hty.symm.trans ht')
  obtain ⟨a, cap, e1, hcap, hel⟩ := open_row ht hce hd
  obtain ⟨v, m, q2, hcell, htr⟩ := hel i _ hi
  have hv := World.var?_cell hg hvar 0
  rw [Array.eq_one_of_toList e1] at hv
  obtain ⟨b, o, s⟩ := a
  have hvz : v = .float fk z := by
    cases m with
    | zero => simp [DataW.trod] at htr
    | succ m =>
      unfold DataW.trod at htr
      rw [he] at htr
      split at htr <;> simp_all
  have hl0 : l[0]? = some (l[0]'(by have := (List.getElem?_eq_some_iff.1 hi).1; omega)) := List.getElem?_eq_getElem _
  obtain ⟨v0, _, _, hcell0, _⟩ := hel 0 _ hl0
  have hs : s = none := by simpa [Addr.add] using World.cell?_spot hcell0
  subst hs
  refine ⟨b, o, cap, by omega, ?_, ?_⟩
  · rw [← hn]; simpa using hv
  · rw [← hvz, ← Go.WideShapes.add_plain]; exact hcell

theorem kn_of {W : World} (hb : laidMet Tryz.prog [("isobar/fval.bits", Lib.tabData .u64 [9221120237041090561, 9218868437227405314, 9218868437227405312, 9223372036854775808])] W)
    (hp : laidMet Tryz.prog [("internal/strconv.pow10Tab", Go.Pinned.pow10Tab)] W)
    (hu : laidMet Tryz.prog [("internal/strconv.uint64pow10", Lib.tabData .u64 [1, 10, 100, 1000, 10000, 100000, 1000000, 10000000, 100000000, 1000000000, 10000000000, 100000000000, 1000000000000, 10000000000000, 100000000000000, 1000000000000000, 10000000000000000, 100000000000000000, 1000000000000000000, 10000000000000000000])] W)
    (ho : laidMet Tryz.prog [("internal/strconv.optimize", .lit (.bool true))] W)
    (hi : laidMet Tryz.prog [("internal/strconv.float64info", .agg [.lit (.int .u64 52), .lit (.int .u64 11), .lit (.int .i64 (-1023))])] W)
    (hf : laidMet Tryz.prog [("internal/strconv.float64pow10", Rows.laid_internal_strconv_float64pow10)] W) : ∃ b, Kn b W := by
  have gB : Tryz.prog.globalNamed "isobar/fval.bits" = some 1 := by kernel_rfl
  have gU : Tryz.prog.globalNamed "internal/strconv.uint64pow10" = some 7 := by kernel_rfl
  have tB := Lib.tabIs_of_head (rest := []) gB (t := 47) (e := 22) (n := 4) (by kernel_rfl) Tryz.underlying47 Tryz.underlying22 (by kernel_rfl) (by kernel_rfl) hb
  have tU := Lib.tabIs_of_head (rest := []) gU (t := 132) (e := 22) (n := 20) (by kernel_rfl) Tryz.underlying132 Tryz.underlying22 (by kernel_rfl) (by kernel_rfl) hu
  obtain ⟨p0, p1⟩ := laid_pair (g := 11) (t := 148) (e := 147) (n := 696) (i := 364) (k := .u64) (z0 := 10240000000000000000) (z1 := 0) (l := match Go.Pinned.pow10Tab with | .agg l => l | _ => []) (by kernel_rfl) (by kernel_rfl) Tryz.underlying148 Tryz.underlying147 (by kernel_rfl) Tryz.underlying22 Tryz.underlying22 rfl rfl (by kernel_rfl) (by kernel_rfl) (by kernel_rfl) (by kernel_rfl) (by omega) hp
  have u15 := tU.cell gU 15 (by decide)
  have opt := laid_bool (g := 4) (by kernel_rfl) (t := 4) (by kernel_rfl) Tryz.underlying4 ho
  have mb := laid_first3 (g := 6) (t := 103) (by kernel_rfl) (by kernel_rfl) Tryz.underlying103 Tryz.underlying42 rfl (by kernel_rfl) hi
  obtain ⟨b, o, c, _, f10, f3⟩ := laid_slice_float (g := 10) (t := 36) (e := 24) (fk := .f64) (z := 4652007308841189376) (n := 23) (i := 3) (by kernel_rfl) (by kernel_rfl) Tryz.underlying36 Tryz.underlying24 (by kernel_rfl) rfl rfl hf
  exact ⟨(b, o, c), ⟨tB.cell gB 0 (by decide), tB.cell gB 1 (by decide), tB.cell gB 2 (by decide), tB.cell gB 3 (by decide)⟩, p0, p1, u15, opt, mb, f10, f3⟩
end Go.Proofs.YtndbcbmkmafieaaGreatDoor
