/- Points and groups that came in, read as lists; what the listed variables give. -/
import Derived.Test.YtllhkegefinlbaaGreatDoorGKnw
import Derived.Test.YtllhkegefinlbaaGreatDoorRows
import Derived.ChangeSame
import Derived.WideShapes
import Derived.ProofKit
import Derived.LaidMore
import Derived.LaidSub
import Derived.Lay
import Derived.OpenShut
import Derived.Lib.LaidTab
import Derived.Lib.SmallJoins
import Derived.Deep.Slices
import Derived.Deep.Strs
namespace Go.Proofs.YtllhkegefinlbaaGreatDoor.Pt
open Go.RowKit
set_option maxRecDepth 100000

theorem laid_one {P : Program} {W : World} {L : List (String × DataW Unit)} (name : String) (d : DataW Unit) (hf : (L.filter fun x => x.1 == name) = [(name, d)]) (hp : ([(name, d)].all fun x => x.2.handleName?.isNone) = true) (h : laidMetH P L W) : laidMet P [(name, d)] W := by
  have h1 := h.filter (fun x => x.1 == name)
  rw [hf, MakeChecks.laidMetH_plain _ _ _ hp] at h1
  exact h1
/-- an element of a table of strings -/
theorem laid_str {P : Program} {W : World} {name : String} {z : List UInt8} {d : DataW Unit} {l : List (DataW Unit)} {g t e n i : Nat} (hg : P.globalNamed name = some g) (hty : (P.globals[g]?).map (·.type) = some t)
    (ht : P.underlying t = some (.array n e)) (he : P.underlying e = some .string) (hce : P.cellsOf e = 1) (hl : d = .agg l) (hi : l[i]? = some (.lit (.string z))) (hin : i < n)
    (h : laidMet P [(name, d)] W) : W.cell? ⟨g, i, none⟩ = some (.string ⟨z.toArray⟩) := by
  obtain ⟨ps, ⟨g', t', cs, fuel, p, q, hg', ht', hvar, hd, _, _⟩, _⟩ := h
  obtain rfl := Option.some.inj (hg.symm.trans hg')
  obtain rfl := Option.some.inj (hty.symm.trans ht')
  obtain ⟨xs, m, _, ex, _, hn, hel⟩ := DataW.trod_array ht hd
  have hx := hel i hin
  have e1 : l = xs.map (·.1) := by
    have := congrArg Prod.fst ex
    rw [hl] at this
    simpa using this
  have hxi : i < xs.length := by omega
  rw [List.getElem?_eq_getElem hxi, hce] at hx
  have e2 : (xs[i]).1 = .lit (.string z) := by
    rw [e1, List.getElem?_map, List.getElem?_eq_getElem hxi] at hi
    simpa using hi
  obtain ⟨a0, u0, v0, _⟩ := DataW.trod_string he hx
  have z0e : a0 = ⟨z.toArray⟩ := by
    have e3 := congrArg Prod.fst v0
    rw [e2] at e3
    simp only [DataW.lit.injEq, Lit.string.injEq] at e3
    apply ByteArray.ext
    rw [e3]
  have hv0 := World.var?_cell hg hvar i
  have : ((cs.toList.drop (i * 1)).take 1)[0]? = some (.string a0) := by rw [u0]; rfl
  rw [hv0, ← z0e]
  simpa using this
theorem tab_of {W : World} (hb : laidMet Tryz.prog [("isobar/fval.bits", Lib.tabData .u64 [9221120237041090561, 9218868437227405314, 9218868437227405312, 9223372036854775808])] W) : Fv.Tab W := by
  have gB : Tryz.prog.globalNamed "isobar/fval.bits" = some 1 := by kernel_rfl
  have tB := Lib.tabIs_of_head (rest := []) gB (t := 89) (e := 83) (n := 4) (by kernel_rfl) Tryz.underlying89 Tryz.underlying83 (by kernel_rfl) (by kernel_rfl) hb
  exact ⟨tB.cell gB 0 (by decide), tB.cell gB 1 (by decide), tB.cell gB 2 (by decide), tB.cell gB 3 (by decide)⟩
theorem kn_of {W : World} (hu : laidMet Tryz.prog [("internal/strconv.uint64pow10", Lib.tabData .u64 Lib.pow10Tab)] W) : Kn W :=
  Lib.tabIs_of_head (rest := []) (show Tryz.prog.globalNamed "internal/strconv.uint64pow10" = some 3 by kernel_rfl) (t := 129) (e := 83) (n := 20) (by kernel_rfl) Tryz.underlying129 Tryz.underlying83 (by kernel_rfl) (by kernel_rfl) hu
theorem nmz_of {W : World} (hs : laidMet Tryz.prog [("isobar/agg.names", Rows.laid_isobar_agg_names)] W) : Nmz W := ⟨fun i hi => by
  match i, hi with
  | 0, _ => exact laid_str (g := 0) (t := 71) (e := 9) (n := 9) (i := 0) (z := []) (l := match (Rows.laid_isobar_agg_names : DataW Unit) with | .agg l => l | _ => []) (by kernel_rfl) (by kernel_rfl) Tryz.underlying71 Tryz.underlying9 (by kernel_rfl) rfl rfl (by decide) hs
  | 1, _ => exact laid_str (g := 0) (t := 71) (e := 9) (n := 9) (i := 1) (z := [115, 117, 109]) (l := match (Rows.laid_isobar_agg_names : DataW Unit) with | .agg l => l | _ => []) (by kernel_rfl) (by kernel_rfl) Tryz.underlying71 Tryz.underlying9 (by kernel_rfl) rfl rfl (by decide) hs
  | 2, _ => exact laid_str (g := 0) (t := 71) (e := 9) (n := 9) (i := 2) (z := [99, 111, 117, 110, 116]) (l := match (Rows.laid_isobar_agg_names : DataW Unit) with | .agg l => l | _ => []) (by kernel_rfl) (by kernel_rfl) Tryz.underlying71 Tryz.underlying9 (by kernel_rfl) rfl rfl (by decide) hs
  | 3, _ => exact laid_str (g := 0) (t := 71) (e := 9) (n := 9) (i := 3) (z := [109, 105, 110]) (l := match (Rows.laid_isobar_agg_names : DataW Unit) with | .agg l => l | _ => []) (by kernel_rfl) (by kernel_rfl) Tryz.underlying71 Tryz.underlying9 (by kernel_rfl) rfl rfl (by decide) hs
  | 4, _ => exact laid_str (g := 0) (t := 71) (e := 9) (n := 9) (i := 4) (z := [109, 97, 120]) (l := match (Rows.laid_isobar_agg_names : DataW Unit) with | .agg l => l | _ => []) (by kernel_rfl) (by kernel_rfl) Tryz.underlying71 Tryz.underlying9 (by kernel_rfl) rfl rfl (by decide) hs
  | 5, _ => exact laid_str (g := 0) (t := 71) (e := 9) (n := 9) (i := 5) (z := [97, 118, 103]) (l := match (Rows.laid_isobar_agg_names : DataW Unit) with | .agg l => l | _ => []) (by kernel_rfl) (by kernel_rfl) Tryz.underlying71 Tryz.underlying9 (by kernel_rfl) rfl rfl (by decide) hs
  | 6, _ => exact laid_str (g := 0) (t := 71) (e := 9) (n := 9) (i := 6) (z := [116, 111, 112, 107]) (l := match (Rows.laid_isobar_agg_names : DataW Unit) with | .agg l => l | _ => []) (by kernel_rfl) (by kernel_rfl) Tryz.underlying71 Tryz.underlying9 (by kernel_rfl) rfl rfl (by decide) hs
  | 7, _ => exact laid_str (g := 0) (t := 71) (e := 9) (n := 9) (i := 7) (z := [98, 111, 116, 116, 111, 109, 107]) (l := match (Rows.laid_isobar_agg_names : DataW Unit) with | .agg l => l | _ => []) (by kernel_rfl) (by kernel_rfl) Tryz.underlying71 Tryz.underlying9 (by kernel_rfl) rfl rfl (by decide) hs
  | 8, _ => exact laid_str (g := 0) (t := 71) (e := 9) (n := 9) (i := 8) (z := [103, 114, 111, 117, 112]) (l := match (Rows.laid_isobar_agg_names : DataW Unit) with | .agg l => l | _ => []) (by kernel_rfl) (by kernel_rfl) Tryz.underlying71 Tryz.underlying9 (by kernel_rfl) rfl rfl (by decide) hs
  | i + 9, h => exact absurd h (by omega)⟩
theorem addr_plain {W : World} {a : Addr} {v : Value} (h : W.cell? (a.add 0) = some v) : ∃ b o, a = ⟨b, o, none⟩ := by
  obtain ⟨b, o, s⟩ := a
  have hs : s = none := by simpa [Addr.add] using World.cell?_spot h
  exact ⟨b, o, by rw [hs]⟩
theorem add_flat (b o j : Nat) : (⟨b, o, none⟩ : Addr).add j = ⟨b, o + j, none⟩ := by unfold Addr.add; split <;> simp_all
section
variable {H : Type} {enc : TypeId × Value → H} {W : World} {base : Nat} {sp : Nat → Bool} {held : Bool}
/-- a list that a function of the place gives -/
theorem list_of {α : Type} (n : Nat) (p : Nat → α → Prop) (h : ∀ i, i < n → ∃ a, p i a) : ∃ l : List α, l.length = n ∧ ∀ i a, l[i]? = some a → p i a := by
  induction n with
  | zero => exact ⟨[], rfl, fun i a h => by simp at h⟩
  | succ n ih =>
    obtain ⟨l, hl, hp⟩ := ih fun i hi => h i (by omega)
    obtain ⟨a, ha⟩ := h n (by omega)
    refine ⟨l ++ [a], by simp [hl], fun i b hb => ?_⟩
    by_cases hi : i < n
    · rw [List.getElem?_append_left (by omega)] at hb; exact hp i b hb
    · have : i < (l ++ [a]).length := (List.getElem?_eq_some_iff.1 hb).1
      simp at this
      obtain rfl : i = n := by omega
      rw [List.getElem?_append_right (by omega), hl] at hb
      simp at hb; subst hb; exact ha
theorem float_of {n : Nat} {u : Value} {y : DataW H × List MemPlace} (q : DataW.trod enc Tryz.prog W base sp held n 25 [u] = some y) : ∃ b, u = .float .f64 b ∧ b < 2 ^ 64 := by
  cases n with
  | zero => simp [DataW.trod] at q
  | succ n =>
    unfold DataW.trod at q
    rw [Tryz.underlying25] at q
    have hu : ∃ k b, u = .float k b := by
      split at q <;> simp_all
    obtain ⟨k, b, rfl⟩ := hu
    simp only at q
    split at q
    · rename_i hw
      obtain ⟨rfl, hw⟩ := hw
      exact ⟨b, rfl, by simpa [Lit.wf] using hw⟩
    · cases q
/-- labels that came in, within something else -/
theorem labs_of {v : Value} {fuel : Nat} {x : DataW H × List MemPlace} (hf : DataW.trod enc Tryz.prog W base sp held fuel 43 [v] = some x) :
    ∃ A c, ∃ l : List Lb, v = .slice A l.length c ∧ l.length ≤ c ∧ c ≤ maxLen ∧ LabsAt W A l ∧ Wd l := by
  rcases Go.Deep.open_slice Tryz.underlying43 hf with ⟨hcs, _⟩ | ⟨a, len, cap, m, n, D, Pl, hcs, _, hl, hm, hmm, _, hi⟩
  · simp only [List.cons.injEq, and_true] at hcs
    exact ⟨none, 0, [], hcs, Nat.le_refl _, Nat.zero_le _, LabsAt.none_ _ _, fun x hx => by simp at hx⟩
  · simp only [List.cons.injEq, and_true] at hcs
    have hC : Tryz.prog.cellsOf 42 = 2 := by kernel_rfl
    have hC9 : Tryz.prog.cellsOf 9 = 1 := by kernel_rfl
    have hlm : len ≤ m := by rw [hmm]; split <;> omega
    have key : ∀ i, i < len → ∃ x : Lb, W.cell? (a.add (i * 2)) = some (.string x.1) ∧ W.cell? ((a.add (i * 2)).add 1) = some (.string x.2) ∧ x.1.size ≤ maxLen ∧ x.2.size ≤ maxLen := by
      intro i hin
      obtain ⟨cs', hc, ht⟩ := hi i (by omega)
      rw [hC] at hc
      obtain ⟨_, hlen, hat⟩ := World.cells?_some hc
      obtain ⟨ys, n2, _, _, _, _, hfl⟩ := DataW.trod_struct Tryz.underlying42 ht
      match cs', hlen with
      | [u0, u1], _ =>
        have q0 := hfl 0 _ rfl
        have q1 := hfl 1 _ rfl
        have hy : ys.length = 2 := by assumption
        match ys, hy with
        | [y0, y1], _ =>
          obtain ⟨s0, e0, _, g0⟩ := DataW.trod_string Tryz.underlying9 q0
          obtain ⟨s1, e1, _, g1⟩ := DataW.trod_string Tryz.underlying9 q1
          change List.take (Tryz.prog.cellsOf 9) (List.drop 0 [u0, u1]) = _ at e0
          change List.take (Tryz.prog.cellsOf 9) (List.drop 1 [u0, u1]) = _ at e1
          rw [hC9] at e0 e1
          obtain rfl : u0 = .string s0 := by simpa using e0
          obtain rfl : u1 = .string s1 := by simpa using e1
          have h0 := hat 0 (by omega)
          have h1 := hat 1 (by omega)
          rw [show (a.add (i * 2)).add 0 = a.add (i * 2) by unfold Addr.add; simp] at h0
          exact ⟨(s0, s1), h0, h1, g0, g1⟩
    obtain ⟨l, hll, hp⟩ := list_of len _ key
    refine ⟨some a, cap, l, by rw [hcs, hll], by omega, hm, fun h0 => ?_, fun x hx => ?_⟩
    · have hx0 := (hp 0 _ (List.getElem?_eq_getElem h0)).1
      rw [Nat.zero_mul] at hx0
      obtain ⟨b, o, rfl⟩ := addr_plain hx0
      refine ⟨b, o, rfl, fun i x hx => ?_⟩
      obtain ⟨c1, c2, _⟩ := hp i x hx
      rw [add_flat] at c1
      rw [add_flat, add_flat] at c2
      exact ⟨c1, c2⟩
    · obtain ⟨i, hi', rfl⟩ := List.getElem_of_mem hx
      obtain ⟨_, _, g⟩ := hp i _ (List.getElem?_eq_getElem hi')
      exact g
/-- points that came in -/
theorem open_pts {T : TypeId} (hT : Tryz.prog.underlying T = some (.slice 45)) {v : Value} {d : DataW H} {p : List MemPlace} (h : DataW.Trod enc Tryz.prog W base sp held T v d p) (hv : ∃ a n c, v = .slice a n c) :
    ∃ A c, ∃ l : List Pt, v = .slice A l.length c ∧ l.length ≤ c ∧ c ≤ maxLen ∧ PtsAt W A l ∧ WdP l ∧ ∀ q ∈ l, q.2 < 2 ^ 64 := by
  obtain ⟨fuel, hf⟩ := h
  obtain ⟨a0, n0, c0, rfl⟩ := hv
  rcases Go.Deep.open_slice hT hf with ⟨hcs, _⟩ | ⟨a, len, cap, m, n, D, Pl, hcs, _, hl, hm, hmm, _, hi⟩
  · simp [Value.cells] at hcs
    obtain ⟨rfl, rfl, rfl⟩ := hcs
    exact ⟨none, 0, [], rfl, Nat.le_refl _, Nat.zero_le _, PtsAt.nil _ _, fun x hx => by simp at hx, fun x hx => by simp at hx⟩
  · simp [Value.cells] at hcs
    obtain ⟨rfl, rfl, rfl⟩ := hcs
    have hC : Tryz.prog.cellsOf 45 = 2 := by kernel_rfl
    have hC1 : Tryz.prog.cellsOf 43 = 1 := by kernel_rfl
    have hC3 : Tryz.prog.cellsOf 25 = 1 := by kernel_rfl
    have hlm : n0 ≤ m := by rw [hmm]; split <;> omega
    have key : ∀ i, i < n0 → ∃ x : Pc × Pt, W.cell? (a.add (i * 2)) = some x.1.1.v ∧ W.cell? ((a.add (i * 2)).add 1) = some (.float .f64 x.1.2) ∧ Rd W x.1 x.2 ∧ Wd x.2.1 ∧ x.2.1.length ≤ maxLen ∧ x.2.2 < 2 ^ 64 := by
      intro i hin
      obtain ⟨cs', hc, ht⟩ := hi i (by omega)
      rw [hC] at hc
      obtain ⟨_, hlen, hat⟩ := World.cells?_some hc
      obtain ⟨ys, n2, _, _, _, _, hfl⟩ := DataW.trod_struct Tryz.underlying45 ht
      match cs', hlen with
      | [u0, u1], _ =>
        have q0 := hfl 0 _ rfl
        have q1 := hfl 1 _ rfl
        have hy : ys.length = 2 := by assumption
        match ys, hy with
        | [y0, y1], _ =>
          change DataW.trod enc Tryz.prog W base sp held n2 43 (List.take (Tryz.prog.cellsOf 43) (List.drop 0 [u0, u1])) = some y0 at q0
          rw [hC1] at q0
          obtain ⟨LA, lc, ll, rfl, f1, f2, f3, f4⟩ := labs_of (v := u0) q0
          change DataW.trod enc Tryz.prog W base sp held n2 25 (List.take (Tryz.prog.cellsOf 25) (List.drop 1 [.slice LA ll.length lc, u1])) = some y1 at q1
          rw [hC3] at q1
          obtain ⟨b0, rfl, hb0⟩ := float_of (u := u1) q1
          have h0 := hat 0 (by omega)
          have h1 := hat 1 (by omega)
          rw [show (a.add (i * 2)).add 0 = a.add (i * 2) by unfold Addr.add; simp] at h0
          exact ⟨((⟨LA, ll.length, lc⟩, b0), (ll, b0)), h0, h1, ⟨rfl, rfl, f3⟩, f4, Nat.le_trans f1 f2, hb0⟩
    obtain ⟨l, hll, hp⟩ := list_of n0 _ key
    refine ⟨some a, c0, l.map (·.2), by simp [hll], by simp; omega, hm, ⟨l.map (·.1), fun h0 => ?_, by simp, fun k c p hc hp2 => ?_⟩, fun x hx => ?_, fun x hx => ?_⟩
    · have h0' : 0 < l.length := by simpa using h0
      have hx0 := (hp 0 _ (List.getElem?_eq_getElem h0')).1
      rw [Nat.zero_mul] at hx0
      obtain ⟨b, o, rfl⟩ := addr_plain hx0
      refine ⟨b, o, rfl, fun i x hx u v hu => ?_⟩
      rw [List.getElem?_map] at hx
      cases e : l[i]? with
      | none => rw [e] at hx; cases hx
      | some y =>
        rw [e] at hx
        obtain rfl : y.1 = x := by simpa using hx
        obtain ⟨g1, g2, -⟩ := hp i y e
        rw [add_flat] at g1
        rw [add_flat, add_flat] at g2
        simp only [encT] at hu
        injection hu with e1 e2
        injection e2 with e2
        subst e1; subst e2
        exact ⟨g1, g2⟩
    · rw [List.getElem?_map] at hc hp2
      cases e : l[k]? with
      | none => rw [e] at hc; cases hc
      | some y =>
        rw [e] at hc hp2
        obtain rfl : y.1 = c := by simpa using hc
        obtain rfl : y.2 = p := by simpa using hp2
        exact (hp k y e).2.2.1
    · obtain ⟨y, hy, rfl⟩ := List.mem_map.1 hx
      obtain ⟨i, hi', rfl⟩ := List.getElem_of_mem hy
      obtain ⟨-, -, -, g4, g5, -⟩ := hp i _ (List.getElem?_eq_getElem hi')
      exact ⟨g4, g5⟩
    · obtain ⟨y, hy, rfl⟩ := List.mem_map.1 hx
      obtain ⟨i, hi', rfl⟩ := List.getElem_of_mem hy
      exact (hp i _ (List.getElem?_eq_getElem hi')).2.2.2.2.2
/-- texts that came in, all of them -/
theorem textsL_of {v : Value} {fuel : Nat} {x : DataW H × List MemPlace} (hf : DataW.trod enc Tryz.prog W base sp held fuel 22 [v] = some x) :
    ∃ A c, ∃ l : List ByteArray, v = .slice A l.length c ∧ l.length ≤ c ∧ c ≤ maxLen ∧ StrsAt W A l ∧ ∀ x ∈ l, x.size ≤ maxLen := by
  have hC9 : Tryz.prog.cellsOf 9 = 1 := by kernel_rfl
  rcases Go.Deep.open_slice1 Tryz.underlying22 hC9 hf with ⟨hcs, _⟩ | ⟨a, len, cap, m, n, V, D, Pl, hcs, _, hl, hm, hmm, _, hi⟩
  · simp only [List.cons.injEq, and_true] at hcs
    exact ⟨none, 0, [], hcs, Nat.le_refl _, Nat.zero_le _, StrsAt.none_ _ _, fun x hx => by simp at hx⟩
  · simp only [List.cons.injEq, and_true] at hcs
    have hlm : len ≤ m := by rw [hmm]; split <;> omega
    have key : ∀ i, i < len → ∃ x : ByteArray, W.cell? (a.add i) = some (.string x) ∧ x.size ≤ maxLen := by
      intro i hin
      obtain ⟨hc, ht⟩ := hi i (by omega)
      obtain ⟨s0, e0, _, g0⟩ := DataW.trod_string Tryz.underlying9 ht
      simp only [List.cons.injEq, and_true] at e0
      exact ⟨s0, by rw [hc, e0], g0⟩
    obtain ⟨l, hll, hp⟩ := list_of len _ key
    refine ⟨some a, cap, l, by rw [hcs, hll], by omega, hm, fun h0 => ?_, fun x hx => ?_⟩
    · have hx0 := (hp 0 _ (List.getElem?_eq_getElem h0)).1
      obtain ⟨b, o, rfl⟩ := addr_plain hx0
      refine ⟨b, o, rfl, fun i x hx => ?_⟩
      have := (hp i x hx).1
      rwa [add_flat] at this
    · obtain ⟨i, hi', rfl⟩ := List.getElem_of_mem hx
      exact (hp i _ (List.getElem?_eq_getElem hi')).2
/-- a group that came in -/
theorem open_grp {r : Reach} {b0 : Nat} {v : Value} {d : DataW H} {p : List MemPlace} (h : DataW.Trod enc Tryz.prog W base sp held 24 v d p) (hv : Value.okWide Tryz.prog W r b0 24 v) :
    ∃ A c how, ∃ l : List ByteArray, v = .agg #[.int .i64 how, .slice A l.length c] ∧ l.length ≤ c ∧ c ≤ maxLen ∧ StrsAt W A l ∧ ∀ x ∈ l, x.size ≤ maxLen := by
  obtain ⟨cs, rfl, hsz⟩ := Go.WideShapes.okWide_struct Tryz.underlying24 hv
  have hC : Tryz.prog.cellsOf 24 = 2 := by kernel_rfl
  rw [hC] at hsz
  obtain ⟨fuel, hf⟩ := h
  obtain ⟨l, rfl⟩ : ∃ l : List Value, cs = l.toArray := ⟨cs.toList, by simp⟩
  match l, hsz with
  | [v0, v1], _ =>
    obtain ⟨y0, y1, n, _, _, h0, h1⟩ := Go.ChangeShapes.trod_struct2 Tryz.underlying24 hf
    obtain ⟨x, e0, _, _⟩ := DataW.trod_int Tryz.underlying3 (show DataW.trod enc Tryz.prog W base sp held n 3 [v0] = some y0 from h0)
    obtain ⟨A, c, s, e1, r1, r2, r3, r4⟩ := textsL_of (show DataW.trod enc Tryz.prog W base sp held n 22 [v1] = some y1 from h1)
    simp only [List.cons.injEq, and_true] at e0
    subst e0 e1
    exact ⟨A, c, x, s, rfl, r1, r2, r3, r4⟩
end
end Go.Proofs.YtllhkegefinlbaaGreatDoor.Pt
