/- MatchTexts: for all inputs the law returns true and leaves its arguments as they were. -/
import Derived.Test.YtnlfndhgdeapeaaRows
import Derived.Test.YtnlfndhgdeapeaaLaid
import Derived.Stop.Joined
import Derived.ChangeOld
import Derived.Carry
namespace Go.Proofs.Ytnlfndhgdeapeaa.mtTx
open Go.ChangeShapes Go.WideShapes Go.ChangeAt Go.RowKit

theorem own : ownKnob Try.prog.godebug = none := by kernel_rfl
theorem laidOut : laidOutB Try.prog = true := by kernel_rfl

set_option maxRecDepth 100000 in
theorem lifted (os : Os) (started : os.Started) (H : Type) (enc : TypeId × Value → H) :
    ReturnsInHanded {} Try.checked os 4 .any (Rows.matchTextsSpec.pre6 enc Try.prog Try.f4 Rows.matchTextsRow.domain false)
      (Rows.matchTextsSpec.post enc Try.prog Try.f4 false true false false) := by
  refine returnsInHanded_of_change_sized (C := Try.checked) own started (by kernel_rfl) Try.func4
    (ChangeSpec.witness6 (enc := enc) (C := Try.checked) (os := os) false ⟨#[], #[.agg #[.int .i64 0, .string ⟨#[]⟩, .string ⟨#[]⟩], .agg #[.int .i64 0, .string ⟨#[]⟩, .string ⟨#[]⟩]], []⟩ 8 (by kernel_rfl) (by kernel_rfl) (by kernel_rfl) (by kernel_rfl)) ?_
  intro W base args ds gs before hval0 hW _ _ _
  have hval : ∀ (j : Nat) t v, Try.f4.params[j]? = some t → args[j]? = some v → Value.okWide Try.prog W .any base t v := hval0
  have hW' := hW
  obtain ⟨p, q, hA0, hV, rfl, _, _⟩ := hW
  have hA : DataW.TrodAll enc Try.prog W 0 (fun _ => true) true Try.f4.params.toList args.toList ds p := hA0
  rw [Try.params4] at hA hval
  obtain ⟨v0, vs0, d0, ds0, p0, q0, hargs, rfl, rfl, h0, r0⟩ := trodAll_cons hA
  obtain ⟨v1, vs1, d1, ds1, p1, q1, rfl, rfl, rfl, h1, r1⟩ := trodAll_cons r0
  obtain ⟨rfl, rfl, rfl⟩ := trodAll_nil r1
  obtain rfl : args = #[v0, v1] := by cases args; simp_all
  obtain ⟨rfl, rfl⟩ := trodVars_none hV
  have k0 := h0
  have lt0 : ∀ x ∈ p0, x.block < W.heap.size := by obtain ⟨m, hm⟩ := k0; exact DataW.trod_lt m _ _ _ hm
  obtain ⟨u0, v0a, v0b, y0, y0a, y0b, n0, rfl, rfl, rfl, e0, e0a, e0b⟩ := Go.Joins.open_agg3 Try.underlying33 (by kernel_rfl) (by kernel_rfl) (hval 0 33 v0 rfl rfl) h0
  obtain ⟨mk0, hk0, -, wk0⟩ := DataW.trod_int Try.underlying3 e0
  obtain rfl : u0 = .int .i64 mk0 := by simpa using hk0
  obtain ⟨mn0, hn0, -, wn0⟩ := DataW.trod_string Try.underlying9 e0a
  obtain rfl : v0a = .string mn0 := by simpa using hn0
  obtain ⟨mv0, hv0, -, wv0⟩ := DataW.trod_string Try.underlying9 e0b
  obtain rfl : v0b = .string mv0 := by simpa using hv0
  have k1 := h1
  have lt1 : ∀ x ∈ p1, x.block < W.heap.size := by obtain ⟨m, hm⟩ := k1; exact DataW.trod_lt m _ _ _ hm
  obtain ⟨u1, v1a, v1b, y1, y1a, y1b, n1, rfl, rfl, rfl, e1, e1a, e1b⟩ := Go.Joins.open_agg3 Try.underlying33 (by kernel_rfl) (by kernel_rfl) (hval 1 33 v1 rfl rfl) h1
  obtain ⟨mk1, hk1, -, wk1⟩ := DataW.trod_int Try.underlying3 e1
  obtain rfl : u1 = .int .i64 mk1 := by simpa using hk1
  obtain ⟨mn1, hn1, -, wn1⟩ := DataW.trod_string Try.underlying9 e1a
  obtain rfl : v1a = .string mn1 := by simpa using hn1
  obtain ⟨mv1, hv1, -, wv1⟩ := DataW.trod_string Try.underlying9 e1b
  obtain rfl : v1b = .string mv1 := by simpa using hv1
  clear hA0 hval0
  refine (lawTx_any ⟨mk0, mn0, mv0⟩ ⟨mk1, mn1, mv1⟩ W ⟨wn0, wv0⟩ ⟨wn1, wv1⟩).mono fun e W' ⟨he, hg⟩ => ?_
  subst he
  have bel := hg.b
  exact ⟨_, rfl, _, _, _, [], _, [], hW', trodAll_mk1 (shut_bool Try.underlying4 _), (trodAll_cons_mk (Below.trod laidOut (by kernel_rfl) (of_decide_eq_true (by kernel_rfl)) k0 bel lt0) (trodAll_cons_mk (Below.trod laidOut (by kernel_rfl) (of_decide_eq_true (by kernel_rfl)) k1 bel lt1) trodAll_mk0)), rfl, bel.frame _, fun h => by cases h⟩

theorem said : Rows.MatchTextsSaid :=
  OpenClaim.holds_of_wide 4 Try.f4 rfl rfl rfl rfl rfl rfl rfl ⟨rfl, rfl, rfl, rfl, rfl⟩ rfl rfl rfl rfl rfl (by kernel_rfl) Try.func4 (by kernel_rfl)
    (of_decide_eq_true (by kernel_rfl)) (by unfold Func.isWrapper; first | (rw [if_pos (by decide +kernel)]; kernel_rfl) | (rw [if_neg (by decide +kernel)]; exact ⟨rfl, rfl⟩))
    (fun os started H enc _ => lifted os started H enc)

#print axioms said
end Go.Proofs.Ytnlfndhgdeapeaa.mtTx
