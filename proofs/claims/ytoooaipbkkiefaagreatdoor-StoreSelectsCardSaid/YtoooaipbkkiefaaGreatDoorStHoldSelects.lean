/- StoreSelects: for all inputs the law returns true and leaves its arguments as they were; the listed package variables read as their initialisers lay them (tied to the program's text). -/
import Derived.Test.YtoooaipbkkiefaaGreatDoorCards
import Derived.Test.YtoooaipbkkiefaaGreatDoorTie
import Derived.Test.YtoooaipbkkiefaaGreatDoorStLaid
import Derived.SevenTiedAt
import Derived.Stop.Joined
import Derived.ChangeOld
import Derived.Carry
namespace Go.Proofs.YtoooaipbkkiefaaGreatDoor.stSelects
open Go.ChangeShapes Go.WideShapes Go.ChangeAt Go.RowKit

theorem own : ownKnob Tryz.prog.godebug = none := by kernel_rfl
theorem laidOut : laidOutB Tryz.prog = true := by kernel_rfl

set_option maxRecDepth 100000 in
theorem known_of {W : World} (h : laidMetH Tryz.prog Rows.storeSelectsRow.laid W) : Kn W ∧ Tab W :=
  ⟨kn_of (laid_one _ _ (by kernel_rfl) (by kernel_rfl) h), tab_of (laid_one _ _ (by kernel_rfl) (by kernel_rfl) h)⟩

set_option maxRecDepth 100000 in
theorem lifted (os : Os) (started : os.Started) (H : Type) (enc : TypeId × Value → H) :
    ReturnsInHanded {} Tryz.checked os 4 .any (fun w args => (Rows.storeSelectsSpec.pre enc Tryz.prog Tryz.f4 Rows.storeSelectsRow.domain false w args ∧ laidMetH Tryz.prog Rows.storeSelectsRow.laid w) ∧ sizedMet enc Tryz.prog Tryz.f4 (OpenSpec.ofChange Rows.storeSelectsSpec) false w args)
      (Rows.storeSelectsSpec.post enc Tryz.prog Tryz.f4 false true false false) := by
  refine returnsInHanded_of_change_and (C := Tryz.checked) (X := fun w _ => laidMetH Tryz.prog Rows.storeSelectsRow.laid w) (fun _ _ _ hh h => h.of_heap hh) own started (by kernel_rfl) Tryz.func4
    (ChangeSpec.witness_shaped (enc := enc) (C := Tryz.checked) (os := os) (X := fun w _ => laidMetH Tryz.prog Rows.storeSelectsRow.laid w) false (World.laidAll Tryz.prog os Rows.storeSelectsRow.laid) #[.slice none 0 0, .agg #[.int .i64 0, .string ⟨#[]⟩, .string ⟨#[]⟩], .agg #[.int .i64 0, .string ⟨#[]⟩, .string ⟨#[]⟩]] 8 (World.laidAll_os _ _ _)
      (World.shaped_of_ZipB (by kernel_rfl) (by kernel_rfl)) (by kernel_rfl) (by kernel_rfl) (by kernel_rfl)
      (by rw [MakeChecks.laidMetH_plain _ _ _ (by kernel_rfl)]; exact laidMet_laidAll _ (by kernel_rfl) (by kernel_rfl))) ?_
  intro W base args ds gs before hval0 hW _ _ hL _
  have hval : ∀ (j : Nat) t v, Tryz.f4.params[j]? = some t → args[j]? = some v → Value.okWide Tryz.prog W .any base t v := hval0
  have hW' := hW
  obtain ⟨p, q, hA0, hV, rfl, _, _⟩ := hW
  have hA : DataW.TrodAll enc Tryz.prog W 0 (fun _ => true) true Tryz.f4.params.toList args.toList ds p := hA0
  rw [Tryz.params4] at hA hval
  obtain ⟨v0, vs0, d0, ds0, p0, q0, hargs, rfl, rfl, h0, r0⟩ := trodAll_cons hA
  obtain ⟨v1, vs1, d1, ds1, p1, q1, rfl, rfl, rfl, h1, r1⟩ := trodAll_cons r0
  obtain ⟨v2, vs2, d2, ds2, p2, q2, rfl, rfl, rfl, h2, r2⟩ := trodAll_cons r1
  obtain ⟨rfl, rfl, rfl⟩ := trodAll_nil r2
  obtain rfl : args = #[v0, v1, v2] := by cases args; simp_all
  obtain ⟨rfl, rfl⟩ := trodVars_none hV
  have k0 := h0
  have lt0 : ∀ x ∈ p0, x.block < W.heap.size := by obtain ⟨m, hm⟩ := k0; exact DataW.trod_lt m _ _ _ hm
  have s0 := okWide_slice Tryz.underlying22 (hval 0 22 v0 rfl rfl)
  obtain ⟨A0, c0, l0, rfl, lc0, mx0, o0, wd0, ll0⟩ := open_raws h0 s0
  have k1 := h1
  have lt1 : ∀ x ∈ p1, x.block < W.heap.size := by obtain ⟨m, hm⟩ := k1; exact DataW.trod_lt m _ _ _ hm
  obtain ⟨u1, v1a, v1b, y1, y1a, y1b, n1, rfl, rfl, rfl, e1, e1a, e1b⟩ := Go.Joins.open_agg3 Tryz.underlying49 (by kernel_rfl) (by kernel_rfl) (hval 1 49 v1 rfl rfl) h1
  obtain ⟨mk1, hk1, -, wk1⟩ := DataW.trod_int Tryz.underlying3 e1
  obtain rfl : u1 = .int .i64 mk1 := by simpa using hk1
  obtain ⟨mn1, hn1, -, wn1⟩ := DataW.trod_string Tryz.underlying9 e1a
  obtain rfl : v1a = .string mn1 := by simpa using hn1
  obtain ⟨mv1, hv1, -, wv1⟩ := DataW.trod_string Tryz.underlying9 e1b
  obtain rfl : v1b = .string mv1 := by simpa using hv1
  have k2 := h2
  have lt2 : ∀ x ∈ p2, x.block < W.heap.size := by obtain ⟨m, hm⟩ := k2; exact DataW.trod_lt m _ _ _ hm
  obtain ⟨u2, v2a, v2b, y2, y2a, y2b, n2, rfl, rfl, rfl, e2, e2a, e2b⟩ := Go.Joins.open_agg3 Tryz.underlying49 (by kernel_rfl) (by kernel_rfl) (hval 2 49 v2 rfl rfl) h2
  obtain ⟨mk2, hk2, -, wk2⟩ := DataW.trod_int Tryz.underlying3 e2
  obtain rfl : u2 = .int .i64 mk2 := by simpa using hk2
  obtain ⟨mn2, hn2, -, wn2⟩ := DataW.trod_string Tryz.underlying9 e2a
  obtain rfl : v2a = .string mn2 := by simpa using hn2
  obtain ⟨mv2, hv2, -, wv2⟩ := DataW.trod_string Tryz.underlying9 e2b
  obtain rfl : v2b = .string mv2 := by simpa using hv2
  clear hA0 hval0
  have hk := known_of hL
  refine (walkSel A0 c0 l0 ⟨mk1, mn1, mv1⟩ ⟨mk2, mn2, mv2⟩ W o0 wd0 mx0 ll0 (fun x hx => by rw [List.mem_singleton.1 hx]; exact ⟨wn1, wv1⟩) (fun x hx => by rw [List.mem_singleton.1 hx]; exact ⟨wn2, wv2⟩) hk.1 hk.2).mono fun e W' ⟨he, hg⟩ => ?_
  subst he
  have bel := hg.b
  exact ⟨_, rfl, _, _, _, [], _, [], hW', trodAll_mk1 (shut_bool Tryz.underlying4 _), (trodAll_cons_mk (Below.trod laidOut (by kernel_rfl) (of_decide_eq_true (by kernel_rfl)) k0 bel lt0) (trodAll_cons_mk (Below.trod laidOut (by kernel_rfl) (of_decide_eq_true (by kernel_rfl)) k1 bel lt1) (trodAll_cons_mk (Below.trod laidOut (by kernel_rfl) (of_decide_eq_true (by kernel_rfl)) k2 bel lt2) trodAll_mk0))), rfl, bel.frame _, fun h => by cases h⟩

theorem said : Rows.StoreSelectsSaid :=
  OpenClaim.holds_of_wide 4 Tryz.f4 rfl rfl rfl rfl rfl rfl rfl ⟨rfl, rfl, rfl, rfl, rfl⟩ rfl rfl rfl rfl rfl (by kernel_rfl) Tryz.func4 (by kernel_rfl)
    (of_decide_eq_true (by kernel_rfl)) (by unfold Func.isWrapper; first | (rw [if_pos (by decide +kernel)]; kernel_rfl) | (rw [if_neg (by decide +kernel)]; exact ⟨rfl, rfl⟩))
    (fun os started H enc _ => lifted os started H enc)

theorem plain (f : FuncId) (fn : Func) (hf : Tryz.pinned.checked.prog.funcNamed "isobar/isobarlaw6.StoreSelects" = some f) (hfn : Tryz.pinned.checked.prog.funcs[f]? = some fn) :
    false = Tryz.pinned.checked.prog.looks [] ∧ ∀ (j : Nat) t, fn.params[j]? = some t → Tryz.pinned.checked.prog.wantsStandIn t = false := by
  obtain rfl : f = 4 := Option.some.inj ((show Tryz.prog.funcNamed "isobar/isobarlaw6.StoreSelects" = some 4 by kernel_rfl).symm.trans hf) |>.symm
  obtain rfl : fn = Tryz.f4 := (Option.some.inj (Tryz.func4.symm.trans hfn)).symm
  refine ⟨by kernel_rfl, fun j t ht => ?_⟩
  rw [Tryz.params4] at ht
  have hm : t ∈ [22, 49, 49] := by simpa using Array.mem_of_getElem? ht
  have hall : ([22, 49, 49].all fun u => !Tryz.prog.wantsStandIn u) = true := by kernel_rfl
  exact (show Tryz.prog.wantsStandIn t = false by simpa using List.all_eq_true.1 hall t hm)

theorem card : Rows.StoreSelectsCardSaid :=
  Claim7.holds_tied_plain_at .later [] _ _ _ _ said (fun _ h => by cases h) (by kernel_rfl) (fun _ h => by cases h) storeSelects_row_tie rfl ⟨rfl, rfl⟩ (by kernel_rfl) rfl plain (by kernel_rfl)
#print axioms card
end Go.Proofs.YtoooaipbkkiefaaGreatDoor.stSelects
