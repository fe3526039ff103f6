/- build. -/
import Derived.Test.YtnlfndhgdeapeaaEitherW
namespace Go.Proofs.Ytnlfndhgdeapeaa
open Go.RowKit
set_option maxRecDepth 100000
set_option maxHeartbeats 4000000

theorem add_alt (l : List Nd) (ih : ∀ n ∈ l, AddC n) : AddC (.op 2 l) := by
  intro B g b X S nv v w h hB hX hn hw hbd
  obtain ⟨A, pb, c, val, rfl, hc1, hc2, hP, hXp, hns⟩ := hn.parts
  unfold Wf at hw
  unfold bd at hbd
  obtain ⟨l', m, rfl⟩ : ∃ l' m, l = l' ++ [m] := by
    have h0 : l ≠ [] := by
      rcases hw.2 with e | ⟨-, e⟩ | ⟨e, -⟩
      · omega
      · exact e
      · omega
    exact ⟨l.dropLast, l.getLast h0, (List.dropLast_concat_getLast h0).symm⟩
  have CE := Lib.hid (fun W (k : Gr w W) => addEither_any l' m ih B g b X S A c v W (h.gr k) (Nat.le_trans hB k.size) hX pb val (fun h0 => ⟨(hP h0).1, fun j hj i => k.cell ((hP h0).2 j hj i)⟩) hXp hc1 hc2 (fun i hi => (hns i hi).gr k) hw.1 hbd)
  have e2 : addS (.op 2 (l' ++ [m])) b S = addAlt (l' ++ [m]) b S := by
    conv => lhs; unfold addS
    rfl
  rw [e2]
  obtain ⟨L, hL⟩ : ∃ L, (l' ++ [m]).length = L := ⟨_, rfl⟩
  obtain ⟨r, hr⟩ : ∃ r, addAlt (l' ++ [m]) b S = r := ⟨_, rfl⟩
  rw [hL, hr] at CE
  rw [hL, hr]
  clear hP hns hn ih hw hbd hXp hc1 hc2 h hL hr
  go_enter Try.func43, Try.ntmps43
  go_wp2_with (go_at_call 56; refine (CE.out _ (Gr3 w _ _ _ _ _ _)).mono ?_; rintro e w1 ⟨rfl, v', hb', hs'⟩)
  go_ret
  exact ⟨rfl, v', hb', (Gr3 w _ _ _ _ _ _).bstep hs'⟩
theorem add_loop (k : Nat) (hk : k = 3 ∨ k = 4) (n : Nd) (ih : AddC n) : AddC (.op k [n]) := by
  intro B g b X S nv v w h hB hX hn hw hbd
  unfold Wf WfL at hw
  unfold bd bdm at hbd
  have hwn := hw.1.1
  have CE := Lib.hid (fun W (q : Gr w W) => addLoop_any k hk n ih B g b X S nv v W (h.gr q) (Nat.le_trans hB q.size) hX (hn.gr q) hwn (by omega))
  obtain ⟨pb, c, x, rfl, -⟩ := hn.part
  have e2 : addS (.op k [n]) b S = loopEnd k S.length b (addS n S.length (S ++ [⟨noB, true, 0, b⟩])) := by
    conv => lhs; unfold addS
    rw [if_neg (by omega), if_neg (by omega), if_neg (by omega)]
    unfold addHead
    rfl
  rw [e2]
  obtain ⟨r, hr⟩ : ∃ r, loopEnd k S.length b (addS n S.length (S ++ [⟨noB, true, 0, b⟩])) = r := ⟨_, rfl⟩
  rw [hr] at CE
  rw [hr]
  clear hn ih hw hbd h hr hwn
  rcases hk with rfl | rfl
  · go_enter Try.func43, Try.ntmps43
    go_wp2_with (go_at_call 57; refine (CE.out _ (Gr3 w _ _ _ _ _ _)).mono ?_; rintro e w1 ⟨rfl, v', hb', hs'⟩)
    go_ret
    exact ⟨rfl, v', hb', (Gr3 w _ _ _ _ _ _).bstep hs'⟩
  · go_enter Try.func43, Try.ntmps43
    go_wp2_with (go_at_call 57; refine (CE.out _ (Gr3 w _ _ _ _ _ _)).mono ?_; rintro e w1 ⟨rfl, v', hb', hs'⟩)
    go_ret
    exact ⟨rfl, v', hb', (Gr3 w _ _ _ _ _ _).bstep hs'⟩
theorem addN_any : ∀ n, AddC n := Nd.all add_one fun k l ih => by
  by_cases h1 : k = 1
  · subst h1; exact add_turn l ih
  by_cases h2 : k = 2
  · subst h2; exact add_alt l ih
  intro B g b X S nv v w h hB hX hn hw hbd
  have hw0 := hw
  unfold Wf at hw
  have hl : l.length = 1 ∧ (k = 3 ∨ k = 4 ∨ k = 5) := by
    rcases hw.2 with e | ⟨e, -⟩ | ⟨e, e2⟩
    · omega
    · omega
    · exact ⟨e2, e⟩
  obtain ⟨n, rfl⟩ := List.length_eq_one_iff.1 hl.1
  rcases hl.2 with rfl | rfl | rfl
  · exact add_loop 3 (.inl rfl) n (ih n (by simp)) B g b X S nv v w h hB hX hn hw0 hbd
  · exact add_loop 4 (.inr rfl) n (ih n (by simp)) B g b X S nv v w h hB hX hn hw0 hbd
  · exact add_opt n (ih n (by simp)) B g b X S nv v w h hB hX hn hw0 hbd
end Go.Proofs.Ytnlfndhgdeapeaa
namespace Go.Proofs.Ytnlfndhgdeapeaa
open Go.RowKit
set_option maxRecDepth 100000
set_option maxHeartbeats 4000000

def endSt : St := ⟨noB, false, 0, 0⟩
def buildS (n : Nd) : List St × Nat := addS n 0 [endSt]
/-- a pattern's states in memory -/
def ProgAt (W : World) (P : Nat) (r : List St × Nat) : Prop := ∃ v, W.heap[P]? = some (.cells #[v, .int .i64 r.2] 72 (0, 0)) ∧ RowSt W 0 v r.1
theorem RowSt.mono {W : World} {B B' : Nat} {v : Value} {l : List St} (h : RowSt W B v l) (hB : B' ≤ B) : RowSt W B' v l := by
  obtain ⟨vs, h1, h2, h3⟩ := h
  refine ⟨vs, h1, ⟨h2.1, ?_⟩, h3⟩
  rcases h2.2 with e | ⟨g, cap, cur, e1, e2, e3⟩
  · exact .inl e
  · exact .inr ⟨g, cap, cur, e1, by omega, e3⟩
theorem ProgAt.gr {W W' : World} {P : Nat} {r : List St × Nat} (h : ProgAt W P r) (k : Gr W W') : ProgAt W' P r := by
  obtain ⟨v, h1, h2⟩ := h
  exact ⟨v, (k.b.block _ (Array.getElem?_eq_some_iff.1 h1).1).trans h1, h2.keep fun c e => k.b.block c (h2.lt c e).2⟩
theorem row_one (W : World) (B : Nat) (hB : B ≤ W.heap.size) : RowSt (W.alloc (.cells #[.int .u64 0, .int .u64 0, .int .u64 0, .int .u64 0, .bool false, .int .i64 0, .int .i64 0] 78)) B (.slice (some ⟨W.heap.size, 0, none⟩) 1 1) [endSt] :=
  ⟨[stF 0 0 0 0 false 0 0], rfl, ⟨rfl, .inr ⟨W.heap.size, 1, _, rfl, hB, heap_alloc_new W _, Nat.le_refl _, by unfold maxLen; omega, rfl, rfl⟩⟩, fun i s x hs hx => by
    match i with
    | 0 =>
      obtain rfl := Option.some.inj hs
      obtain rfl := Option.some.inj hx
      exact ⟨0, 0, 0, 0, rfl, wd_none 0, wd_none 1, wd_none 2, wd_none 3⟩
    | i + 1 => cases hs⟩
theorem build_any (n : Nd) (nv : Value) (X : Nat → Prop) (w : World) (hX : ∀ c, X c → c < w.heap.size) (hn : NodeV w X n nv) (hw : Wf n) (hbd : 1 + bd n ≤ 1000000000000) :
    Calls Try.prog 24 #[nv] w fun e w' => ∃ P, e = .returned (.pointer (some ⟨P, 0, none⟩)) ∧ ProgAt w' P (buildS n) ∧ Gr w w' := by
  have CA := Lib.hid (fun W (q : Gr w W) g v (h : Bld w.heap.size g W [endSt] v) => addN_any n w.heap.size g 0 X [endSt] nv v W h q.size hX (hn.gr q) hw (by simp; omega))
  obtain ⟨k, u0, u1, u2, u3, m, c, A, rfl⟩ := node_form hn
  clear hn hw hbd hX
  unfold buildS
  obtain ⟨r, hr⟩ : ∃ r, addS n 0 [endSt] = r := ⟨_, rfl⟩
  rw [hr] at CA
  rw [hr]
  obtain ⟨S1, f1⟩ := r
  replace CA : Hid (∀ W, Gr w W → ∀ g v, Bld w.heap.size g W [endSt] v → Calls Try.prog 43 #[.pointer (some ⟨g, 0, none⟩), .agg #[.int .i64 k, .int .u64 u0, .int .u64 u1, .int .u64 u2, .int .u64 u3, .slice A m c], .int .i64 (0 : Nat)] W (fun e w' => e = .returned (.int .i64 f1) ∧ ∃ v', Bld w.heap.size g w' S1 v' ∧ BStep g W v w' v')) := CA
  clear hr
  go_enter Try.func24, Try.ntmps24
  go_wp2_with fail
  have s1 : (w.alloc (.cells #[.int .i64 k, .int .u64 u0, .int .u64 u1, .int .u64 u2, .int .u64 u3, .slice A m c] 57)).heap.size = w.heap.size + 1 := by simp
  have s2 : ((w.alloc (.cells #[.int .i64 k, .int .u64 u0, .int .u64 u1, .int .u64 u2, .int .u64 u3, .slice A m c] 57)).alloc (.cells #[.int .u64 0, .int .u64 0, .int .u64 0, .int .u64 0, .bool false, .int .i64 0, .int .i64 0] 78)).heap.size = w.heap.size + 1 + 1 := by simp
  have r1 := row_one (w.alloc (.cells #[.int .i64 k, .int .u64 u0, .int .u64 u1, .int .u64 u2, .int .u64 u3, .slice A m c] 57)) w.heap.size (by omega)
  rw [s1] at r1
  have g3 : Gr ((w.alloc (.cells #[.int .i64 k, .int .u64 u0, .int .u64 u1, .int .u64 u2, .int .u64 u3, .slice A m c] 57)).alloc (.cells #[.int .u64 0, .int .u64 0, .int .u64 0, .int .u64 0, .bool false, .int .i64 0, .int .i64 0] 78)) (((w.alloc (.cells #[.int .i64 k, .int .u64 u0, .int .u64 u1, .int .u64 u2, .int .u64 u3, .slice A m c] 57)).alloc (.cells #[.int .u64 0, .int .u64 0, .int .u64 0, .int .u64 0, .bool false, .int .i64 0, .int .i64 0] 78)).alloc (.cells #[.slice (some ⟨w.heap.size + 1, 0, none⟩) 1 1] 95)) := (Gr.refl _).alloc _ _
  have c3 := heap_alloc_new ((w.alloc (.cells #[.int .i64 k, .int .u64 u0, .int .u64 u1, .int .u64 u2, .int .u64 u3, .slice A m c] 57)).alloc (.cells #[.int .u64 0, .int .u64 0, .int .u64 0, .int .u64 0, .bool false, .int .i64 0, .int .i64 0] 78)) (.cells #[.slice (some ⟨w.heap.size + 1, 0, none⟩) 1 1] 95)
  rw [s2] at c3
  have hb : Bld w.heap.size (w.heap.size + 1 + 1) (((w.alloc (.cells #[.int .i64 k, .int .u64 u0, .int .u64 u1, .int .u64 u2, .int .u64 u3, .slice A m c] 57)).alloc (.cells #[.int .u64 0, .int .u64 0, .int .u64 0, .int .u64 0, .bool false, .int .i64 0, .int .i64 0] 78)).alloc (.cells #[.slice (some ⟨w.heap.size + 1, 0, none⟩) 1 1] 95)) [endSt] (.slice (some ⟨w.heap.size + 1, 0, none⟩) 1 1) :=
    ⟨c3, r1.keep (fun j e => g3.b.block _ (by have : w.heap.size + 1 = j := by simpa [Value.ownBlock] using e
                                              omega)), by simp [Value.ownBlock], by omega⟩
  have gw : Gr w (((w.alloc (.cells #[.int .i64 k, .int .u64 u0, .int .u64 u1, .int .u64 u2, .int .u64 u3, .slice A m c] 57)).alloc (.cells #[.int .u64 0, .int .u64 0, .int .u64 0, .int .u64 0, .bool false, .int .i64 0, .int .i64 0] 78)).alloc (.cells #[.slice (some ⟨w.heap.size + 1, 0, none⟩) 1 1] 95)) := (((Gr.refl w).alloc _ _).alloc _ _).alloc _ _
  refine (CA.out _ gw _ _ hb).mono ?_
  rintro e w1 ⟨rfl, v1, hb1, hs1⟩
  have G1 : Gr w w1 := ⟨gw.b.trans (hs1.below hb gw.size)⟩
  have cg := hb1.cell
  obtain ⟨c0, -⟩ := cg
  obtain ⟨A1, cc1, rfl⟩ := hb1.r.form
  have HF := Lib.hid (show (∃ P, Ending.returned (.pointer (some ⟨w1.heap.size, 0, none⟩)) = .returned (.pointer (some ⟨P, 0, none⟩)) ∧ ProgAt (w1.alloc (.cells #[.slice A1 S1.length cc1, .int .i64 f1] 72)) P (S1, f1) ∧ Gr w (w1.alloc (.cells #[.slice A1 S1.length cc1, .int .i64 f1] 72))) from
    ⟨_, rfl, ⟨_, heap_alloc_new w1 _, (hb1.r.mono (Nat.zero_le _)).keep fun j e => ((Gr.refl w1).alloc _ _).b.block j (hb1.r.lt j e).2⟩, G1.alloc _ _⟩)
  clear hb1 hs1 hb G1 c3 r1 g3 gw CA s1 s2
  go_wp2_with fail
  go_ret
  exact HF.out
end Go.Proofs.Ytnlfndhgdeapeaa
