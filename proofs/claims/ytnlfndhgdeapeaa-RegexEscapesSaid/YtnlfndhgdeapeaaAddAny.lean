/- add; build. -/
import Derived.Test.YtnlfndhgdeapeaaEitherW
namespace Go.Proofs.Ytnlfndhgdeapeaa
open Go.RowKit
set_option maxRecDepth 100000
set_option maxHeartbeats 4000000

theorem add_alt (l : List Nd) (ih : ∀ n ∈ l, AddC n) : AddC (.op 2 l) := by
  intro B g b X S nv v w h hB hX hn hw hbd
  obtain ⟨A, pb, c, val, rfl, hc1, hc2, hP, hXp, hns⟩ := hn.parts
  unfold Wf at hw
  unfold bd at hbd
  obtain ⟨l', m, rfl⟩ : ∃ l' m, l = l' ++ [m] := by
    have h0 : l ≠ [] := by
      rcases hw.2 with e | ⟨-, e⟩ | ⟨e, -⟩
      · omega
      · exact e
      · omega
    exact ⟨l.dropLast, l.getLast h0, (List.dropLast_concat_getLast h0).symm⟩
  have CE := Lib.hid (fun W (k : Gr w W) => addEither_any l' m ih B g b X S A c v W (h.gr k) (Nat.le_trans hB k.size) hX pb val (fun h0 => ⟨(hP h0).1, fun j hj i => k.cell ((hP h0).2 j hj i)⟩) hXp hc1 hc2 (fun i hi => (hns i hi).gr k) hw.1 hbd)
  have e2 : addS (.op 2 (l' ++ [m])) b S = addAlt (l' ++ [m]) b S := by
    conv => lhs; unfold addS
    rfl
  rw [e2]
  obtain ⟨L, hL⟩ : ∃ L, (l' ++ [m]).length = L := ⟨_, rfl⟩
  obtain ⟨r, hr⟩ : ∃ r, addAlt (l' ++ [m]) b S = r := ⟨_, rfl⟩
  rw [hL, hr] at CE
  rw [hL, hr]
  clear hP hns hn ih hw hbd hXp hc1 hc2 h hL hr
  go_enter Try.func43, Try.ntmps43
  go_wp2_with (go_at_call 56; refine (CE.out _ (Gr3 w _ _ _ _ _ _)).mono ?_; rintro e w1 ⟨rfl, v', hb', hs'⟩)
  go_ret
  exact ⟨rfl, v', hb', (Gr3 w _ _ _ _ _ _).bstep hs'⟩
theorem add_loop (k : Nat) (hk : k = 3 ∨ k = 4) (n : Nd) (ih : AddC n) : AddC (.op k [n]) := by
  intro B g b X S nv v w h hB hX hn hw hbd
  unfold Wf WfL at hw
  unfold bd bdm at hbd
  have hwn := hw.1.1
  have CE := Lib.hid (fun W (q : Gr w W) => addLoop_any k hk n ih B g b X S nv v W (h.gr q) (Nat.le_trans hB q.size) hX (hn.gr q) hwn (by omega))
  obtain ⟨pb, c, x, rfl, -⟩ := hn.part
  have e2 : addS (.op k [n]) b S = loopEnd k S.length b (addS n S.length (S ++ [⟨noB, true, 0, b⟩])) := by
    conv => lhs; unfold addS
    rw [if_neg (by omega), if_neg (by omega), if_neg (by omega)]
    unfold addHead
    rfl
  rw [e2]
  obtain ⟨r, hr⟩ : ∃ r, loopEnd k S.length b (addS n S.length (S ++ [⟨noB, true, 0, b⟩])) = r := ⟨_, rfl⟩
  rw [hr] at CE
  rw [hr]
  clear hn ih hw hbd h hr hwn
  rcases hk with rfl | rfl
  · go_enter Try.func43, Try.ntmps43
    go_wp2_with (go_at_call 57; refine (CE.out _ (Gr3 w _ _ _ _ _ _)).mono ?_; rintro e w1 ⟨rfl, v', hb', hs'⟩)
    go_ret
    exact ⟨rfl, v', hb', (Gr3 w _ _ _ _ _ _).bstep hs'⟩
  · go_enter Try.func43, Try.ntmps43
    go_wp2_with (go_at_call 57; refine (CE.out _ (Gr3 w _ _ _ _ _ _)).mono ?_; rintro e w1 ⟨rfl, v', hb', hs'⟩)
    go_ret
    exact ⟨rfl, v', hb', (Gr3 w _ _ _ _ _ _).bstep hs'⟩
theorem addN_any : ∀ n, AddC n := Nd.all add_one fun k l ih => by
  by_cases h1 : k = 1
  · subst h1; exact add_turn l ih
  by_cases h2 : k = 2
  · subst h2; exact add_alt l ih
  intro B g b X S nv v w h hB hX hn hw hbd
  have hw0 := hw
  unfold Wf at hw
  have hl : l.length = 1 ∧ (k = 3 ∨ k = 4 ∨ k = 5) := by
    rcases hw.2 with e | ⟨e, -⟩ | ⟨e, e2⟩
    · omega
    · omega
    · exact ⟨e2, e⟩
  obtain ⟨n, rfl⟩ := List.length_eq_one_iff.1 hl.1
  rcases hl.2 with rfl | rfl | rfl
  · exact add_loop 3 (.inl rfl) n (ih n (by simp)) B g b X S nv v w h hB hX hn hw0 hbd
  · exact add_loop 4 (.inr rfl) n (ih n (by simp)) B g b X S nv v w h hB hX hn hw0 hbd
  · exact add_opt n (ih n (by simp)) B g b X S nv v w h hB hX hn hw0 hbd
end Go.Proofs.Ytnlfndhgdeapeaa
