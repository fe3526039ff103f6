/- addLoop; add at a loop. -/
import Derived.Test.YtnbanlakmalbhaaAddOpt
namespace Go.Proofs.Ytnbanlakmalbhaa
open Go.RowKit
set_option maxRecDepth 100000
set_option maxHeartbeats 4000000

theorem flat7_set : ∀ (vs : List (Fin 7 → Value)) (i : Nat) (x y : Fin 7 → Value) (u : Value), vs[i]? = some x → (∀ j : Fin 7, y j = if j = 5 then u else x j) → (vs.flatMap cells7).set (i * 7 + 5) u = (vs.set i y).flatMap cells7
  | [], i, x, y, u, h, hy => by simp at h
  | z :: r, 0, x, y, u, h, hy => by
    obtain rfl : z = x := by simpa using h
    have := hy 0; have := hy 1; have := hy 2; have := hy 3; have := hy 4; have := hy 5; have := hy 6
    simp_all [cells7]
  | z :: r, i + 1, x, y, u, h, hy => by
    have := flat7_set r i x y u (by simpa using h) hy
    rw [List.set_cons_succ, List.flatMap_cons, List.flatMap_cons, ← this, List.set_append_right _ _ (by simp [cells7]; omega)]
    congr 2
    simp [cells7]
    omega
theorem RowSt.setNext {W : World} {B : Nat} {v : Value} {l : List St} {i : Nat} {s : St} (h : RowSt W B v l) (hi : l[i]? = some s) (n : Nat) :
    ∃ pb c, v = .slice (some ⟨pb, 0, none⟩) l.length c ∧ W.cell? ⟨pb, i * 7 + 5, none⟩ = some (.int .i64 s.nx) ∧ W.frozen? ⟨pb, i * 7 + 5, none⟩ = false ∧ RowSt (W.setCell ⟨pb, i * 7 + 5, none⟩ (.int .i64 n)) B v (l.set i ⟨s.p, s.fork, n, s.ot⟩) := by
  obtain ⟨vs, h1, h2, h3⟩ := h
  have hil := (List.getElem?_eq_some_iff.1 hi).1
  rcases h2.2 with ⟨e, e2⟩ | ⟨pb, cap, cur, rfl, e2, e3, e4, e5, e6, e7⟩
  · omega
  have hiv : i < vs.length := by omega
  have hx : vs[i]? = some vs[i] := List.getElem?_eq_getElem hiv
  have hs := h3 i s _ hi hx
  have hc : ∀ j : Fin 7, cur[i * 7 + j.val]? = some (vs[i] j) := fun j => by
    have := cells7_get vs i _ j hx
    rw [← e7, List.getElem?_take_of_lt (by have := j.isLt; omega)] at this
    simpa using this
  have hadd : ∀ j, (⟨pb, 0, none⟩ : Addr).add j = ⟨pb, j, none⟩ := fun j => by unfold Addr.add; split <;> simp_all
  obtain ⟨u0, u1, u2, u3, ex, q⟩ := hs
  have h5 := hc 5
  rw [ex] at h5
  refine ⟨pb, cap, rfl, (cell_of_row W pb _ cur _ (0, 0) e3).trans h5, frozen_of_row W pb _ cur _ e3, ?_⟩
  have hset := heap_setCell_same W pb (i * 7 + 5) cur 69 (.int .i64 n) e3
  refine ⟨vs.set i (stF u0 u1 u2 u3 s.fork n s.ot), by simp [h1], ⟨by rw [cells7_len]; simp [h1], .inr ⟨pb, cap, cur.setIfInBounds (i * 7 + 5) (.int .i64 n), by simp, e2, hset, by simpa using e4, e5, by simpa using e6, ?_⟩⟩, fun j t y hj hy => ?_⟩
  · rw [Array.toList_setIfInBounds, List.length_set, List.take_set, e7]
    refine flat7_set vs i vs[i] _ _ hx fun j => ?_
    rw [ex]
    match j with
    | 0 => rfl
    | 1 => rfl
    | 2 => rfl
    | 3 => rfl
    | 4 => rfl
    | 5 => rfl
    | 6 => rfl
  · by_cases e : i = j
    · subst e
      rw [List.getElem?_set_self (by omega)] at hj
      rw [List.getElem?_set_self (by omega)] at hy
      obtain rfl := Option.some.inj hj
      obtain rfl := Option.some.inj hy
      exact ⟨u0, u1, u2, u3, rfl, q⟩
    · rw [List.getElem?_set_ne e] at hj
      rw [List.getElem?_set_ne e] at hy
      exact h3 j t y hj hy
/-- a state's way on is laid -/
theorem Bld.setNext {B g : Nat} {W : World} {S : List St} {v : Value} {i : Nat} {s : St} (h : Bld B g W S v) (hi : S[i]? = some s) (n : Nat) :
    ∃ pb c, v = .slice (some ⟨pb, 0, none⟩) S.length c ∧ W.cell? ⟨pb, i * 7 + 5, none⟩ = some (.int .i64 s.nx) ∧ W.frozen? ⟨pb, i * 7 + 5, none⟩ = false ∧ Bld B g (W.setCell ⟨pb, i * 7 + 5, none⟩ (.int .i64 n)) (S.set i ⟨s.p, s.fork, n, s.ot⟩) v ∧ BStep g W v (W.setCell ⟨pb, i * 7 + 5, none⟩ (.int .i64 n)) v := by
  obtain ⟨pb, c, e, h1, h2, h3⟩ := h.r.setNext hi n
  have hne : pb ≠ g := fun e2 => h.n (by rw [e, e2]; rfl)
  refine ⟨pb, c, e, h1, h2, ⟨(Below.heap_setCell W _ _ g (by show g ≠ pb; omega)).trans h.c, h3, h.n, h.b⟩, rfl, rfl, rfl, by simp [World.setCell], fun k hk hkg hkv => Below.heap_setCell W _ _ k (by show k ≠ pb; rintro rfl; exact hkv (by rw [e]; rfl)), .inl rfl⟩
theorem addS_keeps : ∀ n, ∀ (b : Nat) (S : List St) (i : Nat), i < S.length → (addS n b S).1[i]? = S[i]? := by
  have hd : ∀ (l : List Nd), (∀ n ∈ l, ∀ (b : Nat) (S : List St) (i : Nat), i < S.length → (addS n b S).1[i]? = S[i]?) → ∀ (b : Nat) (S : List St) (i : Nat), i < S.length → (addHead l b S).1[i]? = S[i]? := fun l hl b S i hi => by
    cases l with
    | nil => unfold addHead; rfl
    | cons n r => unfold addHead; exact hl n (by simp) b S i hi
  refine Nd.all (fun p b S i hi => ?_) (fun k l hl b S i hi => ?_)
  · unfold addS
    rw [List.getElem?_append_left hi]
  · unfold addS
    split
    · clear hd
      induction l generalizing b S with
      | nil => unfold addTurn; rfl
      | cons n r ih =>
        unfold addTurn
        rw [hl n (by simp) _ _ i (by have := (addTurn_len r b S).1; omega), ih (fun m hm => hl m (by simp [hm])) b S hi]
    split
    · clear hd
      induction l generalizing b S with
      | nil => unfold addAlt; rfl
      | cons n r ih =>
        unfold addAlt
        split
        · exact hl n (by simp) b S i hi
        · have h1 := (addAlt_len r b S).1
          have h2 := (addS_len n b (addAlt r b S).1).1
          unfold forkOn
          rw [List.getElem?_append_left (by omega), hl n (by simp) _ _ i (by omega), ih (fun m hm => hl m (by simp [hm])) b S hi]
    split
    · unfold forkOn
      rw [List.getElem?_append_left (by have := (addHead_len l b S).1; omega), hd l hl b S i hi]
    · unfold loopEnd
      rw [List.getElem?_set_ne (by omega), hd l hl _ _ i (by simp; omega), List.getElem?_append_left hi]
end Go.Proofs.Ytnbanlakmalbhaa
