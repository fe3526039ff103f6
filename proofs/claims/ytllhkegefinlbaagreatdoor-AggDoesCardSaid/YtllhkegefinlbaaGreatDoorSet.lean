/- Set, the program's. -/
import Derived.Test.YtllhkegefinlbaaGreatDoorDel
import Derived.Test.YtllhkegefinlbaaGreatDoorRefRight
namespace Go.Proofs.YtllhkegefinlbaaGreatDoor
open Go.RowKit Go.Sort
set_option maxRecDepth 100000
set_option maxHeartbeats 2000000

theorem flat_cells : ∀ (l : List Lb) (i : Nat) (x : Lb), l[i]? = some x → (l.flatMap encL)[i * 2]? = some (.string x.1) ∧ (l.flatMap encL)[i * 2 + 1]? = some (.string x.2)
  | [], i, x, h => by simp at h
  | y :: r, 0, x, h => by
    obtain rfl : y = x := by simpa using h
    exact ⟨rfl, rfl⟩
  | y :: r, i + 1, x, h => by
    have := flat_cells r i x (by simpa using h)
    rw [List.flatMap_cons, show (i + 1) * 2 = i * 2 + 1 + 1 by omega]
    exact this
theorem flat_len (l : List Lb) : (l.flatMap encL).length = l.length * 2 := by
  induction l with
  | nil => rfl
  | cons y r ih => rw [List.flatMap_cons, List.length_append, ih, List.length_cons]; show 2 + _ = _; omega
theorem flat_one (l : List Lb) : ∀ u ∈ l.flatMap encL, u.oneCell' = true := by
  intro u hu
  obtain ⟨x, -, hx⟩ := List.mem_flatMap.1 hu
  simp [encL] at hx
  rcases hx with rfl | rfl <;> rfl
theorem flat_at {W : World} {b o : Nat} {l : List Lb} (h : LabsAt W (some ⟨b, o, none⟩) l) : ∀ j u, (l.flatMap encL)[j]? = some u → W.cell? ⟨b, o + j, none⟩ = some u := by
  intro j u hu
  have hj : j < l.length * 2 := by have := (List.getElem?_eq_some_iff.1 hu).1; rwa [flat_len] at this
  obtain ⟨b', o', e, hc⟩ := h (by omega)
  injection e with e; injection e with e1 e2; subst e1; subst e2
  have hi : j / 2 < l.length := by omega
  have hx := List.getElem?_eq_getElem hi
  obtain ⟨c1, c2⟩ := hc _ _ hx
  obtain ⟨g1, g2⟩ := flat_cells l _ _ hx
  rcases Nat.mod_two_eq_zero_or_one j with e | e
  · have e2 : j / 2 * 2 = j := by omega
    rw [e2] at c1 g1
    rw [hu] at g1; cases g1; exact c1
  · have e2 : j / 2 * 2 + 1 = j := by omega
    rw [Nat.add_assoc, e2] at c2
    rw [e2] at g2
    rw [hu] at g2; cases g2; exact c2
theorem lab_info : (Tryz.prog.info? 42).map (fun i => (i.zero, i.size, i.bytes)) = some (some (.agg #[.string ⟨#[]⟩, .string ⟨#[]⟩]), 2, 32) := by kernel_rfl
/-- what a row of the call's own gives -/
theorem row_of_own {W : World} {base n : Nat} {v : Value} {l : List Lb} (h : W.ownsRow base 42 2 v n (l.flatMap encL)) (h0 : 0 < l.length) :
    ∃ g c, v = .slice (some ⟨g, 0, none⟩) l.length c ∧ base ≤ g ∧ l.length ≤ c ∧ c ≤ maxLen ∧ n = l.length ∧ Row W g 0 l := by
  have hl := h.1
  rw [flat_len] at hl
  have hn : n = l.length := by omega
  have hcell := fun g (hg : v.ownBlock = some g) => h.cells hg
  rcases h.2 with ⟨_, e0⟩ | ⟨g, cap, cur, rfl, hb, hg, hnc, hm, hs, ht⟩
  · omega
  · subst hn
    refine ⟨g, cap, rfl, hb, hnc, hm, rfl, fun i x hx => ?_⟩
    have hadd : ∀ j, (⟨g, 0, none⟩ : Addr).add j = ⟨g, j, none⟩ := fun j => by unfold Addr.add; split <;> simp_all
    obtain ⟨c1, c2⟩ := flat_cells l i x hx
    have d1 := hcell g rfl _ _ c1
    have d2 := hcell g rfl _ _ c2
    rw [hadd] at d1 d2
    have hf : ∀ j, W.frozen? ⟨g, j, none⟩ = false := fun j => by simp [World.frozen?, hg]
    rw [Nat.zero_add]
    exact ⟨⟨d1, hf _⟩, d2, hf _⟩
theorem clone_any (b o c : Nat) (l : List Lb) (w : World) (h : LabsAt w (some ⟨b, o, none⟩) l) (h0 : 0 < l.length) (hl : l.length ≤ 1099511627776) :
    Calls Tryz.prog 34 #[.slice (some ⟨b, o, none⟩) l.length c] w fun e w' => ∃ g o' c', e = .returned (.slice (some ⟨g, o', none⟩) l.length c') ∧ w.heap.size ≤ g ∧ l.length ≤ c' ∧ c' ≤ maxLen ∧ Row w' g o' l ∧ Gr w w' := by
  obtain ⟨i0, hi, hz0, hz1, hz2⟩ := info_parts lab_info
  have hcon := AnyE.slices_Clone Tryz.cloneL i0 (.agg #[.string ⟨#[]⟩, .string ⟨#[]⟩]) 2 32 hi hz0 hz1 hz2 rfl (by omega) Tryz.sizeOf42 b o l.length c (l.flatMap encL) w (flat_len l) (by unfold maxLen; omega) (by omega) (flat_at h) (flat_one l)
  change Calls Tryz.prog 34 _ _ _ at hcon
  refine hcon.mono fun e w' ⟨v', he, hown, _, hb⟩ => ?_
  obtain ⟨g, c', rfl, hg, h1, h2, _, hR⟩ := row_of_own hown h0
  exact ⟨g, 0, c', he, hg, h1, h2, hR, ⟨hb⟩⟩
theorem clone_none (A : Option Addr) (c : Nat) (w : World) :
    Calls Tryz.prog 34 #[.slice A 0 c] w fun e w' => ∃ A' c', e = .returned (.slice A' 0 c') ∧ Gr w w' := by
  have q22 : ∀ (w : World) (a : Option Addr) (n c n' c' : Nat), (binOp .eql 43 (.slice a n c) (.slice none n' c')).run Tryz.prog w = .ok (.bool a.isNone) w := fun w a n c n' c' => Lib.run_eql_slice_nil w _ _ a n c n' c' Tryz.underlying43
  cases A with
  | none =>
    go_enter Tryz.func34, Tryz.ntmps34
    go_wp2
    go_ret
    exact ⟨none, 0, rfl, Gr.refl _⟩
  | some a =>
    go_enter Tryz.func34, Tryz.ntmps34
    go_wp2
    go_ret
    exact ⟨_, _, rfl, (Gr.refl _).alloc _ _⟩

/-! Set -/
def okNTo (l : List Lb) (k : Nat) : Prop := ∀ x ∈ l.take k, okN x = true
theorem okNTo_s {l : List Lb} {k : Nat} (hk : k < l.length) (h : okNTo l k) (g : okN l[k] = true) : okNTo l (k + 1) := by
  intro y hy
  rw [List.take_succ_eq_append_getElem hk] at hy
  rcases List.mem_append.1 hy with hy | hy
  · exact h y hy
  · rw [List.mem_singleton] at hy; rw [hy]; exact g
theorem setB_no {l : List Lb} (h : ¬ setP l) : setB l = false := by
  cases e : setB l
  · rfl
  · exact absurd (setB_t.1 e).1 h
theorem setB_notok {l : List Lb} {k : Nat} (hk : k < l.length) (h : okN l[k] = false) : setB l = false :=
  setB_no fun hp => by have := hp.1 _ (List.getElem_mem hk); rw [h] at this; cases this
def noTw (s : List Lb) (k : Nat) : Prop := ∀ i x y, i + 1 < k → s[i]? = some x → s[i + 1]? = some y → x.1 ≠ y.1
theorem noTw_s {s : List Lb} {k : Nat} {x y : Lb} (h : noTw s (k + 1)) (hx : s[k]? = some x) (hy : s[k + 1]? = some y) (hne : x.1 ≠ y.1) : noTw s (k + 2) := by
  intro i a b hi ha hb
  by_cases e : i = k
  · subst e; rw [hx] at ha; rw [hy] at hb; cases ha; cases hb; exact hne
  · exact h i a b (by omega) ha hb
theorem noTw_end {s : List Lb} (h : noTw s s.length) : ¬ twin s := by
  rintro ⟨i, x, y, hx, hy, e⟩
  exact h i x y (List.getElem?_eq_some_iff.1 hy).1 hx hy e
theorem sortL_len (l : List Lb) : (sortL l).length = l.length := (sortL_perm l).length_eq
theorem setV_f {l : List Lb} (h : setB l = false) : setV l = [] ∧ setE l = 1 := by simp [setV, setE, h]
theorem setV_t {l : List Lb} (h : setB l = true) : setV l = setL l ∧ setE l = 0 := by simp [setV, setE, h]

def SetPost (l : List Lb) (w : World) (e : Ending) (w' : World) : Prop :=
  ∃ A c, e = .returned (.tuple #[.slice A (setV l).length c, .int .i64 (setE l)]) ∧ LabsAt w' A (setV l) ∧ Gr w w'
theorem SetPost.no {l : List Lb} {w w' : World} (h : setB l = false) (g : Gr w w') : SetPost l w (.returned (.tuple #[.slice none 0 0, .int .i64 1])) w' :=
  ⟨none, 0, by rw [(setV_f h).1, (setV_f h).2]; rfl, by rw [(setV_f h).1]; exact LabsAt.none_ _ _, g⟩
theorem SetPost.yes {l : List Lb} {w w' : World} {A : Option Addr} {c n : Nat} (h : setB l = true) (hn : n = (setL l).length) (hl : LabsAt w' A (setL l)) (g : Gr w w') : SetPost l w (.returned (.tuple #[.slice A n c, .int .i64 0])) w' :=
  ⟨A, c, by rw [(setV_t h).1, (setV_t h).2, hn], by rw [(setV_t h).1]; exact hl, g⟩

end Go.Proofs.YtllhkegefinlbaaGreatDoor
