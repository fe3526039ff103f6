/- Series in the order of their labels: the library's sort. -/
import Derived.Test.YtoooaipbkkiefaaGreatDoorGatW
import Derived.Test.YtoooaipbkkiefaaGreatDoorCmpG
import Derived.Test.YtoooaipbkkiefaaGreatDoorSettle
namespace Go.Proofs.YtoooaipbkkiefaaGreatDoor
open Go.RowKit Go.Sort
set_option maxRecDepth 100000
set_option maxHeartbeats 2000000

theorem cmpL_0 {x y : Lb} (h : cmpL x y = 0) : x = y := by
  unfold cmpL at h
  by_cases e : x = y
  · exact e
  · rw [if_neg e] at h; split at h <;> omega
theorem cmpL_lt {x y : Lb} : cmpL x y < 0 ↔ lbLt x y = true := by rw [← cmpL_neg]; simp
theorem cmpLs_trans : ∀ {a b c : List Lb}, cmpLs a b < 0 → cmpLs b c < 0 → cmpLs a c < 0
  | [], _, [], h, g => by
    rename_i b
    cases b with
    | nil => exact absurd h (by simp [cmpLs])
    | cons y r => exact absurd g (by simp [cmpLs])
  | [], _, _ :: _, _, _ => by simp [cmpLs]
  | _ :: _, [], _, h, _ => absurd h (by simp [cmpLs])
  | _ :: _, _ :: _, [], _, g => absurd g (by simp [cmpLs])
  | x :: r, y :: s, z :: t, h, g => by
    unfold cmpLs at h g ⊢
    by_cases e1 : cmpL x y = 0
    · rw [if_pos e1] at h
      obtain rfl := cmpL_0 e1
      by_cases e2 : cmpL x z = 0
      · rw [if_pos e2] at g ⊢; exact cmpLs_trans h g
      · rw [if_neg e2] at g ⊢; exact g
    · rw [if_neg e1] at h
      by_cases e2 : cmpL y z = 0
      · obtain rfl := cmpL_0 e2
        rw [if_neg e1]; exact h
      · rw [if_neg e2] at g
        have h3 : cmpL x z < 0 := cmpL_lt.2 (lbLt_trans (cmpL_lt.1 h) (cmpL_lt.1 g))
        rw [if_neg (by omega)]; exact h3
/-- the order of series by their labels -/
def ltLs (a b : List Lb) : Prop := cmpLs a b < 0
theorem ltLs_irrefl (a : List Lb) : ¬ ltLs a a := fun h => by
  unfold ltLs at h
  rw [(cmpLs_0_iff a a).2 rfl] at h
  exact absurd h (by decide)
theorem ltLs_tri (a b : List Lb) : ltLs a b ∨ a = b ∨ ltLs b a := by
  unfold ltLs
  have h := cmpLs_mirror a b
  by_cases e : cmpLs a b = 0
  · exact .inr (.inl ((cmpLs_0_iff a b).1 e))
  · omega
/-- the call that the sort makes -/
theorem cmpS_any (x y : Sc) (a b : List Lb) (W : World) (ha : LabV W x.1 a) (hb : LabV W y.1 b) (la : a.length ≤ 1099511627776) (lb : b.length ≤ 1099511627776) :
    Calls Tryz.prog 49 #[.agg #[x.1.v, x.2.v], .agg #[y.1.v, y.2.v]] W fun e w' => e = .returned (.int .i64 (cmpLs a b)) ∧ Gn W w' := by
  obtain ⟨⟨xa, xn, xc⟩, ⟨sa, sn, sc⟩⟩ := x
  obtain ⟨⟨ya, yn, yc⟩, ⟨ta, tn, tc⟩⟩ := y
  obtain ⟨rfl, ha⟩ := ha
  obtain ⟨rfl, hb⟩ := hb
  simp only at ha hb
  obtain ⟨⟨W1, hW1, hn1, c1⟩, -⟩ : (∃ W1, W.alloc (.cells #[.slice xa a.length xc, (.slice sa sn sc)] 87) = W1 ∧ Gn W W1 ∧ W1.cell? ⟨W.heap.size, 0, none⟩ = some (.slice xa a.length xc)) ∧ True :=
    ⟨⟨_, rfl, (Gn.refl W).alloc _, by go_simp⟩, trivial⟩
  obtain ⟨W2, hW2, hn2, c2⟩ : ∃ W2, W1.alloc (.cells #[.slice ya b.length yc, (.slice ta tn tc)] 87) = W2 ∧ Gn W1 W2 ∧ W2.cell? ⟨W1.heap.size, 0, none⟩ = some (.slice ya b.length yc) :=
    ⟨_, rfl, (Gn.refl W1).alloc _, by go_simp⟩
  have c1' := hn2.gr.cell c1
  have CC := Lib.hid (compareG_any xa ya a b xc yc W2 (ha.gr (hn1.trans hn2).gr) (hb.gr (hn1.trans hn2).gr) la lb)
  have HW1 := Lib.hid hW1; have HW2 := Lib.hid hW2; have HN := Lib.hid (hn1.trans hn2)
  have hs : W1.heap.size = W.heap.size + 1 := by rw [← hW1]; simp
  have HS := Lib.hid hs
  obtain ⟨v, hv⟩ : ∃ v, cmpLs a b = v := ⟨_, rfl⟩
  rw [hv] at CC ⊢
  simp only [Sl.v]
  rw [hs] at c2
  clear hW1 hW2 hn1 hn2 ha hb hs c1 hv
  obtain ⟨N, hN⟩ : ∃ N, W.heap.size = N := ⟨_, rfl⟩
  rw [hN] at c1' c2
  go_enter Tryz.func49, Tryz.ntmps49
  go_upto_region 1 with fail
  rw [HW1.out, HW2.out]
  clear hN
  go_wp2_with fail
  refine CC.out.mono ?_
  rintro e w5 ⟨rfl, hg⟩
  go_wp2
  go_ret
  exact ⟨rfl, HN.out.trans hg⟩
/-- a row of series' cells that may be written -/
def RowC (W : World) (b : Nat) (cs : List Sc) : Prop :=
  ∀ i x, cs[i]? = some x → (W.cell? ⟨b, i * 2, none⟩ = some x.1.v ∧ W.frozen? ⟨b, i * 2, none⟩ = false) ∧ W.cell? ⟨b, i * 2 + 1, none⟩ = some x.2.v ∧ W.frozen? ⟨b, i * 2 + 1, none⟩ = false
theorem OwnC.row {W : World} {B b c n : Nat} {cs : List Sc} (h : OwnC W B (.slice (some ⟨b, 0, none⟩) n c) cs) : RowC W b cs := by
  have hn : n = cs.length := by
    rcases h.2 with ⟨e, -⟩ | ⟨g, cap, cur, e, -⟩
    · cases e
    · injection e
  subst hn
  have hw : W.ownsRow B 87 2 (.slice (some ⟨b, 0, none⟩) cs.length c) cs.length (cs.flatMap encS) := h
  intro i x hx
  have hi := (List.getElem?_eq_some_iff.1 hx).1
  obtain ⟨f1, f2⟩ := flat2_get encS (fun _ => rfl) cs i x hx
  have c1 := hw.cellAt (i * 2) (by omega)
  have c2 := hw.cellAt (i * 2 + 1) (by omega)
  rw [f1] at c1
  rw [f2] at c2
  exact ⟨⟨c1, hw.frozenAt _⟩, c2, hw.frozenAt _⟩
section
variable {n : Nat} [Inhabited (Fin n)] (f : Fin n → Sc)
theorem flatF_get (l : List (Fin n)) (i : Nat) (x : Fin n) (h : l[i]? = some x) : (flatK (fun k => encS (f k)) 2 l.toArray)[i * 2]! = (f x).1.v ∧ (flatK (fun k => encS (f k)) 2 l.toArray)[i * 2 + 1]! = (f x).2.v := by
  obtain ⟨hi, rfl⟩ := List.getElem?_eq_some_iff.1 h
  have hg : l.toArray[i]! = l[i] := by simp [getElem!_pos, hi]
  refine ⟨?_, ?_⟩
  · rw [get_flatK _ _ _ _ (by simp; omega), show i * 2 / 2 = i by omega, show i * 2 % 2 = 0 by omega, hg]; rfl
  · rw [get_flatK _ _ _ _ (by simp; omega), show (i * 2 + 1) / 2 = i by omega, show (i * 2 + 1) % 2 = 1 by omega, hg]; rfl
theorem holdsF {W : World} {b : Nat} {l : List (Fin n)} (h : RowC W b (l.map f)) : HoldsK (fun k => encS (f k)) 2 W b 0 l.toArray := by
  intro j hj
  have hj' : j < l.length * 2 := by simpa using hj
  have hi : j / 2 < l.length := by omega
  have hx := List.getElem?_eq_getElem hi
  obtain ⟨⟨c1, f1⟩, c2, f2⟩ := h _ (f l[j / 2]) (by rw [List.getElem?_map, hx]; rfl)
  obtain ⟨g1, g2⟩ := flatF_get f l _ _ hx
  rw [Nat.zero_add]
  rcases Nat.mod_two_eq_zero_or_one j with e | e
  · have e2 : j / 2 * 2 = j := by omega
    rw [e2] at c1 f1 g1
    exact ⟨by rw [g1]; exact c1, f1⟩
  · have e2 : j / 2 * 2 + 1 = j := by omega
    rw [e2] at c2 f2
    rw [e2] at g2
    exact ⟨by rw [g2]; exact c2, f2⟩
theorem of_holdsF {W : World} {b : Nat} {l : List (Fin n)} (h : HoldsK (fun k => encS (f k)) 2 W b 0 l.toArray) : RowC W b (l.map f) := by
  intro i x hx
  rw [List.getElem?_map] at hx
  obtain ⟨y, hy, rfl⟩ : ∃ y, l[i]? = some y ∧ f y = x := by
    cases e : l[i]? with
    | none => rw [e] at hx; cases hx
    | some y => rw [e] at hx; exact ⟨y, rfl, by simpa using hx⟩
  obtain ⟨g1, g2⟩ := flatF_get f l i y hy
  have hi := (List.getElem?_eq_some_iff.1 hy).1
  have h1 := h (i * 2) (by simp; omega)
  have h2 := h (i * 2 + 1) (by simp; omega)
  simp only [id, Nat.zero_add] at h1 h2
  rw [g1] at h1
  rw [g2] at h2
  exact ⟨h1, h2⟩
end
theorem grown_sortWorldF {α : Type} [Inhabited α] {enc : α → List Value} {w : World} {b o n : Nat} {d : Array α} {os : Array Obj} : w.grownBy (sortWorldK enc 2 w b o n d os) (some b) := by
  refine ⟨rfl, rfl, rfl, ?_, fun k hk hne => ?_⟩
  · simp [sortWorldK, Go.Sort.grow, putRowK, putRow, mapBlock, Sort.ahead]
  · have hb : b ≠ k := fun e => hne (by rw [e])
    have e : (sortWorldK enc 2 w b o n d os).heap = (w.heap.modify b (onCells (putCells id o (flatK enc 2 d)))) ++ os := rfl
    rw [e, Array.getElem?_append_left (by simpa using hk), Array.getElem?_modify, if_neg hb]
theorem map_finRange {α : Type} (l : List α) : (List.finRange l.length).map (fun i => l[i]) = l := by
  apply List.ext_getElem
  · simp
  · intro i h1 h2; simp
theorem sortS_any (b c : Nat) (cs : List Sc) (gs : List Se) (W : World) (hr : RowC W b cs) (hlen : cs.length = gs.length) (hl : cs.length ≤ 1000) (h0 : 0 < cs.length) (hb : b < W.heap.size)
    (hrd : ∀ (k : Nat) (c : Sc) (s : Se), cs[k]? = some c → gs[k]? = some s → LabV W c.1 s.1 ∧ s.1.length ≤ 1000 ∧ (0 < s.1.length → c.1.v.ownBlock ≠ some b)) (nd : (gs.map (·.1)).Nodup) :
    Calls Tryz.prog 48 #[.slice (some ⟨b, 0, none⟩) cs.length c, .func (.func 49) #[] #[]] W fun e w' => e = .returned (.tuple #[]) ∧ ∃ p : List (Fin cs.length), p.Perm (List.finRange cs.length) ∧ RowC w' b (p.map fun i => cs[i]) ∧ W.grownBy w' (some b) ∧ (p.map fun i => (gs[i.1]'(by have := i.2; omega)).1).Pairwise ltLs := by
  have eg : ∀ args w, (callFunc 49 args).run Tryz.prog w = .ok (.enter 49 args) w := enters_of Tryz.func49 (by kernel_rfl) rfl
  let _ : Inhabited (Fin cs.length) := ⟨⟨0, h0⟩⟩
  let lab : Fin cs.length → List Lb := fun i => (gs[i.1]'(by have := i.2; omega)).1
  let cf : Fin cs.length → Fin cs.length → Int := fun i j => cmpLs (lab i) (lab j)
  have hlt : ∀ i j, ltOf cf i j = true ↔ ltLs (lab i) (lab j) := fun i j => by simp [ltOf, cf, ltLs]
  have hltf : ∀ i j, ltOf cf i j = false ↔ ¬ ltLs (lab i) (lab j) := fun i j => by rw [← hlt]; simp
  have inj : ∀ i j, lab i = lab j → i = j := fun i j e => by
    have hi : i.1 < (gs.map (·.1)).length := by have := i.2; simp; omega
    have h1 : (gs.map (·.1))[i.1]? = some (lab i) := by rw [List.getElem?_map, List.getElem?_eq_getElem (by have := i.2; omega)]; rfl
    have h2 : (gs.map (·.1))[j.1]? = some (lab j) := by rw [List.getElem?_map, List.getElem?_eq_getElem (by have := j.2; omega)]; rfl
    exact Fin.ext ((List.getElem?_inj hi nd).1 (by rw [h1, h2, e]))
  have hO : SWO (ltOf cf) := ⟨fun i => (hltf i i).2 (ltLs_irrefl _), fun i j k h1 h2 => (hlt i k).2 (cmpLs_trans ((hlt i j).1 h1) ((hlt j k).1 h2)), fun i j k h1 h2 => by
    rw [hltf] at h1 h2 ⊢
    intro h3
    rcases ltLs_tri (lab i) (lab j) with h | h | h
    · exact h1 h
    · rw [h] at h3; exact h2 h3
    · exact h2 (cmpLs_trans h h3)⟩
  have hT : ∀ x y, (ltOf cf) x y = false → (ltOf cf) y x = false → x = y := fun i j h1 h2 => by
    rw [hltf] at h1 h2
    rcases ltLs_tri (lab i) (lab j) with h | h | h
    · exact absurd h h1
    · exact inj i j h
    · exact absurd h h2
  have hC : CmpLays Tryz.prog 49 #[] (fun k : Fin cs.length => encS cs[k]) 2 cf b 0 (List.finRange cs.length).toArray.size W := fun m os dk _ x y => by
    have gx : cs[x.1]? = some cs[x] := List.getElem?_eq_getElem x.2
    have gy : cs[y.1]? = some cs[y] := List.getElem?_eq_getElem y.2
    obtain ⟨a1, a2, a3⟩ := hrd x.1 _ _ gx (List.getElem?_eq_getElem (by have := x.2; omega))
    obtain ⟨b1, b2, b3⟩ := hrd y.1 _ _ gy (List.getElem?_eq_getElem (by have := y.2; omega))
    have hg : W.grownBy (sortWorldK (fun k : Fin cs.length => encS cs[k]) 2 W b 0 m dk os) (some b) := grown_sortWorldF
    exact (cmpS_any cs[x] cs[y] (lab x) (lab y) _ (a1.only hg (fun h0 c hc e => a3 h0 (by rw [hc, ← e]))) (b1.only hg (fun h0 c hc e => b3 h0 (by rw [hc, ← e]))) (by show (gs[x.1]'_).1.length ≤ _; omega) (by show (gs[y.1]'_).1.length ≤ _; omega)).mono fun _ _ h => h
  have hH : HoldsK (fun k : Fin cs.length => encS cs[k]) 2 W b 0 (List.finRange cs.length).toArray := holdsF (fun k => cs[k]) (by rw [map_finRange]; exact hr)
  have hcon := AnyQ.slices_SortFunc_total Tryz.sortS 2 Tryz.isAgg87 Tryz.sizeOf87 (fun k : Fin cs.length => encS cs[k]) (fun _ => rfl) (fun x v hv => by simp [encS, Sl.v] at hv; rcases hv with rfl | rfl <;> rfl) cf hO 49 #[] b 0 c (List.finRange cs.length).toArray W eg hC hH hb (by simp; omega) hT
  change Calls Tryz.prog 48 _ _ _ at hcon
  rw [show (List.finRange cs.length).toArray.size = cs.length by simp] at hcon
  refine hcon.mono fun e w' ⟨he, m, os, hw⟩ => ⟨he, (List.finRange cs.length).mergeSort fun x y => !(ltOf cf) y x, List.mergeSort_perm _ _, ?_, ?_, ?_⟩
  · rw [hw]
    refine of_holdsF (fun k => cs[k]) ?_
    exact holdsK_sortWorldK_c _ 2 W b 0 _ _ m os hH hb (by simp)
  · rw [hw]; exact grown_sortWorldF
  · have hs := List.pairwise_mergeSort (le := fun x y => !(ltOf cf) y x) (fun i j k h1 h2 => by
      simp only [Bool.not_eq_true', hltf] at h1 h2 ⊢
      exact (hltf _ _).1 (hO.ntrans _ _ _ ((hltf _ _).2 h2) ((hltf _ _).2 h1))) (fun i j => by
      simp only [Bool.or_eq_true, Bool.not_eq_true', hltf]
      by_cases h : ltLs (lab j) (lab i)
      · exact .inr fun h2 => ltLs_irrefl _ (cmpLs_trans h h2)
      · exact .inl h) (List.finRange cs.length)
    have hnd : ((List.finRange cs.length).mergeSort fun x y => !(ltOf cf) y x).Nodup := (List.mergeSort_perm _ _).nodup_iff.2 (List.nodup_finRange _)
    rw [List.pairwise_map]
    refine (hs.and hnd).imp fun {i j} h => ?_
    obtain ⟨h1, h2⟩ := h
    simp only [Bool.not_eq_true', hltf] at h1
    rcases ltLs_tri (lab i) (lab j) with h | h | h
    · exact h
    · exact absurd (inj i j h) h2
    · exact absurd h h1
end Go.Proofs.YtoooaipbkkiefaaGreatDoor
