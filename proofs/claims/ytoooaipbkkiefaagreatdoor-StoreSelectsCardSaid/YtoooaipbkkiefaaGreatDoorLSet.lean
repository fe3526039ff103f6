/- Set, the program's. -/
import Derived.Test.YtoooaipbkkiefaaGreatDoorLDel
import Derived.Test.YtoooaipbkkiefaaGreatDoorLRefRight
namespace Go.Proofs.YtoooaipbkkiefaaGreatDoor
open Go.RowKit Go.Sort
set_option maxRecDepth 100000
set_option maxHeartbeats 2000000

theorem flat_cells : ∀ (l : List Lb) (i : Nat) (x : Lb), l[i]? = some x → (l.flatMap encL)[i * 2]? = some (.string x.1) ∧ (l.flatMap encL)[i * 2 + 1]? = some (.string x.2)
  | [], i, x, h => by simp at h
  | y :: r, 0, x, h => by
    obtain rfl : y = x := by simpa using h
    exact ⟨rfl, rfl⟩
  | y :: r, i + 1, x, h => by
    have := flat_cells r i x (by simpa using h)
    rw [List.flatMap_cons, show (i + 1) * 2 = i * 2 + 1 + 1 by omega]
    exact this
theorem flat_len (l : List Lb) : (l.flatMap encL).length = l.length * 2 := by
  induction l with
  | nil => rfl
  | cons y r ih => rw [List.flatMap_cons, List.length_append, ih, List.length_cons]; show 2 + _ = _; omega
theorem flat_one (l : List Lb) : ∀ u ∈ l.flatMap encL, u.oneCell' = true := by
  intro u hu
  obtain ⟨x, -, hx⟩ := List.mem_flatMap.1 hu
  simp [encL] at hx
  rcases hx with rfl | rfl <;> rfl
theorem flat_at {W : World} {b o : Nat} {l : List Lb} (h : LabsAt W (some ⟨b, o, none⟩) l) : ∀ j u, (l.flatMap encL)[j]? = some u → W.cell? ⟨b, o + j, none⟩ = some u := by
  intro j u hu
  have hj : j < l.length * 2 := by have := (List.getElem?_eq_some_iff.1 hu).1; rwa [flat_len] at this
  obtain ⟨b', o', e, hc⟩ := h (by omega)
  injection e with e; injection e with e1 e2; subst e1; subst e2
  have hi : j / 2 < l.length := by omega
  have hx := List.getElem?_eq_getElem hi
  obtain ⟨c1, c2⟩ := hc _ _ hx
  obtain ⟨g1, g2⟩ := flat_cells l _ _ hx
  rcases Nat.mod_two_eq_zero_or_one j with e | e
  · have e2 : j / 2 * 2 = j := by omega
    rw [e2] at c1 g1
    rw [hu] at g1; cases g1; exact c1
  · have e2 : j / 2 * 2 + 1 = j := by omega
    rw [Nat.add_assoc, e2] at c2
    rw [e2] at g2
    rw [hu] at g2; cases g2; exact c2
theorem lab_info : (Tryz.prog.info? 53).map (fun i => (i.zero, i.size, i.bytes)) = some (some (.agg #[.string ⟨#[]⟩, .string ⟨#[]⟩]), 2, 32) := by kernel_rfl
/-- what a row of the call's lb_own gives -/
theorem row_of_own {W : World} {base n : Nat} {v : Value} {l : List Lb} (h : W.ownsRow base 53 2 v n (l.flatMap encL)) (h0 : 0 < l.length) :
    ∃ g c, v = .slice (some ⟨g, 0, none⟩) l.length c ∧ base ≤ g ∧ l.length ≤ c ∧ c ≤ maxLen ∧ n = l.length ∧ Row W g 0 l := by
  have hl := h.1
  rw [flat_len] at hl
  have hn : n = l.length := by omega
  have hcell := fun g (hg : v.ownBlock = some g) => h.cells hg
  rcases h.2 with ⟨_, e0⟩ | ⟨g, cap, cur, rfl, hb, hg, hnc, hm, hs, ht⟩
  · omega
  · subst hn
    refine ⟨g, cap, rfl, hb, hnc, hm, rfl, fun i x hx => ?_⟩
    have hadd : ∀ j, (⟨g, 0, none⟩ : Addr).add j = ⟨g, j, none⟩ := fun j => by unfold Addr.add; split <;> simp_all
    obtain ⟨c1, c2⟩ := flat_cells l i x hx
    have d1 := hcell g rfl _ _ c1
    have d2 := hcell g rfl _ _ c2
    rw [hadd] at d1 d2
    have hf : ∀ j, W.frozen? ⟨g, j, none⟩ = false := fun j => by simp [World.frozen?, hg]
    rw [Nat.zero_add]
    exact ⟨⟨d1, hf _⟩, d2, hf _⟩
theorem clone_any (b o c : Nat) (l : List Lb) (w : World) (h : LabsAt w (some ⟨b, o, none⟩) l) (h0 : 0 < l.length) (hl : l.length ≤ 1099511627776) :
    Calls Tryz.prog 153 #[.slice (some ⟨b, o, none⟩) l.length c] w fun e w' => ∃ g o' c', e = .returned (.slice (some ⟨g, o', none⟩) l.length c') ∧ w.heap.size ≤ g ∧ l.length ≤ c' ∧ c' ≤ maxLen ∧ Row w' g o' l ∧ Gr w w' := by
  obtain ⟨i0, hi, hz0, hz1, hz2⟩ := info_parts lab_info
  have hcon := AnyE.slices_Clone Tryz.cloneL i0 (.agg #[.string ⟨#[]⟩, .string ⟨#[]⟩]) 2 32 hi hz0 hz1 hz2 rfl (by omega) Tryz.sizeOf53 b o l.length c (l.flatMap encL) w (flat_len l) (by unfold maxLen; omega) (by omega) (flat_at h) (flat_one l)
  change Calls Tryz.prog 153 _ _ _ at hcon
  refine hcon.mono fun e w' ⟨v', he, hown, _, hb⟩ => ?_
  obtain ⟨g, c', rfl, hg, h1, h2, _, hR⟩ := row_of_own hown h0
  exact ⟨g, 0, c', he, hg, h1, h2, hR, ⟨hb⟩⟩
theorem clone_none (A : Option Addr) (c : Nat) (w : World) :
    Calls Tryz.prog 153 #[.slice A 0 c] w fun e w' => ∃ A' c', e = .returned (.slice A' 0 c') ∧ Gr w w' := by
  have q22 : ∀ (w : World) (a : Option Addr) (n c n' c' : Nat), (binOp .eql 54 (.slice a n c) (.slice none n' c')).run Tryz.prog w = .ok (.bool a.isNone) w := fun w a n c n' c' => Lib.run_eql_slice_nil w _ _ a n c n' c' Tryz.underlying54
  cases A with
  | none =>
    go_enter Tryz.func153, Tryz.ntmps153
    go_wp2
    go_ret
    exact ⟨none, 0, rfl, Gr.refl _⟩
  | some a =>
    go_enter Tryz.func153, Tryz.ntmps153
    go_wp2
    go_ret
    exact ⟨_, _, rfl, (Gr.refl _).alloc _ _⟩

/-! Set -/
def okNTo (l : List Lb) (k : Nat) : Prop := ∀ x ∈ l.take k, okN x = true
theorem okNTo_s {l : List Lb} {k : Nat} (hk : k < l.length) (h : okNTo l k) (g : okN l[k] = true) : okNTo l (k + 1) := by
  intro y hy
  rw [List.take_succ_eq_append_getElem hk] at hy
  rcases List.mem_append.1 hy with hy | hy
  · exact h y hy
  · rw [List.mem_singleton] at hy; rw [hy]; exact g
theorem lb_setB_no {l : List Lb} (h : ¬ setP l) : lb_setB l = false := by
  cases e : lb_setB l
  · rfl
  · exact absurd (setB_t.1 e).1 h
theorem setB_notok {l : List Lb} {k : Nat} (hk : k < l.length) (h : okN l[k] = false) : lb_setB l = false :=
  lb_setB_no fun hp => by have := hp.1 _ (List.getElem_mem hk); rw [h] at this; cases this
def noTw (s : List Lb) (k : Nat) : Prop := ∀ i x y, i + 1 < k → s[i]? = some x → s[i + 1]? = some y → x.1 ≠ y.1
theorem noTw_s {s : List Lb} {k : Nat} {x y : Lb} (h : noTw s (k + 1)) (hx : s[k]? = some x) (hy : s[k + 1]? = some y) (hne : x.1 ≠ y.1) : noTw s (k + 2) := by
  intro i a b hi ha hb
  by_cases e : i = k
  · subst e; rw [hx] at ha; rw [hy] at hb; cases ha; cases hb; exact hne
  · exact h i a b (by omega) ha hb
theorem noTw_end {s : List Lb} (h : noTw s s.length) : ¬ twin s := by
  rintro ⟨i, x, y, hx, hy, e⟩
  exact h i x y (List.getElem?_eq_some_iff.1 hy).1 hx hy e
theorem sortL_len (l : List Lb) : (sortL l).length = l.length := (sortL_perm l).length_eq
theorem setV_f {l : List Lb} (h : lb_setB l = false) : setV l = [] ∧ setE l = 1 := by simp [setV, setE, h]
theorem setV_t {l : List Lb} (h : lb_setB l = true) : setV l = setL l ∧ setE l = 0 := by simp [setV, setE, h]

def SetPost (l : List Lb) (w : World) (e : Ending) (w' : World) : Prop :=
  ∃ A c, e = .returned (.tuple #[.slice A (setV l).length c, .int .i64 (setE l)]) ∧ LabsAt w' A (setV l) ∧ Gr w w'
theorem SetPost.no {l : List Lb} {w w' : World} (h : lb_setB l = false) (g : Gr w w') : SetPost l w (.returned (.tuple #[.slice none 0 0, .int .i64 1])) w' :=
  ⟨none, 0, by rw [(setV_f h).1, (setV_f h).2]; rfl, by rw [(setV_f h).1]; exact LabsAt.none_ _ _, g⟩
theorem SetPost.yes {l : List Lb} {w w' : World} {A : Option Addr} {c n : Nat} (h : lb_setB l = true) (hn : n = (setL l).length) (hl : LabsAt w' A (setL l)) (g : Gr w w') : SetPost l w (.returned (.tuple #[.slice A n c, .int .i64 0])) w' :=
  ⟨A, c, by rw [(setV_t h).1, (setV_t h).2, hn], by rw [(setV_t h).1]; exact hl, g⟩

theorem delete_none (A : Option Addr) (c : Nat) (w : World) :
    Calls Tryz.prog 155 #[.slice A 0 c, .func (.func 156) #[] #[]] w fun e w' => e = .returned (.slice A 0 c) ∧ Gr w w' := by
  have CI := Lib.hid (idx_any A [] c w (LabsAt.none_ _ _) (by simp))
  go_enter Tryz.func155, Tryz.ntmps155
  go_wp2_with fail
  refine CI.out.mono ?_
  rintro e w1 ⟨hp, hg1⟩
  rcases hp with ⟨i, x, hx, -⟩ | ⟨-, rfl⟩
  · simp at hx
  · go_wp2
    go_ret
    exact ⟨rfl, hg1⟩
theorem set_nil (A : Option Addr) (c : Nat) (w : World) :
    Calls Tryz.prog 106 #[.slice A 0 c] w (SetPost [] w) := by
  have hB : lb_setB [] = true := by rw [setB_t]; simp [setP, setL]
  have HB := Lib.hid hB; clear hB
  go_enter Tryz.func106, Tryz.ntmps106
  go_wp2
  refine wp_loop_rounds 1 ?_
  rw [rounds_succ]
  go_wp2_with fail
  refine (clone_none _ _ _).mono ?_
  rintro e w1 ⟨A1, c1, rfl, hg1⟩
  go_wp2_with fail
  refine (sortFunc_none _ _ _).mono ?_
  rintro e w2 ⟨rfl, rfl⟩
  go_wp2_with fail
  refine wp_loop_rounds 1 ?_
  rw [rounds_succ]
  go_wp2_with fail
  refine (delete_none _ _ _).mono ?_
  rintro e w3 ⟨rfl, hg3⟩
  go_wp2
  go_ret2
  exact SetPost.yes HB.out rfl (LabsAt.none_ _ _) (hg1.trans hg3)

theorem lb_set_any (A : Option Addr) (l : List Lb) (c : Nat) (w : World) (h : LabsAt w A l) (hw : Wd l) (hl : l.length ≤ 1099511627776) :
    Calls Tryz.prog 106 #[.slice A l.length c] w (SetPost l w) := by
  by_cases h00 : l.length = 0
  · obtain rfl := List.eq_nil_of_length_eq_zero h00
    exact set_nil A c w
  have h0 : 0 < l.length := by omega
  clear h00
  have HL := Lib.hid h; have HW := Lib.hid hw
  clear h hw
  go_enter Tryz.func106, Tryz.ntmps106
  go_wp2
  go_loopw [10] (fun i wr => ∃ k : Nat, k ≤ l.length ∧ i = .int .i64 k ∧ Hid (okNTo l k) ∧ Gr w wr) (fun i _ => l.length - (intOf i).toNat)
  case atStart => exact ⟨0, Nat.zero_le _, rfl, fun y hy => by simp at hy, Gr.refl _⟩
  case round =>
    obtain ⟨k, hk, rfl, HU, hg⟩ := hrel
    by_cases hlt : k < l.length
    · obtain ⟨b, o, rfl, c1, c2, -⟩ := (HL.out.gr hg).at_ hlt
      have hn := HW.out _ (List.getElem_mem hlt)
      obtain ⟨x, hx⟩ : ∃ x, l[k] = x := ⟨_, rfl⟩
      have outy : okN x = true → Hid (okNTo l (k + 1)) := fun h => okNTo_s hlt HU.out (by rw [hx]; exact h)
      have outn : okN x = false → Hid (lb_setB l = false) := fun h => setB_notok hlt (by rw [hx]; exact h)
      have OY := Lib.hid outy; have ON := Lib.hid outn
      rw [hx] at c1 c2 hn
      clear hx outy outn
      obtain ⟨nm, vl⟩ := x
      obtain ⟨hn1, hn2⟩ := hn
      simp only at hn1 hn2 c1 c2
      have CN := Lib.hid (fun W => name_any nm W hn1)
      unfold maxLen at hn1 hn2
      cases e1 : nameB nm
      · have HN := ON.out (by simp [okN, e1])
        rw [e1] at CN
        clear e1
        go_wp2_with (go_at_call 94; refine (CN.out _).mono ?_; rintro e w' ⟨rfl, rfl⟩)
        go_ret2
        exact SetPost.no HN.out (by go_simp; exact hg.alloc _ _)
      rw [e1] at CN
      by_cases h256 : 256 < vl.size
      · have HN := ON.out (by simp only [okN, Bool.and_eq_false_iff, decide_eq_false_iff_not]; right; omega)
        clear e1
        go_wp2_with (go_at_call 94; refine (CN.out _).mono ?_; rintro e w' ⟨rfl, rfl⟩)
        go_ret2
        exact SetPost.no HN.out (by go_simp; exact hg.alloc _ _)
      · have HN := OY.out (by simp [okN, e1]; omega)
        clear e1
        go_wp2_with (go_at_call 94; refine (CN.out _).mono ?_; rintro e w' ⟨rfl, rfl⟩)
        go_roundw
        case rel => exact ⟨k + 1, by omega, by go_num, HN, by go_simp; exact hg.alloc _ _⟩
        case measure => simp [intOf]; omega
    · obtain rfl : k = l.length := by omega
      have HOK : Hid (∀ x ∈ l, okN x = true) := Lib.hid (by have := HU.out; unfold okNTo at this; rwa [List.take_length] at this)
      obtain ⟨b, o, rfl, -⟩ := (HL.out.gr hg).at_ h0
      have HC := Lib.hid (clone_any b o c l wr (HL.out.gr hg) h0 hl)
      clear HU
      go_wp2_with fail
      refine HC.out.mono ?_
      rintro e w1 ⟨g, o1, c1, rfl, hgb, hlc, hcm, hR1, hg1⟩
      have HS := Lib.hid (sortFunc_any g o1 c1 l w1 hR1 hl h0)
      clear hR1 HC
      go_wp2_with fail
      refine HS.out.mono ?_
      rintro e w2 ⟨rfl, hR2, ho2⟩
      have hsl := sortL_len l
      have HG2 := Lib.hid ((hg.trans hg1).only ho2 (by have := hg.size; omega))
      have hgw : w.heap.size ≤ g := by have := hg.size; omega
      have HSL := Lib.hid hsl
      obtain ⟨s, hs⟩ : ∃ s, sortL l = s := ⟨_, rfl⟩
      rw [hs] at hR2 hsl
      have HSE := Lib.hid hs
      have HR2 := Lib.hid hR2
      have HSL := Lib.hid hsl
      clear hs hR2 hsl ho2 HS
      go_wp2
      go_loopw [7] (fun i wr => ∃ k : Nat, 1 ≤ k ∧ k ≤ l.length ∧ i = .int .i64 k ∧ Hid (noTw s k) ∧ Gr w2 wr) (fun i _ => l.length - (intOf i).toNat)
      case atStart => exact ⟨1, Nat.le_refl _, by omega, rfl, fun i x y hi => absurd hi (by omega), Gr.refl _⟩
      case round =>
        clear hg
        obtain ⟨k, hk1, hk, rfl, HU, hg⟩ := hrel
        by_cases hlt : k < l.length
        · obtain ⟨j, hj⟩ : ∃ j, k = j + 1 := ⟨k - 1, by omega⟩
          have hks : k < s.length := by have := HSL.out; omega
          have hjs : j < s.length := by omega
          obtain ⟨x, hx⟩ : ∃ x, s[j] = x := ⟨_, rfl⟩
          obtain ⟨y, hy⟩ : ∃ y, s[k] = y := ⟨_, rfl⟩
          have gx : s[j]? = some x := by rw [List.getElem?_eq_getElem hjs, hx]
          have gy : s[k]? = some y := by rw [List.getElem?_eq_getElem hks, hy]
          obtain ⟨⟨c1, -⟩, -⟩ := (HR2.out.gr hg) j x gx
          obtain ⟨⟨d1, -⟩, -⟩ := (HR2.out.gr hg) k y gy
          have outy : x.1 ≠ y.1 → Hid (noTw s (k + 1)) := fun h => by subst hj; exact noTw_s HU.out gx gy h
          have outn : x.1 = y.1 → Hid (lb_setB l = false) := fun h => lb_setB_no (sortL_dup (by rw [HSE.out]; exact ⟨j, x, y, gx, by rw [← hj]; exact gy, h⟩))
          have OY := Lib.hid outy; have ON := Lib.hid outn
          have f1 : IntKind.i64.wrap ((k : Int) - 1) = (j : Int) := by rw [IntWalk.i64_in _ (by omega)]; omega
          have f2 : (j : Int) < (l.length : Int) := by omega
          have f3 : (0 : Int) ≤ j := by omega
          have f4 : (k : Int) < (l.length : Int) := by omega
          have f5 : (0 : Int) ≤ k := by omega
          have HJ := Lib.hid hj
          clear hj hx hy gx gy outy outn
          cases e1 : (x.1.toList == y.1.toList)
          · have HN := OY.out (fun h => by have := beq_t.2 h; rw [e1] at this; cases this)
            go_wp2_with fail
            go_quiet (fail)
            go_wp2
            go_roundw
            case rel => exact ⟨k + 1, by omega, by omega, by go_num, HN, by go_simp; exact hg.drewN _⟩
            case measure => simp [intOf]; omega
          · have HN := ON.out (beq_t.1 e1)
            go_wp2_with fail
            go_quiet (fail)
            go_wp2
            go_ret2
            exact SetPost.no HN.out (by go_simp; exact (HG2.out.trans hg).drewN _)
        · obtain rfl : k = l.length := by omega
          have HT := Lib.hid (sortL_set (l := l) (by rw [HSE.out]; exact noTw_end (by rw [HSL.out]; exact HU.out)))
          have HE : Hid ((s.filter full) = setL l) := Lib.hid (by have := HT.out.2; rwa [HSE.out] at this)
          have HP : Hid (setP l) := Lib.hid ⟨HOK.out, HT.out.1⟩
          have hD := delete_any g o1 c1 s wr (HR2.out.gr hg) (by have := HSL.out; omega) (by have := HSL.out; omega) hcm
          rw [HSL.out] at hD
          have HD := Lib.hid hD
          clear hD HU
          go_wp2_with fail
          refine HD.out.mono ?_
          rintro e w5 ⟨rfl, hl5, ho5⟩
          rw [HE.out] at hl5 ⊢
          have HG5 := Lib.hid ((HG2.out.trans hg).only ho5 hgw)
          have hm : (setL l).length ≤ l.length := by have := (setL_perm l).length_eq; have := List.length_filter_le full l; omega
          have HL5 := Lib.hid hl5
          clear hl5 ho5
          by_cases h32 : (setL l).length ≤ 32
          · have HB : Hid (lb_setB l = true) := Lib.hid (setB_t.2 ⟨HP.out, h32⟩)
            go_wp2
            go_ret2
            exact SetPost.yes HB.out rfl HL5.out HG5.out
          · have HB : Hid (lb_setB l = false) := Lib.hid (by cases e : lb_setB l; rfl; exact absurd (setB_t.1 e).2 h32)
            go_wp2
            go_ret2
            exact SetPost.no HB.out HG5.out
end Go.Proofs.YtoooaipbkkiefaaGreatDoor
