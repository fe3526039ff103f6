/- Set, the reference's. -/
import Derived.Test.YtoooaipbkkiefaaGreatDoorLPut
namespace Go.Proofs.YtoooaipbkkiefaaGreatDoor
open Go.RowKit Go.Sort
set_option maxRecDepth 100000
set_option maxHeartbeats 4000000

theorem setL_snoc (r : List Lb) (x : Lb) : setL (r ++ [x]) = if full x then putL (setL r) x else setL r := by
  unfold setL
  rw [List.filter_append]
  cases h : full x
  · rw [List.filter_cons_of_neg (by simp [h])]; simp
  · rw [List.filter_cons_of_pos h, List.foldl_append]; simp
def noDup (l : List Lb) (k j : Nat) : Prop := ∀ t x y, t < j → l[t]? = some x → l[k]? = some y → x.1 ≠ y.1
theorem setP_s {l : List Lb} {k : Nat} {x : Lb} (hx : l[k]? = some x) (h : setP (l.take k)) (ho : okN x = true) (hd : noDup l k k) : setP (l.take (k + 1)) := by
  obtain ⟨hk, rfl⟩ := List.getElem?_eq_some_iff.1 hx
  rw [List.take_succ_eq_append_getElem hk]
  refine ⟨fun y hy => ?_, ?_⟩
  · rcases List.mem_append.1 hy with hy | hy
    · exact h.1 y hy
    · rw [List.mem_singleton] at hy; rw [hy]; exact ho
  · rw [List.map_append, List.nodup_append]
    refine ⟨h.2, by simp, fun a ha b hb => ?_⟩
    obtain ⟨y, hy, rfl⟩ := List.mem_map.1 ha
    obtain rfl : b = (l[k]).1 := by simpa using hb
    obtain ⟨t, ht, rfl⟩ := List.getElem_of_mem hy
    simp only [List.length_take] at ht
    rw [List.getElem_take]
    exact hd t _ _ (by omega) (List.getElem?_eq_getElem (by omega)) hx
theorem setP_dup {l : List Lb} {k j : Nat} {x y : Lb} (hx : l[j]? = some x) (hy : l[k]? = some y) (hj : j < k) (e : x.1 = y.1) : ¬ setP l := by
  intro hp
  obtain ⟨hj', rfl⟩ := List.getElem?_eq_some_iff.1 hx
  obtain ⟨hk', rfl⟩ := List.getElem?_eq_some_iff.1 hy
  have := hp.2
  unfold List.Nodup at this
  rw [List.pairwise_map, List.pairwise_iff_getElem] at this
  exact this j k hj' hk' hj e

theorem rSet_any (A : Option Addr) (l : List Lb) (c : Nat) (w : World) (h : LabsAt w A l) (hw : Wd l) (hl : l.length ≤ 1099511627775) :
    Calls Tryz.prog 56 #[.slice A l.length c] w (SetPost l w) := by
  have HL := Lib.hid h; have HW := Lib.hid hw
  clear h hw
  go_enter Tryz.func56, Tryz.ntmps56
  go_wp2
  go_loopw [4, 5] (fun v i wr => ∃ k : Nat, k ≤ l.length ∧ i = .int .i64 k ∧ Hid (setP (l.take k)) ∧ Hid (Own wr w.heap.size v (setL (l.take k))) ∧ Gr w wr) (fun _ i _ => l.length - (intOf i).toNat)
  case atStart => exact ⟨0, Nat.zero_le _, rfl, ⟨fun x hx => by simp at hx, by simp⟩, Own.nil _ _, Gr.refl _⟩
  case round =>
    obtain ⟨k, hk, rfl, HP, HO, hg⟩ := hrel
    obtain ⟨wo, rfl⟩ : ∃ wo : World, wo = wr := ⟨_, rfl⟩
    have hgs := hg.size
    by_cases hlt : k < l.length
    · obtain ⟨b, o, rfl, c1, c2, hb⟩ := (HL.out.gr hg).at_ hlt
      have hn := HW.out _ (List.getElem_mem hlt)
      obtain ⟨x, hx⟩ : ∃ x, l[k] = x := ⟨_, rfl⟩
      have gx : l[k]? = some x := by rw [List.getElem?_eq_getElem hlt, hx]
      have GX := Lib.hid gx
      have outn : okN x = false → Hid (lb_setB l = false) := fun h => setB_notok hlt (by rw [hx]; exact h)
      have ON := Lib.hid outn
      rw [hx] at c1 c2 hn
      clear hx gx outn
      obtain ⟨nm, vl⟩ := x
      obtain ⟨hn1, hn2⟩ := hn
      simp only at hn1 hn2 c1 c2
      have CN := Lib.hid (fun W => rName_any nm W hn1)
      unfold maxLen at hn1 hn2
      cases e1 : nameB nm
      · have HN := ON.out (by simp [okN, e1])
        rw [e1] at CN
        clear e1
        go_wp2_with (go_at_call 25; refine (CN.out _).mono ?_; rintro e w' ⟨rfl, rfl⟩)
        go_ret2
        exact SetPost.no HN.out hg
      rw [e1] at CN
      by_cases h256 : 256 < vl.size
      · have HN := ON.out (by simp only [okN, Bool.and_eq_false_iff, decide_eq_false_iff_not]; right; omega)
        clear e1
        go_wp2_with (go_at_call 25; refine (CN.out _).mono ?_; rintro e w' ⟨rfl, rfl⟩)
        go_ret2
        exact SetPost.no HN.out hg
      have HOK : Hid (okN (nm, vl) = true) := Lib.hid (by simp [okN, e1]; omega)
      clear e1
      go_wp2_with (go_at_call 25; refine (CN.out _).mono ?_; rintro e w' ⟨rfl, rfl⟩)
      go_loopw [6] (fun i wr => ∃ j : Nat, j ≤ k ∧ i = .int .i64 j ∧ Hid (noDup l k j) ∧ Gr wo wr) (fun i _ => k - (intOf i).toNat)
      case atStart => exact ⟨0, Nat.zero_le _, rfl, fun t x y ht => absurd ht (by omega), Gr.refl _⟩
      case round =>
        obtain ⟨j, hj, rfl, HD, hg2⟩ := hrel
        have d1 := hg2.cell c1
        have d2 := hg2.cell c2
        have f1 : (j : Int) < (l.length : Int) := by omega
        have f2 : (k : Int) < (l.length : Int) := by omega
        have f3 : (0 : Int) ≤ j := by omega
        have f4 : (0 : Int) ≤ k := by omega
        by_cases hjk : j < k
        · obtain ⟨b', o', hbo, g1, -⟩ := ((HL.out.gr hg).gr hg2).at_ (by omega : j < l.length)
          obtain ⟨rfl, rfl⟩ : b' = b ∧ o' = o := by injection hbo with hbo; injection hbo with h1 h2; exact ⟨h1.symm, h2.symm⟩
          clear hbo
          obtain ⟨y, hy⟩ : ∃ y, l[j]'(by omega) = y := ⟨_, rfl⟩
          rw [hy] at g1
          have gy : l[j]? = some y := by rw [List.getElem?_eq_getElem (by omega), hy]
          have outy : y.1 ≠ nm → Hid (noDup l k (j + 1)) := fun h t x z ht hx hz => by
            by_cases e : t = j
            · subst e; rw [gy] at hx; rw [GX.out] at hz; cases hx; cases hz; exact h
            · exact HD.out t x z (by omega) hx hz
          have outn : y.1 = nm → Hid (lb_setB l = false) := fun h => lb_setB_no (setP_dup gy GX.out hjk h)
          have OY := Lib.hid outy; have ON2 := Lib.hid outn
          clear hy gy outy outn
          cases e2 : (y.1.toList == nm.toList)
          · have HN := OY.out (fun h => by have := beq_t.2 h; rw [e2] at this; cases this)
            clear c1 c2
            go_wp2_with fail
            go_quiet (fail)
            go_wp2
            go_roundw
            case rel => exact ⟨j + 1, by omega, by go_num, HN, by go_simp; exact hg2.drewN _⟩
            case measure => simp [intOf]; omega
          · have HN := ON2.out (beq_t.1 e2)
            clear c1 c2
            go_wp2_with fail
            go_quiet (fail)
            go_wp2
            go_ret2
            exact SetPost.no HN.out (by go_simp; exact (hg.trans hg2).drewN _)
        · obtain rfl : j = k := by omega
          have HS := Lib.hid (setP_s GX.out HP.out HOK.out HD.out)
          have HT : Hid (l.take (j + 1) = l.take j ++ [(nm, vl)]) := Lib.hid (by rw [List.take_succ_eq_append_getElem hlt]; have := GX.out; rw [List.getElem?_eq_getElem hlt] at this; injection this with e; rw [e])
          have HO2 := Lib.hid (HO.out.gr hg2)
          clear HO
          by_cases h0 : vl.size = 0
          · have HF : Hid (setL (l.take (j + 1)) = setL (l.take j)) := Lib.hid (by rw [HT.out, setL_snoc]; simp [full, h0])
            obtain rfl := empty_eq h0
            clear h0 c1 c2
            go_wp2
            go_roundw
            case rel => exact ⟨j + 1, by omega, by go_num, HS, Lib.hid (by rw [HF.out]; exact HO2.out), hg.trans hg2⟩
            case measure => simp [intOf]; omega
          · have HF : Hid (setL (l.take (j + 1)) = putL (setL (l.take j)) (nm, vl)) := Lib.hid (by rw [HT.out, setL_snoc]; simp [full, h0])
            obtain ⟨n1, n2, n3⟩ := ne_facts (by omega : 0 < vl.size)
            have hm : (setL (l.take j)).length ≤ l.length := by have := (setL_perm (l.take j)).length_eq; have := List.length_filter_le full (l.take j); have : (l.take j).length ≤ l.length := by simp; omega
                                                                omega
            have CP := Lib.hid (fun W (g : Gr wr W) => lb_put_any _ (setL (l.take j)) (nm, vl) W ((HO2.out.gr g).reads) (by omega))
            clear c1 c2
            go_wp2_with (go_at_call 89; refine (CP.out _ (Gr.refl _)).mono ?_; rintro e w2 ⟨v2, rfl, hown2, hg3⟩)
            go_roundw
            case rel => exact ⟨j + 1, by omega, by go_num, HS, Lib.hid (by rw [HF.out]; exact hown2.mono (by have := hg2.size; omega)), (hg.trans hg2).trans hg3⟩
            case measure => simp [intOf]; omega
    · obtain rfl : k = l.length := by omega
      obtain ⟨A', c', rfl, hl', -, -⟩ := HO.out.form
      rw [List.take_length] at hl' ⊢
      have HP2 : Hid (setP l) := Lib.hid (by have := HP.out; rwa [List.take_length] at this)
      have HL2 := Lib.hid hl'
      have hm : (setL l).length ≤ l.length := by have := (setL_perm l).length_eq; have := List.length_filter_le full l; omega
      clear hl' HO HP
      by_cases h32 : (setL l).length ≤ 32
      · have HB : Hid (lb_setB l = true) := Lib.hid (setB_t.2 ⟨HP2.out, h32⟩)
        go_wp2
        go_ret2
        exact SetPost.yes HB.out rfl HL2.out hg
      · have HB : Hid (lb_setB l = false) := Lib.hid (by cases e : lb_setB l; rfl; exact absurd (setB_t.1 e).2 h32)
        go_wp2
        go_ret2
        exact SetPost.no HB.out hg
end Go.Proofs.YtoooaipbkkiefaaGreatDoor
