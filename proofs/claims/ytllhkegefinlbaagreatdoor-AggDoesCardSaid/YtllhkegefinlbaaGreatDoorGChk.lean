/- Check, the program's and the reference's: may points be grouped so? -/
import Derived.Test.YtllhkegefinlbaaGreatDoorGSim
import Derived.Test.YtllhkegefinlbaaGreatDoorLabs
import Derived.Test.YtllhkegefinlbaaGreatDoorText
namespace Go.Proofs.YtllhkegefinlbaaGreatDoor.Pt
open Go.RowKit Go.Sort
set_option maxRecDepth 100000
set_option maxHeartbeats 4000000
attribute [local irreducible] wpQuiet

def eB : ByteArray := ⟨#[]⟩
def nsTo (ns : List ByteArray) (k : Nat) : Bool := (List.range k).all fun i => nameB (ns.getD i eB) && !hasN (ns.take i) (ns.getD i eB)
/-- may points be grouped so? -/
def chkG (how : Int) (ns : List ByteArray) : Bool := (how == 0 || how == 1 || how == 2) && decide (ns.length ≤ 32) && !(how == 0 && decide (0 < ns.length)) && nsTo ns ns.length
theorem nsTo_s {ns : List ByteArray} {k : Nat} (h : k < ns.length) : nsTo ns (k + 1) = (nsTo ns k && (nameB ns[k] && !hasN (ns.take k) ns[k])) := by
  unfold nsTo
  rw [List.range_succ, List.all_append]
  have : ns.getD k eB = ns[k] := by rw [List.getD, List.getElem?_eq_getElem h]; rfl
  rw [List.all_cons, List.all_nil, this, Bool.and_true]
theorem nsTo_not {ns : List ByteArray} {k : Nat} (h : k < ns.length) (g : (nameB ns[k] && !hasN (ns.take k) ns[k]) = false) : nsTo ns ns.length = false := by
  unfold nsTo
  rw [List.all_eq_false]
  refine ⟨k, List.mem_range.2 h, ?_⟩
  have : ns.getD k eB = ns[k] := by rw [List.getD, List.getElem?_eq_getElem h]; rfl
  rw [this, g]; simp
theorem hasN_s {ns : List ByteArray} {k : Nat} {n : ByteArray} (h : k < ns.length) : hasN (ns.take (k + 1)) n = (hasN (ns.take k) n || n.toList == (ns[k]).toList) := by
  unfold hasN
  rw [List.take_succ_eq_append_getElem h, List.any_append]
  simp
theorem hasN_at {ns : List ByteArray} {k : Nat} {n : ByteArray} (h : k < ns.length) (g : (n.toList == (ns[k]).toList) = true) : hasN ns n = true := by
  unfold hasN
  rw [List.any_eq_true]
  exact ⟨_, List.getElem_mem h, g⟩
theorem index_any (N : Option Addr) (ns : List ByteArray) (d : Nat) (n : ByteArray) (w : World) (h : StrsAt w N ns) (hl : ns.length ≤ 1099511627776) :
    Calls Tryz.prog 62 #[.slice N ns.length d, .string n] w fun e w' => ∃ r : Int, e = .returned (.int .i64 r) ∧ decide (0 ≤ r) = hasN ns n ∧ ∃ q, w' = w.drewN q := by
  have HS := Lib.hid h
  clear h
  go_enter Tryz.func62, Tryz.ntmps62
  go_wp2
  go_loopw [8] (fun i wr => ∃ k : Nat, k ≤ ns.length ∧ i = .int .i64 k ∧ Hid (hasN ns n = hasN (ns.drop k) n) ∧ wr = w) (fun i _ => ns.length - (intOf i).toNat)
  case atStart => exact ⟨0, Nat.zero_le _, rfl, rfl, rfl⟩
  case round =>
    obtain ⟨k, hk, rfl, HR, rfl⟩ := hrel
    by_cases hlt : k < ns.length
    · obtain ⟨b, o, rfl, c1⟩ := HS.out.at_ hlt
      have HST := Lib.hid (hasN_step hlt n)
      obtain ⟨m, hm⟩ : ∃ m, ns[k] = m := ⟨_, rfl⟩
      rw [hm] at c1 HST
      clear hm
      cases e1 : (n.toList == m.toList)
      · have HN : Hid (hasN ns n = hasN (ns.drop (k + 1)) n) := Lib.hid (by rw [HR.out, HST.out, e1]; rfl)
        go_wp2
        go_roundw
        case rel => exact ⟨k + 1, by omega, by go_num, HN, trivial⟩
        case measure => simp [intOf]; omega
      · have HN : Hid (hasN ns n = true) := Lib.hid (by rw [HR.out, HST.out, e1]; rfl)
        go_wp2
        go_ret
        exact ⟨(k : Int), rfl, by rw [HN.out]; exact decide_eq_true (by omega), 0, rfl⟩
    · obtain rfl : k = ns.length := by omega
      have HN : Hid (hasN ns n = false) := Lib.hid (by rw [HR.out, List.drop_length]; rfl)
      go_wp2
      go_ret
      exact ⟨-1, rfl, by rw [HN.out]; rfl, 0, rfl⟩
theorem contains_any (N : Option Addr) (ns : List ByteArray) (d : Nat) (n : ByteArray) (w : World) (h : StrsAt w N ns) (hl : ns.length ≤ 1099511627776) :
    Calls Tryz.prog 30 #[.slice N ns.length d, .string n] w fun e w' => e = .returned (.bool (hasN ns n)) ∧ ∃ q, w' = w.drewN q := by
  have CI := Lib.hid (index_any N ns d n w h hl)
  obtain ⟨v, hv⟩ : ∃ v, hasN ns n = v := ⟨_, rfl⟩
  rw [hv] at CI ⊢
  clear h hv
  go_enter Tryz.func30, Tryz.ntmps30
  go_wp2_with fail
  refine CI.out.mono ?_
  rintro e w' ⟨r, rfl, hr, q, rfl⟩
  go_wp2
  go_ret
  exact ⟨by rw [← hr]; rfl, q, rfl⟩
theorem StrsAt.take {W : World} {A : Option Addr} {l : List ByteArray} (h : StrsAt W A l) (k : Nat) : StrsAt W A (l.take k) := fun h0 => by
  obtain ⟨b, o, e, hc⟩ := h (by have : (l.take k).length ≤ l.length := List.length_take_le' ..; omega)
  refine ⟨b, o, e, fun i x hx => hc i x ?_⟩
  rw [List.getElem?_take] at hx
  split at hx
  · exact hx
  · cases hx
/-- what Check answers -/
def ckV (b : Bool) : Int := if b then 0 else 1
theorem check_any (N : Option Addr) (ns : List ByteArray) (d : Nat) (how : Int) (w : World) (h : StrsAt w N ns) (hl : ns.length ≤ d) (hd : d ≤ maxLen) (hz : ∀ s ∈ ns, s.size ≤ maxLen) :
    Calls Tryz.prog 10 #[.agg #[.int .i64 how, .slice N ns.length d]] w fun e w' => e = .returned (.int .i64 (ckV (chkG how ns))) ∧ Gr w w' := by
  have HS := Lib.hid h; have HZ := Lib.hid hz
  unfold maxLen at hd
  have _ := hd
  obtain ⟨W1, hW1, g1, hb1⟩ := fresh w #[.int .i64 how, .slice N ns.length d] 24
  have HW1 := Lib.hid hW1; have HG1 := Lib.hid g1
  have a0 := hb1 0 (.int .i64 how) rfl
  have a1 := hb1 1 (.slice N ns.length d) rfl
  obtain ⟨P, hP⟩ : ∃ P, w.heap.size = P := ⟨_, rfl⟩
  rw [hP] at a0 a1
  have HP := Lib.hid hP
  clear h hz hW1 g1 hb1 hP
  by_cases hh : how = 0 ∨ how = 1 ∨ how = 2
  · by_cases h32 : 32 < ns.length
    · have HC : Hid (chkG how ns = false) := Lib.hid (by unfold chkG; rw [decide_eq_false (by omega)]; simp)
      rcases hh with rfl | rfl | rfl
      all_goals
        go_enter Tryz.func10, Tryz.ntmps10
        go_upto_region 1 with fail
        rw [HW1.out, HP.out]
        go_wp2
        go_ret
        exact ⟨by rw [HC.out]; rfl, HG1.out⟩
    · by_cases hz0 : how = 0
      · subst hz0
        by_cases hl0 : 0 < ns.length
        · have HC : Hid (chkG 0 ns = false) := Lib.hid (by unfold chkG; rw [decide_eq_true hl0]; simp)
          go_enter Tryz.func10, Tryz.ntmps10
          go_upto_region 1 with fail
          rw [HW1.out, HP.out]
          go_wp2
          go_ret
          exact ⟨by rw [HC.out]; rfl, HG1.out⟩
        · obtain rfl : ns = [] := List.eq_nil_of_length_eq_zero (by omega)
          have HC : Hid (chkG 0 [] = true) := Lib.hid (by decide)
          simp only [List.length_nil] at a1 HW1 hl ⊢
          go_enter Tryz.func10, Tryz.ntmps10
          go_upto_region 1 with fail
          rw [HW1.out, HP.out]
          go_wp2
          refine wp_loop_rounds 1 ?_
          rw [rounds_succ]
          go_wp2
          go_ret
          exact ⟨by rw [HC.out]; rfl, HG1.out⟩
      · have HC : Hid (chkG how ns = nsTo ns ns.length) := Lib.hid (by
          unfold chkG
          have d0 : (how == 0) = false := by simpa using hz0
          rw [d0, decide_eq_true (by omega)]
          rcases hh with rfl | rfl | rfl
          · exact absurd rfl hz0
          · simp
          · simp)
        obtain ⟨b, hb⟩ : ∃ b, chkG how ns = b := ⟨_, rfl⟩
        rw [hb] at HC ⊢
        clear hb
        rcases hh with rfl | rfl | rfl
        · exact absurd rfl hz0
        all_goals
          clear hz0
          go_enter Tryz.func10, Tryz.ntmps10
          go_upto_region 1 with fail
          rw [HW1.out, HP.out]
          go_wp2
          go_loopw [36] (fun i wr => ∃ k : Nat, k ≤ ns.length ∧ i = .int .i64 k ∧ Hid (nsTo ns k = true) ∧ Gr W1 wr) (fun i _ => ns.length - (intOf i).toNat)
          case atStart => exact ⟨0, Nat.zero_le _, rfl, Lib.hid rfl, Gr.refl _⟩
          case round =>
            obtain ⟨k, hk, rfl, HU, hg⟩ := hrel
            by_cases hlt : k < ns.length
            · obtain ⟨b', o, rfl, c1⟩ := ((HS.out.gr HG1.out).gr hg).at_ hlt
              have a0' := hg.cell a0
              have a1' := hg.cell a1
              have hsz := HZ.out _ (List.getElem_mem hlt)
              have outy : (nameB ns[k] && !hasN (ns.take k) ns[k]) = true → Hid (nsTo ns (k + 1) = true) := fun h => Lib.hid (by rw [nsTo_s hlt, HU.out, h]; rfl)
              have outn : (nameB ns[k] && !hasN (ns.take k) ns[k]) = false → Hid (b = false) := fun h => Lib.hid (by rw [HC.out]; exact nsTo_not hlt h)
              obtain ⟨s, hs⟩ : ∃ s, ns[k] = s := ⟨_, rfl⟩
              rw [hs] at c1 hsz outy outn
              have OY := Lib.hid outy; have ON := Lib.hid outn
              have htl : (ns.take k).length = k := by simp; omega
              have CN := Lib.hid (fun W => name_any s W hsz)
              have CH := Lib.hid (fun W (g : Gr wr W) => contains_any (some ⟨b', o, none⟩) (ns.take k) d s W (StrsAt.take (((HS.out.gr HG1.out).gr hg).gr g) k) (by omega))
              rw [htl] at CH
              have n1 : (k : Int) < (ns.length : Int) := by omega
              have n2 : (k : Int) ≤ (d : Int) := by omega
              have n3 : (0 : Int) ≤ (k : Int) := by omega
              obtain ⟨v1, hv1⟩ : ∃ v, nameB s = v := ⟨_, rfl⟩
              obtain ⟨v2, hv2⟩ : ∃ v, hasN (ns.take k) s = v := ⟨_, rfl⟩
              rw [hv1] at CN
              rw [hv2] at CH
              have HG := Lib.hid hg
              have HV : Hid (nameB s = v1 ∧ hasN (ns.take k) s = v2) := Lib.hid ⟨hv1, hv2⟩
              clear hs outy outn hv1 hv2 htl hg hsz a0
              cases v1
              · have HN := ON.out (by rw [HV.out.1]; rfl)
                go_wp2_with (go_at_call 29; refine (CN.out _).mono ?_; rintro e w' ⟨rfl, rfl⟩)
                go_ret
                exact ⟨by rw [HN.out]; rfl, HG1.out.trans HG.out⟩
              · cases v2
                · have HN := OY.out (by rw [HV.out.1, HV.out.2]; rfl)
                  go_wp2_with (first
                    | (go_at_call 29; refine (CN.out _).mono ?_; rintro e w' ⟨rfl, rfl⟩)
                    | (go_at_call 30; refine (CH.out _ (Gr.refl _)).mono ?_; rintro e w' ⟨rfl, q, rfl⟩))
                  go_roundw
                  case rel => exact ⟨k + 1, by omega, by go_num, HN, HG.out.drewN _⟩
                  case measure => simp [intOf]; omega
                · have HN := ON.out (by rw [HV.out.1, HV.out.2]; rfl)
                  go_wp2_with (first
                    | (go_at_call 29; refine (CN.out _).mono ?_; rintro e w' ⟨rfl, rfl⟩)
                    | (go_at_call 30; refine (CH.out _ (Gr.refl _)).mono ?_; rintro e w' ⟨rfl, q, rfl⟩))
                  go_ret
                  exact ⟨by rw [HN.out]; rfl, HG1.out.trans (HG.out.drewN _)⟩
            · obtain rfl : k = ns.length := by omega
              have HN : Hid (b = true) := Lib.hid (by rw [HC.out]; exact HU.out)
              go_wp2
              go_ret
              exact ⟨by rw [HN.out]; rfl, HG1.out.trans hg⟩
  · have HC : Hid (chkG how ns = false) := Lib.hid (by
      unfold chkG
      have d0 : (how == 0) = false := by simpa using fun e => hh (.inl e)
      have d1 : (how == 1) = false := by simpa using fun e => hh (.inr (.inl e))
      have d2 : (how == 2) = false := by simpa using fun e => hh (.inr (.inr e))
      rw [d0, d1, d2]; rfl)
    have n0 : (how != 0) = true := by simpa using fun e => hh (.inl e)
    have n1 : (how != 1) = true := by simpa using fun e => hh (.inr (.inl e))
    have n2 : (how != 2) = true := by simpa using fun e => hh (.inr (.inr e))
    clear hh
    go_enter Tryz.func10, Tryz.ntmps10
    go_upto_region 1 with fail
    rw [HW1.out, HP.out]
    go_wp2
    go_ret
    exact ⟨by rw [HC.out]; rfl, HG1.out⟩
theorem rcheck_any (N : Option Addr) (ns : List ByteArray) (d : Nat) (how : Int) (w : World) (h : StrsAt w N ns) (hl : ns.length ≤ d) (hd : d ≤ maxLen) (hz : ∀ s ∈ ns, s.size ≤ maxLen) :
    Calls Tryz.prog 11 #[.agg #[.int .i64 how, .slice N ns.length d]] w fun e w' => e = .returned (.int .i64 (ckV (chkG how ns))) ∧ Gr w w' := by
  have HS := Lib.hid h; have HZ := Lib.hid hz
  unfold maxLen at hd
  have _ := hd
  obtain ⟨W1, hW1, g1, hb1⟩ := fresh w #[.int .i64 how, .slice N ns.length d] 24
  have HW1 := Lib.hid hW1; have HG1 := Lib.hid g1
  have a0 := hb1 0 (.int .i64 how) rfl
  have a1 := hb1 1 (.slice N ns.length d) rfl
  obtain ⟨P, hP⟩ : ∃ P, w.heap.size = P := ⟨_, rfl⟩
  rw [hP] at a0 a1
  have HP := Lib.hid hP
  clear h hz hW1 g1 hb1 hP
  by_cases hh : how = 0 ∨ how = 1 ∨ how = 2
  · by_cases h32 : 32 < ns.length
    · have HC : Hid (chkG how ns = false) := Lib.hid (by unfold chkG; rw [decide_eq_false (by omega)]; simp)
      rcases hh with rfl | rfl | rfl
      all_goals
        go_enter Tryz.func11, Tryz.ntmps11
        go_upto_region 1 with fail
        rw [HW1.out, HP.out]
        go_wp2
        go_ret
        exact ⟨by rw [HC.out]; rfl, HG1.out⟩
    · by_cases hz0 : how = 0
      · subst hz0
        by_cases hl0 : 0 < ns.length
        · have HC : Hid (chkG 0 ns = false) := Lib.hid (by unfold chkG; rw [decide_eq_true hl0]; simp)
          go_enter Tryz.func11, Tryz.ntmps11
          go_upto_region 1 with fail
          rw [HW1.out, HP.out]
          go_wp2
          go_ret
          exact ⟨by rw [HC.out]; rfl, HG1.out⟩
        · obtain rfl : ns = [] := List.eq_nil_of_length_eq_zero (by omega)
          have HC : Hid (chkG 0 [] = true) := Lib.hid (by decide)
          simp only [List.length_nil] at a1 HW1 hl ⊢
          go_enter Tryz.func11, Tryz.ntmps11
          go_upto_region 1 with fail
          rw [HW1.out, HP.out]
          go_wp2
          refine wp_loop_rounds 1 ?_
          rw [rounds_succ]
          go_wp2
          go_ret
          exact ⟨by rw [HC.out]; rfl, HG1.out⟩
      · have HC : Hid (chkG how ns = nsTo ns ns.length) := Lib.hid (by
          unfold chkG
          have d0 : (how == 0) = false := by simpa using hz0
          rw [d0, decide_eq_true (by omega)]
          rcases hh with rfl | rfl | rfl
          · exact absurd rfl hz0
          · simp
          · simp)
        obtain ⟨b, hb⟩ : ∃ b, chkG how ns = b := ⟨_, rfl⟩
        rw [hb] at HC ⊢
        clear hb
        rcases hh with rfl | rfl | rfl
        · exact absurd rfl hz0
        all_goals
          clear hz0
          go_enter Tryz.func11, Tryz.ntmps11
          go_upto_region 1 with fail
          rw [HW1.out, HP.out]
          go_wp2
          go_loopw [3] (fun i wr => ∃ k : Nat, k ≤ ns.length ∧ i = .int .i64 k ∧ Hid (nsTo ns k = true) ∧ Gr W1 wr) (fun i _ => ns.length - (intOf i).toNat)
          case atStart => exact ⟨0, Nat.zero_le _, rfl, Lib.hid rfl, Gr.refl _⟩
          case round =>
            obtain ⟨k, hk, rfl, HU, hg⟩ := hrel
            by_cases hlt : k < ns.length
            · obtain ⟨b', o, rfl, c1⟩ := ((HS.out.gr HG1.out).gr hg).at_ hlt
              have a0' := hg.cell a0
              have a1' := hg.cell a1
              have hsz := HZ.out _ (List.getElem_mem hlt)
              have outy : (nameB ns[k] && !hasN (ns.take k) ns[k]) = true → Hid (nsTo ns (k + 1) = true) := fun h => Lib.hid (by rw [nsTo_s hlt, HU.out, h]; rfl)
              have outn : (nameB ns[k] && !hasN (ns.take k) ns[k]) = false → Hid (b = false) := fun h => Lib.hid (by rw [HC.out]; exact nsTo_not hlt h)
              obtain ⟨s, hs⟩ : ∃ s, ns[k] = s := ⟨_, rfl⟩
              rw [hs] at c1 hsz outy outn
              have OY := Lib.hid outy; have ON := Lib.hid outn
              have htl : (ns.take k).length = k := by simp; omega
              have CN := Lib.hid (gq0 (W := wr) fun W => rName_any s W hsz)
              have chh : ∀ W', Gr wr W' → Calls Tryz.prog 32 #[.slice (some ⟨b', o, none⟩) k d, .string s] W' fun e w' => e = .returned (.bool (hasN (ns.take k) s)) ∧ Gr W' w' := fun W' g => by
                have := rHas_any (some ⟨b', o, none⟩) (ns.take k) d s W' (StrsAt.take (((HS.out.gr HG1.out).gr hg).gr g) k) (by omega)
                rwa [htl] at this
              have CH := Lib.hid (gq (W := wr) chh)
              clear chh
              have k1 := cell_regrown c1; have k2 := cell_regrown a1'
              have f1 : IntKind.i64.wrap (k : Int) = (k : Int) := IntWalk.i64_in _ (by omega)
              have n1 : (k : Int) < (ns.length : Int) := by omega
              have n2 : (k : Int) ≤ (d : Int) := by omega
              have n3 : (0 : Int) ≤ (k : Int) := by omega
              obtain ⟨v1, hv1⟩ : ∃ v, nameB s = v := ⟨_, rfl⟩
              obtain ⟨v2, hv2⟩ : ∃ v, hasN (ns.take k) s = v := ⟨_, rfl⟩
              rw [hv1] at CN
              rw [hv2] at CH
              have HG := Lib.hid hg
              have HV : Hid (nameB s = v1 ∧ hasN (ns.take k) s = v2) := Lib.hid ⟨hv1, hv2⟩
              clear hs outy outn hv1 hv2 htl hg hsz a0
              clear c1
              cases v1
              · have HN := ON.out (by rw [HV.out.1]; rfl)
                go_wp2_with fail
                refine wp_region_quiet_below (by kernel_rfl) (by kernel_rfl) ?_
                repeat (quiet_step (first | (go_at_call 31; exact CN.out _ _) | (go_at_call 32; exact CH.out _ _)))
                refine wpQuiet_nil ?_
                intro _ hw'
                obtain ⟨⟨dq, osq⟩, hw''⟩ := hw'
                subst hw''
                have hg5 := HG.out.trans ⟨below_regrown wr dq osq⟩
                clear k1 k2 CN CH f1 a1'
                generalize Go.Sort.grow (redrawn wr dq) osq = w5 at *
                go_wp2
                go_ret
                exact ⟨by rw [HN.out]; rfl, HG1.out.trans hg5⟩
              · cases v2
                · have HN := OY.out (by rw [HV.out.1, HV.out.2]; rfl)
                  go_wp2_with fail
                  refine wp_region_quiet_below (by kernel_rfl) (by kernel_rfl) ?_
                  repeat (quiet_step (first | (go_at_call 31; exact CN.out _ _) | (go_at_call 32; exact CH.out _ _)))
                  refine wpQuiet_nil ?_
                  intro _ hw'
                  obtain ⟨⟨dq, osq⟩, hw''⟩ := hw'
                  subst hw''
                  have hg5 := HG.out.trans ⟨below_regrown wr dq osq⟩
                  clear k1 k2 CN CH f1 a1'
                  generalize Go.Sort.grow (redrawn wr dq) osq = w5 at *
                  go_wp2
                  go_roundw
                  case rel => exact ⟨k + 1, by omega, by go_num, HN, hg5⟩
                  case measure => simp [intOf]; omega
                · have HN := ON.out (by rw [HV.out.1, HV.out.2]; rfl)
                  go_wp2_with fail
                  refine wp_region_quiet_below (by kernel_rfl) (by kernel_rfl) ?_
                  repeat (quiet_step (first | (go_at_call 31; exact CN.out _ _) | (go_at_call 32; exact CH.out _ _)))
                  refine wpQuiet_nil ?_
                  intro _ hw'
                  obtain ⟨⟨dq, osq⟩, hw''⟩ := hw'
                  subst hw''
                  have hg5 := HG.out.trans ⟨below_regrown wr dq osq⟩
                  clear k1 k2 CN CH f1 a1'
                  generalize Go.Sort.grow (redrawn wr dq) osq = w5 at *
                  go_wp2
                  go_ret
                  exact ⟨by rw [HN.out]; rfl, HG1.out.trans hg5⟩
            · obtain rfl : k = ns.length := by omega
              have HN : Hid (b = true) := Lib.hid (by rw [HC.out]; exact HU.out)
              have a1' := hg.cell a1
              go_wp2
              go_ret
              exact ⟨by rw [HN.out]; rfl, HG1.out.trans hg⟩
  · have HC : Hid (chkG how ns = false) := Lib.hid (by
      unfold chkG
      have d0 : (how == 0) = false := by simpa using fun e => hh (.inl e)
      have d1 : (how == 1) = false := by simpa using fun e => hh (.inr (.inl e))
      have d2 : (how == 2) = false := by simpa using fun e => hh (.inr (.inr e))
      rw [d0, d1, d2]; rfl)
    have hn : how < 0 ∨ (¬ how < 0 ∧ 2 < how) := by omega
    clear hh
    rcases hn with n0 | ⟨n0, n1⟩
    all_goals
     go_enter Tryz.func11, Tryz.ntmps11
     go_upto_region 1 with fail
     rw [HW1.out, HP.out]
     go_wp2
     go_ret
     exact ⟨by rw [HC.out]; rfl, HG1.out⟩
end Go.Proofs.YtllhkegefinlbaaGreatDoor.Pt
