/- Check, the program's and the reference's: may points be grouped so? -/
import Derived.Test.YtikaamonmaohjaaGreatDoorIPts
import Derived.Test.YtikaamonmaohjaaGreatDoorISize
import Derived.BigQuiet
import Derived.Deep.QuietTactic
namespace Go.Proofs.YtikaamonmaohjaaGreatDoor.Ir
open Go.RowKit
set_option maxRecDepth 100000
set_option maxHeartbeats 2000000

/-- the tables of names, as laid -/
structure Lt (w : World) : Prop where
  n : ∀ k, k < 15 → ∃ s, w.cell? ⟨1, k * 2, none⟩ = some (.string s) ∧ (1 ≤ k → s.toList.isEmpty = false)
  m : ∀ k, k < 9 → ∃ s, w.cell? ⟨2, k, none⟩ = some (.string s) ∧ (1 ≤ k → s.toList.isEmpty = false)
theorem Lt.gr {w w' : World} (h : Lt w) (g : Gr w w') : Lt w' :=
  ⟨fun k hk => by obtain ⟨s, h1, h2⟩ := h.n k hk; exact ⟨s, g.cell h1, h2⟩, fun k hk => by obtain ⟨s, h1, h2⟩ := h.m k hk; exact ⟨s, g.cell h1, h2⟩⟩
def inB (lo hi x : Int) : Bool := decide (lo ≤ x) && decide (x ≤ hi)
theorem inB_iff (lo hi x : Int) : inB lo hi x = true ↔ lo ≤ x ∧ x ≤ hi := by unfold inB; simp
theorem inB_no {lo hi x : Int} (h : inB lo hi x = false) : x < lo ∨ hi < x := by
  unfold inB at h; simp at h; omega
theorem wIs_any (x : Int) (w : World) : Calls Tryz.prog 111 #[.int .i64 x] w fun e w' => e = .returned (.bool (inB 1 14 x)) ∧ w = w' := by
  cases h : inB 1 14 x
  · rcases inB_no h with h1 | h1
    · clear h
      go_enter Tryz.func111, Tryz.ntmps111
      go_wp2
      go_ret
      exact ⟨rfl, rfl⟩
    · have h2 : 1 ≤ x := by omega
      have h3 : decide (x ≤ 14) = false := decide_eq_false (by omega)
      clear h
      go_enter Tryz.func111, Tryz.ntmps111
      go_wp2
      go_ret
      exact ⟨rfl, rfl⟩
  · obtain ⟨h1, h2⟩ := (inB_iff _ _ _).1 h
    clear h
    go_enter Tryz.func111, Tryz.ntmps111
    go_wp2
    go_ret
    exact ⟨rfl, rfl⟩
theorem aIs_any (x : Int) (w : World) : Calls Tryz.prog 112 #[.int .i64 x] w fun e w' => e = .returned (.bool (inB 1 8 x)) ∧ w = w' := by
  cases h : inB 1 8 x
  · rcases inB_no h with h1 | h1
    · clear h
      go_enter Tryz.func112, Tryz.ntmps112
      go_wp2
      go_ret
      exact ⟨rfl, rfl⟩
    · have h2 : 1 ≤ x := by omega
      have h3 : decide (x ≤ 8) = false := decide_eq_false (by omega)
      clear h
      go_enter Tryz.func112, Tryz.ntmps112
      go_wp2
      go_ret
      exact ⟨rfl, rfl⟩
  · obtain ⟨h1, h2⟩ := (inB_iff _ _ _).1 h
    clear h
    go_enter Tryz.func112, Tryz.ntmps112
    go_wp2
    go_ret
    exact ⟨rfl, rfl⟩
/-- a name is handed back: empty just if there is none -/
def NmPost (b : Bool) (w : World) (e : Ending) (w' : World) : Prop := ∃ s : ByteArray, e = .returned (.string s) ∧ s.toList.isEmpty = !b ∧ w = w'
theorem wName_any (x : Int) (w : World) (h : Lt w) : Calls Tryz.prog 87 #[.int .i64 x] w (NmPost (inB 1 14 x) w) := by
  have CI := Lib.hid (wIs_any x w)
  cases hi : inB 1 14 x
  · rw [hi] at CI
    clear hi h
    go_enter Tryz.func87, Tryz.ntmps87
    go_wp2_with (first | (go_at_call 111; refine CI.out.mono ?_; rintro e w' ⟨rfl, rfl⟩) | fail)
    go_ret
    exact ⟨_, rfl, by kernel_rfl, rfl⟩
  · rw [hi] at CI
    obtain ⟨h1, h2⟩ := (inB_iff _ _ _).1 hi
    obtain ⟨k, rfl⟩ : ∃ k : Nat, x = k := ⟨x.toNat, by omega⟩
    obtain ⟨s, c1, hs⟩ := h.n k (by omega)
    have HS := Lib.hid (hs (by omega))
    have q2 : (0 : Int) ≤ (k : Int) := by omega
    have q3 : (k : Int) < 15 := by omega
    clear hi h hs h1 h2
    go_enter Tryz.func87, Tryz.ntmps87
    go_wp2_with (first | (go_at_call 111; refine CI.out.mono ?_; rintro e w' ⟨rfl, rfl⟩) | fail)
    go_ret
    exact ⟨_, rfl, HS.out, rfl⟩
theorem aName_any (x : Int) (w : World) (h : Lt w) : Calls Tryz.prog 88 #[.int .i64 x] w (NmPost (inB 1 8 x) w) := by
  have CI := Lib.hid (aIs_any x w)
  cases hi : inB 1 8 x
  · rw [hi] at CI
    clear hi h
    go_enter Tryz.func88, Tryz.ntmps88
    go_wp2_with (first | (go_at_call 112; refine CI.out.mono ?_; rintro e w' ⟨rfl, rfl⟩) | fail)
    go_ret
    exact ⟨_, rfl, by kernel_rfl, rfl⟩
  · rw [hi] at CI
    obtain ⟨h1, h2⟩ := (inB_iff _ _ _).1 hi
    obtain ⟨k, rfl⟩ : ∃ k : Nat, x = k := ⟨x.toNat, by omega⟩
    obtain ⟨s, c1, hs⟩ := h.m k (by omega)
    have HS := Lib.hid (hs (by omega))
    have q2 : (0 : Int) ≤ (k : Int) := by omega
    have q3 : (k : Int) < 9 := by omega
    clear hi h hs h1 h2
    go_enter Tryz.func88, Tryz.ntmps88
    go_wp2_with (first | (go_at_call 112; refine CI.out.mono ?_; rintro e w' ⟨rfl, rfl⟩) | fail)
    go_ret
    exact ⟨_, rfl, HS.out, rfl⟩
/-- is it a function of its kind's? -/
def fnB (k fn : Int) : Bool := if k = 4 ∨ k = 5 then inB 1 14 fn else if k = 6 then inB 1 5 fn else if k = 7 then inB 1 14 fn else inB 1 8 fn
theorem isFun_any (d : Nf) (p : Np) (nk : Nat) (w : World) (h : Lt w) (hk : d.k = 4 ∨ d.k = 5 ∨ d.k = 6 ∨ d.k = 7 ∨ d.k = 8) :
    Calls Tryz.prog 40 #[.agg (nV d p nk).toArray] w fun e w' => e = .returned (.bool (fnB d.k d.fn)) ∧ Gr w w' := by
  obtain ⟨W1, hW1, g1, hb1, -, hsz⟩ := nbox w (nV d p nk) 31
  obtain ⟨a0, -, a2, -, -, -, -, -, -, -, -, -, -, -, -, -, -⟩ := hb1.all
  simp only [Nat.zero_add] at a2
  obtain ⟨P, hP⟩ : ∃ P, w.heap.size = P := ⟨_, rfl⟩
  rw [hP] at a0 a2
  obtain ⟨fn, hfn⟩ : ∃ x, d.fn = x := ⟨_, rfl⟩
  obtain ⟨kd, hkd⟩ : ∃ x, d.k = x := ⟨_, rfl⟩
  rw [hkd] at a0 hk; rw [hfn] at a2
  have HP := Lib.hid hP; have HW1 := Lib.hid hW1; have HG1 := Lib.hid g1
  have CW := Lib.hid (wName_any fn W1 (h.gr g1))
  have CA := Lib.hid (aName_any fn W1 (h.gr g1))
  rw [hkd, hfn]
  clear hW1 g1 hb1 hsz hP h hfn hkd
  rcases hk with rfl | rfl | rfl | rfl | rfl
  · obtain ⟨b, hb⟩ : ∃ b, inB 1 14 fn = b := ⟨_, rfl⟩
    rw [hb] at CW
    have HN : Hid (fnB 4 fn = b) := Lib.hid (by unfold fnB; rw [if_pos (by omega), hb])
    clear hb CA
    cases b
    all_goals
      go_enter Tryz.func40, Tryz.ntmps40
      go_upto_region 1 with fail
      rw [HW1.out, HP.out]
      go_wp2_with (go_at_call 87; refine CW.out.mono ?_; rintro e w' ⟨s, rfl, hs, rfl⟩)
      go_ret
      exact ⟨by rw [HN.out]; rfl, HG1.out⟩
  · obtain ⟨b, hb⟩ : ∃ b, inB 1 14 fn = b := ⟨_, rfl⟩
    rw [hb] at CW
    have HN : Hid (fnB 5 fn = b) := Lib.hid (by unfold fnB; rw [if_pos (by omega), hb])
    clear hb CA
    cases b
    all_goals
      go_enter Tryz.func40, Tryz.ntmps40
      go_upto_region 1 with fail
      rw [HW1.out, HP.out]
      go_wp2_with (go_at_call 87; refine CW.out.mono ?_; rintro e w' ⟨s, rfl, hs, rfl⟩)
      go_ret
      exact ⟨by rw [HN.out]; rfl, HG1.out⟩
  · cases hb : inB 1 5 fn
    · have HN : Hid (fnB 6 fn = false) := Lib.hid (by unfold fnB; rw [if_neg (by omega), if_pos rfl, hb])
      rcases inB_no hb with h1 | h1
      · clear hb
        go_enter Tryz.func40, Tryz.ntmps40
        go_upto_region 1 with fail
        rw [HW1.out, HP.out]
        go_wp2
        go_ret
        exact ⟨by rw [HN.out]; rfl, HG1.out⟩
      · have h2 : 1 ≤ fn := by omega
        have h3 : decide (fn ≤ 5) = false := decide_eq_false (by omega)
        clear hb
        go_enter Tryz.func40, Tryz.ntmps40
        go_upto_region 1 with fail
        rw [HW1.out, HP.out]
        go_wp2
        go_ret
        exact ⟨by rw [HN.out]; rfl, HG1.out⟩
    · have HN : Hid (fnB 6 fn = true) := Lib.hid (by unfold fnB; rw [if_neg (by omega), if_pos rfl, hb])
      obtain ⟨h1, h2⟩ := (inB_iff _ _ _).1 hb
      clear hb
      go_enter Tryz.func40, Tryz.ntmps40
      go_upto_region 1 with fail
      rw [HW1.out, HP.out]
      go_wp2
      go_ret
      exact ⟨by rw [HN.out]; rfl, HG1.out⟩
  · cases hb : inB 1 14 fn
    · have HN : Hid (fnB 7 fn = false) := Lib.hid (by unfold fnB; rw [if_neg (by omega), if_neg (by omega), if_pos rfl, hb])
      rcases inB_no hb with h1 | h1
      · clear hb
        go_enter Tryz.func40, Tryz.ntmps40
        go_upto_region 1 with fail
        rw [HW1.out, HP.out]
        go_wp2
        go_ret
        exact ⟨by rw [HN.out]; rfl, HG1.out⟩
      · have h2 : 1 ≤ fn := by omega
        have h3 : decide (fn ≤ 14) = false := decide_eq_false (by omega)
        clear hb
        go_enter Tryz.func40, Tryz.ntmps40
        go_upto_region 1 with fail
        rw [HW1.out, HP.out]
        go_wp2
        go_ret
        exact ⟨by rw [HN.out]; rfl, HG1.out⟩
    · have HN : Hid (fnB 7 fn = true) := Lib.hid (by unfold fnB; rw [if_neg (by omega), if_neg (by omega), if_pos rfl, hb])
      obtain ⟨h1, h2⟩ := (inB_iff _ _ _).1 hb
      clear hb
      go_enter Tryz.func40, Tryz.ntmps40
      go_upto_region 1 with fail
      rw [HW1.out, HP.out]
      go_wp2
      go_ret
      exact ⟨by rw [HN.out]; rfl, HG1.out⟩
  · obtain ⟨b, hb⟩ : ∃ b, inB 1 8 fn = b := ⟨_, rfl⟩
    rw [hb] at CA
    have HN : Hid (fnB 8 fn = b) := Lib.hid (by unfold fnB; rw [if_neg (by omega), if_neg (by omega), if_neg (by omega), hb])
    clear hb CW
    cases b
    all_goals
      go_enter Tryz.func40, Tryz.ntmps40
      go_upto_region 1 with fail
      rw [HW1.out, HP.out]
      go_wp2_with (go_at_call 88; refine CA.out.mono ?_; rintro e w' ⟨s, rfl, hs, rfl⟩)
      go_ret
      exact ⟨by rw [HN.out]; rfl, HG1.out⟩
end Go.Proofs.YtikaamonmaohjaaGreatDoor.Ir
namespace Go.Proofs.YtikaamonmaohjaaGreatDoor.Ir
open Go.RowKit
set_option maxRecDepth 100000
set_option maxHeartbeats 4000000
attribute [local irreducible] wpQuiet

/-- a new block -/
theorem fresh (w : World) (cs : Array Value) (t : TypeId) : ∃ W, w.alloc (.cells cs t) = W ∧ Gr w W ∧ ∀ i v, cs[i]? = some v → W.cell? ⟨w.heap.size, i, none⟩ = some v := by
  refine ⟨_, rfl, (Gr.refl w).alloc _ _, fun i v h => ?_⟩
  rw [World.cell?_alloc_at _ _ _ _ (by simp)]
  simpa using h
def eB : ByteArray := ⟨#[]⟩
def nsTo (ns : List ByteArray) (k : Nat) : Bool := (List.range k).all fun i => nameB (ns.getD i eB) && !hasN (ns.take i) (ns.getD i eB)
/-- may points be grouped so? -/
def chkG (how : Int) (ns : List ByteArray) : Bool := (how == 0 || how == 1 || how == 2) && decide (ns.length ≤ 32) && !(how == 0 && decide (0 < ns.length)) && nsTo ns ns.length
theorem nsTo_s {ns : List ByteArray} {k : Nat} (h : k < ns.length) : nsTo ns (k + 1) = (nsTo ns k && (nameB ns[k] && !hasN (ns.take k) ns[k])) := by
  unfold nsTo
  rw [List.range_succ, List.all_append]
  have : ns.getD k eB = ns[k] := by rw [List.getD, List.getElem?_eq_getElem h]; rfl
  rw [List.all_cons, List.all_nil, this, Bool.and_true]
theorem nsTo_not {ns : List ByteArray} {k : Nat} (h : k < ns.length) (g : (nameB ns[k] && !hasN (ns.take k) ns[k]) = false) : nsTo ns ns.length = false := by
  unfold nsTo
  rw [List.all_eq_false]
  refine ⟨k, List.mem_range.2 h, ?_⟩
  have : ns.getD k eB = ns[k] := by rw [List.getD, List.getElem?_eq_getElem h]; rfl
  rw [this, g]; simp
theorem hasN_s {ns : List ByteArray} {k : Nat} {n : ByteArray} (h : k < ns.length) : hasN (ns.take (k + 1)) n = (hasN (ns.take k) n || n.toList == (ns[k]).toList) := by
  unfold hasN
  rw [List.take_succ_eq_append_getElem h, List.any_append]
  simp
theorem hasN_at {ns : List ByteArray} {k : Nat} {n : ByteArray} (h : k < ns.length) (g : (n.toList == (ns[k]).toList) = true) : hasN ns n = true := by
  unfold hasN
  rw [List.any_eq_true]
  exact ⟨_, List.getElem_mem h, g⟩
theorem index_any (N : Option Addr) (ns : List ByteArray) (d : Nat) (n : ByteArray) (w : World) (h : StrsAt w N ns) (hl : ns.length ≤ 1099511627776) :
    Calls Tryz.prog 113 #[.slice N ns.length d, .string n] w fun e w' => ∃ r : Int, e = .returned (.int .i64 r) ∧ decide (0 ≤ r) = hasN ns n ∧ ∃ q, w' = w.drewN q := by
  have HS := Lib.hid h
  clear h
  go_enter Tryz.func113, Tryz.ntmps113
  go_wp2
  go_loopw [8] (fun i wr => ∃ k : Nat, k ≤ ns.length ∧ i = .int .i64 k ∧ Hid (hasN ns n = hasN (ns.drop k) n) ∧ wr = w) (fun i _ => ns.length - (intOf i).toNat)
  case atStart => exact ⟨0, Nat.zero_le _, rfl, rfl, rfl⟩
  case round =>
    obtain ⟨k, hk, rfl, HR, rfl⟩ := hrel
    by_cases hlt : k < ns.length
    · obtain ⟨b, o, rfl, c1⟩ := HS.out.at_ hlt
      have HST := Lib.hid (hasN_step hlt n)
      obtain ⟨m, hm⟩ : ∃ m, ns[k] = m := ⟨_, rfl⟩
      rw [hm] at c1 HST
      clear hm
      cases e1 : (n.toList == m.toList)
      · have HN : Hid (hasN ns n = hasN (ns.drop (k + 1)) n) := Lib.hid (by rw [HR.out, HST.out, e1]; rfl)
        go_wp2
        go_roundw
        case rel => exact ⟨k + 1, by omega, by go_num, HN, trivial⟩
        case measure => simp [intOf]; omega
      · have HN : Hid (hasN ns n = true) := Lib.hid (by rw [HR.out, HST.out, e1]; rfl)
        go_wp2
        go_ret
        exact ⟨(k : Int), rfl, by rw [HN.out]; exact decide_eq_true (by omega), 0, rfl⟩
    · obtain rfl : k = ns.length := by omega
      have HN : Hid (hasN ns n = false) := Lib.hid (by rw [HR.out, List.drop_length]; rfl)
      go_wp2
      go_ret
      exact ⟨-1, rfl, by rw [HN.out]; rfl, 0, rfl⟩
theorem contains_any (N : Option Addr) (ns : List ByteArray) (d : Nat) (n : ByteArray) (w : World) (h : StrsAt w N ns) (hl : ns.length ≤ 1099511627776) :
    Calls Tryz.prog 89 #[.slice N ns.length d, .string n] w fun e w' => e = .returned (.bool (hasN ns n)) ∧ ∃ q, w' = w.drewN q := by
  have CI := Lib.hid (index_any N ns d n w h hl)
  obtain ⟨v, hv⟩ : ∃ v, hasN ns n = v := ⟨_, rfl⟩
  rw [hv] at CI ⊢
  clear h hv
  go_enter Tryz.func89, Tryz.ntmps89
  go_wp2_with fail
  refine CI.out.mono ?_
  rintro e w' ⟨r, rfl, hr, q, rfl⟩
  go_wp2
  go_ret
  exact ⟨by rw [← hr]; rfl, q, rfl⟩
theorem StrsAt.take {W : World} {A : Option Addr} {l : List ByteArray} (h : StrsAt W A l) (k : Nat) : StrsAt W A (l.take k) := fun h0 => by
  obtain ⟨b, o, e, hc⟩ := h (by have : (l.take k).length ≤ l.length := List.length_take_le' ..; omega)
  refine ⟨b, o, e, fun i x hx => hc i x ?_⟩
  rw [List.getElem?_take] at hx
  split at hx
  · exact hx
  · cases hx
/-- what Check answers -/
def ckV (b : Bool) : Int := if b then 0 else 1
theorem check_any (N : Option Addr) (ns : List ByteArray) (d : Nat) (how : Int) (w : World) (h : StrsAt w N ns) (hl : ns.length ≤ d) (hd : d ≤ maxLen) (hz : ∀ s ∈ ns, s.size ≤ maxLen) :
    Calls Tryz.prog 42 #[.agg #[.int .i64 how, .slice N ns.length d]] w fun e w' => e = .returned (.int .i64 (ckV (chkG how ns))) ∧ Gr w w' := by
  have HS := Lib.hid h; have HZ := Lib.hid hz
  unfold maxLen at hd
  have _ := hd
  obtain ⟨W1, hW1, g1, hb1⟩ := fresh w #[.int .i64 how, .slice N ns.length d] 26
  have HW1 := Lib.hid hW1; have HG1 := Lib.hid g1
  have a0 := hb1 0 (.int .i64 how) rfl
  have a1 := hb1 1 (.slice N ns.length d) rfl
  obtain ⟨P, hP⟩ : ∃ P, w.heap.size = P := ⟨_, rfl⟩
  rw [hP] at a0 a1
  have HP := Lib.hid hP
  clear h hz hW1 g1 hb1 hP
  by_cases hh : how = 0 ∨ how = 1 ∨ how = 2
  · by_cases h32 : 32 < ns.length
    · have HC : Hid (chkG how ns = false) := Lib.hid (by unfold chkG; rw [decide_eq_false (by omega)]; simp)
      rcases hh with rfl | rfl | rfl
      all_goals
        go_enter Tryz.func42, Tryz.ntmps42
        go_upto_region 1 with fail
        rw [HW1.out, HP.out]
        go_wp2
        go_ret
        exact ⟨by rw [HC.out]; rfl, HG1.out⟩
    · by_cases hz0 : how = 0
      · subst hz0
        by_cases hl0 : 0 < ns.length
        · have HC : Hid (chkG 0 ns = false) := Lib.hid (by unfold chkG; rw [decide_eq_true hl0]; simp)
          go_enter Tryz.func42, Tryz.ntmps42
          go_upto_region 1 with fail
          rw [HW1.out, HP.out]
          go_wp2
          go_ret
          exact ⟨by rw [HC.out]; rfl, HG1.out⟩
        · obtain rfl : ns = [] := List.eq_nil_of_length_eq_zero (by omega)
          have HC : Hid (chkG 0 [] = true) := Lib.hid (by decide)
          simp only [List.length_nil] at a1 HW1 hl ⊢
          go_enter Tryz.func42, Tryz.ntmps42
          go_upto_region 1 with fail
          rw [HW1.out, HP.out]
          go_wp2
          refine wp_loop_rounds 1 ?_
          rw [rounds_succ]
          go_wp2
          go_ret
          exact ⟨by rw [HC.out]; rfl, HG1.out⟩
      · have HC : Hid (chkG how ns = nsTo ns ns.length) := Lib.hid (by
          unfold chkG
          have d0 : (how == 0) = false := by simpa using hz0
          rw [d0, decide_eq_true (by omega)]
          rcases hh with rfl | rfl | rfl
          · exact absurd rfl hz0
          · simp
          · simp)
        obtain ⟨b, hb⟩ : ∃ b, chkG how ns = b := ⟨_, rfl⟩
        rw [hb] at HC ⊢
        clear hb
        rcases hh with rfl | rfl | rfl
        · exact absurd rfl hz0
        all_goals
          clear hz0
          go_enter Tryz.func42, Tryz.ntmps42
          go_upto_region 1 with fail
          rw [HW1.out, HP.out]
          go_wp2
          go_loopw [36] (fun i wr => ∃ k : Nat, k ≤ ns.length ∧ i = .int .i64 k ∧ Hid (nsTo ns k = true) ∧ Gr W1 wr) (fun i _ => ns.length - (intOf i).toNat)
          case atStart => exact ⟨0, Nat.zero_le _, rfl, Lib.hid rfl, Gr.refl _⟩
          case round =>
            obtain ⟨k, hk, rfl, HU, hg⟩ := hrel
            by_cases hlt : k < ns.length
            · obtain ⟨b', o, rfl, c1⟩ := ((HS.out.gr HG1.out).gr hg).at_ hlt
              have a0' := hg.cell a0
              have a1' := hg.cell a1
              have hsz := HZ.out _ (List.getElem_mem hlt)
              have outy : (nameB ns[k] && !hasN (ns.take k) ns[k]) = true → Hid (nsTo ns (k + 1) = true) := fun h => Lib.hid (by rw [nsTo_s hlt, HU.out, h]; rfl)
              have outn : (nameB ns[k] && !hasN (ns.take k) ns[k]) = false → Hid (b = false) := fun h => Lib.hid (by rw [HC.out]; exact nsTo_not hlt h)
              obtain ⟨s, hs⟩ : ∃ s, ns[k] = s := ⟨_, rfl⟩
              rw [hs] at c1 hsz outy outn
              have OY := Lib.hid outy; have ON := Lib.hid outn
              have htl : (ns.take k).length = k := by simp; omega
              have CN := Lib.hid (fun W => name_any s W hsz)
              have CH := Lib.hid (fun W (g : Gr wr W) => contains_any (some ⟨b', o, none⟩) (ns.take k) d s W (StrsAt.take (((HS.out.gr HG1.out).gr hg).gr g) k) (by omega))
              rw [htl] at CH
              have n1 : (k : Int) < (ns.length : Int) := by omega
              have n2 : (k : Int) ≤ (d : Int) := by omega
              have n3 : (0 : Int) ≤ (k : Int) := by omega
              obtain ⟨v1, hv1⟩ : ∃ v, nameB s = v := ⟨_, rfl⟩
              obtain ⟨v2, hv2⟩ : ∃ v, hasN (ns.take k) s = v := ⟨_, rfl⟩
              rw [hv1] at CN
              rw [hv2] at CH
              have HG := Lib.hid hg
              have HV : Hid (nameB s = v1 ∧ hasN (ns.take k) s = v2) := Lib.hid ⟨hv1, hv2⟩
              clear hs outy outn hv1 hv2 htl hg hsz a0
              cases v1
              · have HN := ON.out (by rw [HV.out.1]; rfl)
                go_wp2_with (go_at_call 43; refine (CN.out _).mono ?_; rintro e w' ⟨rfl, rfl⟩)
                go_ret
                exact ⟨by rw [HN.out]; rfl, HG1.out.trans HG.out⟩
              · cases v2
                · have HN := OY.out (by rw [HV.out.1, HV.out.2]; rfl)
                  go_wp2_with (first
                    | (go_at_call 43; refine (CN.out _).mono ?_; rintro e w' ⟨rfl, rfl⟩)
                    | (go_at_call 89; refine (CH.out _ (Gr.refl _)).mono ?_; rintro e w' ⟨rfl, q, rfl⟩))
                  go_roundw
                  case rel => exact ⟨k + 1, by omega, by go_num, HN, HG.out.drewN _⟩
                  case measure => simp [intOf]; omega
                · have HN := ON.out (by rw [HV.out.1, HV.out.2]; rfl)
                  go_wp2_with (first
                    | (go_at_call 43; refine (CN.out _).mono ?_; rintro e w' ⟨rfl, rfl⟩)
                    | (go_at_call 89; refine (CH.out _ (Gr.refl _)).mono ?_; rintro e w' ⟨rfl, q, rfl⟩))
                  go_ret
                  exact ⟨by rw [HN.out]; rfl, HG1.out.trans (HG.out.drewN _)⟩
            · obtain rfl : k = ns.length := by omega
              have HN : Hid (b = true) := Lib.hid (by rw [HC.out]; exact HU.out)
              go_wp2
              go_ret
              exact ⟨by rw [HN.out]; rfl, HG1.out.trans hg⟩
  · have HC : Hid (chkG how ns = false) := Lib.hid (by
      unfold chkG
      have d0 : (how == 0) = false := by simpa using fun e => hh (.inl e)
      have d1 : (how == 1) = false := by simpa using fun e => hh (.inr (.inl e))
      have d2 : (how == 2) = false := by simpa using fun e => hh (.inr (.inr e))
      rw [d0, d1, d2]; rfl)
    have n0 : (how != 0) = true := by simpa using fun e => hh (.inl e)
    have n1 : (how != 1) = true := by simpa using fun e => hh (.inr (.inl e))
    have n2 : (how != 2) = true := by simpa using fun e => hh (.inr (.inr e))
    clear hh
    go_enter Tryz.func42, Tryz.ntmps42
    go_upto_region 1 with fail
    rw [HW1.out, HP.out]
    go_wp2
    go_ret
    exact ⟨by rw [HC.out]; rfl, HG1.out⟩
end Go.Proofs.YtikaamonmaohjaaGreatDoor.Ir
