/- Normal, the reference's. -/
import Derived.Test.YtllhkegefinlbaaGreatDoorPRef
import Derived.Test.YtllhkegefinlbaaGreatDoorPNorm
import Derived.Deep.Cut
import Derived.Deep.CutRange
import Derived.Deep.CutBlock
namespace Go.Proofs.YtllhkegefinlbaaGreatDoor.Pt
open Go.RowKit Go.Sort
set_option maxRecDepth 100000
set_option maxHeartbeats 8000000
attribute [local irreducible] wpQuiet

/-- the place of labels -/
def plP (l : List Pt) (x : List Lb) : Nat := (l.takeWhile (ahead x)).length
theorem plP_le (l : List Pt) (x : List Lb) : plP l x ≤ l.length := by
  have h := congrArg List.length (List.takeWhile_append_dropWhile (p := ahead x) (l := l))
  rw [List.length_append] at h
  unfold plP
  omega
theorem plP_at {l : List Pt} {x : List Lb} {k : Nat} (h1 : ∀ i, i < k → ∀ q, l[i]? = some q → ltLs q.1 x) (h2 : ∀ q, l[k]? = some q → ¬ ltLs q.1 x) (hk : k ≤ l.length) : plP l x = k := by
  unfold plP
  rw [(tw_len h1 h2 hk).1]
  simp; omega
theorem plP_lt {l : List Pt} {x : List Lb} {i : Nat} (h : i < plP l x) {q : Pt} (hq : l[i]? = some q) : ltLs q.1 x := by
  have h1 : (l.takeWhile (ahead x))[i]? = some q := by
    have e := List.takeWhile_append_dropWhile (p := ahead x) (l := l)
    rw [← e, List.getElem?_append_left h] at hq
    exact hq
  have h2 := List.all_eq_true.1 (List.all_takeWhile (l := l) (p := ahead x)) q (List.mem_of_getElem? h1)
  simpa [ahead] using h2
theorem plP_ge {l : List Pt} {x : List Lb} {q : Pt} (hq : l[plP l x]? = some q) : ¬ ltLs q.1 x := by
  have e := List.takeWhile_append_dropWhile (p := ahead x) (l := l)
  rw [← e] at hq
  unfold plP at hq
  rw [List.getElem?_append_right (by rw [e]; exact Nat.le_refl _)] at hq
  rw [e, Nat.sub_self] at hq
  intro h
  cases hd : l.dropWhile (ahead x) with
  | nil => rw [hd] at hq; simp at hq
  | cons y r =>
    rw [hd] at hq
    obtain rfl : y = q := by simpa using hq
    have := List.head_dropWhile_not (ahead x) (l := l) (by rw [hd]; simp)
    simp [hd, ahead, h] at this
theorem insP_pl (l : List Pt) (p : Pt) : insP l p = l.take (plP l p.1) ++ p :: l.drop (plP l p.1) :=
  insP_at (fun _ hi _ hq => plP_lt hi hq) (fun _ hq => plP_ge hq) (plP_le _ _)
/-- is it there? -/
def dupB (l : List Pt) (x : List Lb) : Bool := match l[plP l x]? with
  | some q => cmpLs q.1 x == 0
  | none => false
theorem dupB_iff {l : List Pt} {x : List Lb} (hw : wsP l) : dupB l x = true ↔ x ∈ l.map (·.1) := by
  rw [dup_at hw (fun _ hi _ hq => plP_lt hi hq) (fun _ hq => plP_ge hq)]
  unfold dupB
  cases h : l[plP l x]? with
  | none => simp
  | some q => simp [cmpLs_0_iff]
theorem nodB_next {l : List Pt} {k : Nat} (h : k < l.length) : ((!nodB (l.take k)) || dupB (ordP (l.take k)) (l[k]).1) = !nodB (l.take (k + 1)) := by
  have h1 := nodB_take h
  have h2 := dupB_iff (x := (l[k]).1) (ordP_ws (l.take k))
  cases e1 : nodB (l.take k) <;> cases e2 : dupB (ordP (l.take k)) (l[k]).1 <;> cases e3 : nodB (l.take (k + 1)) <;> simp_all
/-- the reference's row on the way -/
structure RNS (w W : World) (v : Value) (cs : List Pc) (l : List Pt) : Prop where
  g : Gr w W
  row : OwnT W w.heap.size v cs
  rds : Rds w cs l
theorem RNS.gr {w W W' : World} {v : Value} {cs : List Pc} {l : List Pt} (h : RNS w W v cs l) (g : Gr W W') : RNS w W' v cs l := ⟨h.g.trans g, h.row.gr g, h.rds⟩
theorem RNS.pts {w W : World} {A : Option Addr} {n c : Nat} {cs : List Pc} {l : List Pt} (h : RNS w W (.slice A n c) cs l) : At2 encT W A cs ∧ PtsAt W A l := by
  obtain ⟨A', c', e, h1, -⟩ := h.row.form (fun _ => rfl)
  injection e with e1 e2 e3
  subst e1
  exact ⟨h1, cs, h1, h.rds.gr h.g⟩
theorem own_emp (W : World) (B : Nat) (hB : B ≤ W.heap.size) : OwnT (W.alloc (.cells #[] 45)) B (.slice (some ⟨W.heap.size, 0, none⟩) 0 0) [] :=
  World.ownsRow_made W #[] 0 hB (Nat.zero_le _) (by simp)
theorem own_empb (W : World) (B : Nat) (hB : B ≤ W.heap.size) (o : Obj) : OwnT ((W.alloc o).alloc (.cells #[] 45)) B (.slice (some ⟨W.heap.size + 1, 0, none⟩) 0 0) [] := by
  have h := own_emp (W.alloc o) B (by simp; omega)
  rwa [show (W.alloc o).heap.size = W.heap.size + 1 by simp] at h
theorem run_appRt {W : World} {B : Nat} {v : Value} {cs : List Pc} {A : Option Addr} {j c : Nat} (h : OwnT W B v []) (hat : At2 encT W A cs) (hj : j ≤ cs.length) (hl : cs.length ≤ 1000000) (hB : B ≤ W.heap.size) :
    ∃ v' W', (Builtin.append_ #[26, 26] 26 #[v, .slice A j c]).run Tryz.prog W = .ok v' W' ∧ OwnT W' B v' (cs.take j) ∧ W.grownBy W' v.ownBlock ∧ (v'.ownBlock = v.ownBlock ∨ v'.ownBlock = some W.heap.size) := by
  have e : (cs.take j).length = j := by simp; omega
  obtain ⟨v', W', h1, h2, h3⟩ := run_appR (c := c) h (hat.take j) (by simp; omega) hB
  rw [e] at h1
  exact ⟨v', W', h1, by simpa using h2, h3⟩
theorem run_appRd {W : World} {B : Nat} {v : Value} {ds cs : List Pc} {A : Option Addr} {j n c c' : Nat} (h : OwnT W B v ds) (hat : At2 encT W A cs) (hn : n = cs.length) (hj : j ≤ n) (hc : n ≤ c) (hl : cs.length ≤ 1000000) (hd : ds.length ≤ 1000000) (hB : B ≤ W.heap.size) :
    ∃ v' W', (Builtin.append_ #[26, 26] 26 #[v, .slice (if c = j then A else A.map (·.add (j * 2))) (n - j) c']).run Tryz.prog W = .ok v' W' ∧ OwnT W' B v' (ds ++ cs.drop j) ∧ W.grownBy W' v.ownBlock ∧ (v'.ownBlock = v.ownBlock ∨ v'.ownBlock = some W.heap.size) := by
  subst hn
  have e : (cs.drop j).length = cs.length - j := by simp
  obtain ⟨v', W', h1, h2, h3⟩ := run_appR (c := c') h (hat.drop j c hj hc) (by simp; omega) hB
  rw [e] at h1
  exact ⟨v', W', h1, h2, h3⟩
theorem Rds.ins {w : World} {cs : List Pc} {l : List Pt} (h : Rds w cs l) (j : Nat) {c : Pc} {p : Pt} (hc : Rd w c p) : Rds w (cs.take j ++ [c] ++ cs.drop j) (l.take j ++ p :: l.drop j) := by
  have := ((h.take j).append (Rds.one hc)).append (h.drop j)
  simpa using this

theorem rnormal_any (A : Option Addr) (l : List Pt) (c : Nat) (w : World) (h : PtsAt w A l) (hs : SmP l) :
    Calls Tryz.prog 27 #[.slice A l.length c] w (VPost (norV l) (norE l) w) := by
  have HL := Lib.hid h; have HS := Lib.hid hs
  have hlen : l.length ≤ 1000 := hs.1
  have HNo : Hid (okP l = false → norE l = 1 ∧ norV l = []) := Lib.hid norE_1
  clear h hs
  go_enter Tryz.func27, Tryz.ntmps27
  go_wp2
  go_loopg [4, 5, 6] l.length (fun gn v d i wr => ∃ (k : Nat) (cs : List Pc), k + gn = l.length ∧ i = .int .i64 k ∧ d = .bool (!nodB (l.take k)) ∧ Hid (RNS w wr v cs (ordP (l.take k))) ∧ Hid (okP (l.take k) = true))
  case atStart => exact ⟨0, [], by omega, rfl, rfl, Lib.hid ⟨Gr.refl _, Own2.nil _ _, Rds.nil _⟩, Lib.hid rfl⟩
  case round =>
    obtain ⟨k, cs, hk, rfl, rfl, HG, HU⟩ := hrel
    have hkl : k ≤ l.length := by omega
    by_cases hlt : k < l.length
    · have hg := HG.out.g
      obtain ⟨b, o, s1, n1, rfl, c1, c2, la1, hbl⟩ := (HL.out.gr (Gr.refl w)).cell hlt
      have m1 := HS.out.at_ hlt
      have outn : rightB (l[k]).1 = false → Hid (norE l = 1 ∧ norV l = []) := fun h => Lib.hid (HNo.out (okP_not hlt h))
      have outk : rightB (l[k]).1 = true → Hid (okP (l.take (k + 1)) = true) := fun h => by rw [okP_take hlt, HU.out, h]; exact Lib.hid rfl
      have HNX := Lib.hid (nodB_next hlt)
      have HOT := Lib.hid (ordP_take hlt)
      have HSO : Hid (SmP (ordP (l.take k))) := Lib.hid (HS.out.sub (by rw [ordP_len]; simp; omega) fun p hp => by
        obtain ⟨q, hq, rfl⟩ := List.mem_map.1 ((ordP_perm _).mem_iff.1 hp)
        exact ⟨q, List.mem_of_mem_take hq, rfl⟩)
      obtain ⟨x, hx⟩ : ∃ x, l[k] = x := ⟨_, rfl⟩
      rw [hx] at c1 c2 la1 m1 outn outk HNX HOT
      obtain ⟨O, hO⟩ : ∃ O, ordP (l.take k) = O := ⟨_, rfl⟩
      rw [hO] at HG HNX HOT HSO
      obtain ⟨x1, x2⟩ := x
      simp only at c1 c2 la1 m1 outn outk HNX
      have ON := Lib.hid outn; have OK := Lib.hid outk
      have m2 : x1.length ≤ 1000 := m1.1
      have HLA := Lib.hid la1; have HM := Lib.hid m1
      have HC := Lib.hid (And.intro c1 c2)
      have hol : O.length ≤ 1000 := HSO.out.1
      obtain ⟨A0, c0, hv, hat, hnc, hcm, -⟩ := HG.out.row.form (fun _ => rfl)
      have hlo := HG.out.rds.len
      rw [hlo] at hv hnc
      subst hv
      have HCR := Lib.hid (rRight_any s1 x1 n1 wr (la1.gr hg) m1.2 (by omega))
      have d1 := hg.cell c1
      have d2 := hg.cell c2
      have f4 : (k : Int) < (l.length : Int) := by omega
      have f5 : (0 : Int) ≤ (k : Int) := by omega
      have HLO := Lib.hid hlo
      clear hx hO outn outk la1 m1 c1 c2 hat hlo hbl
      obtain ⟨v, hv⟩ : ∃ v, rightB x1 = v := ⟨_, rfl⟩
      rw [hv] at HCR
      cases v
      · have HN := ON.out hv
        clear hv
        go_wp2_with fail
        refine HCR.out.mono ?_
        rintro e w2 ⟨rfl, g2⟩
        go_wp2
        go_ret2
        exact ⟨none, 0, by rw [HN.out.1, HN.out.2]; rfl, by rw [HN.out.2]; exact PtsAt.nil _ _, by rw [HN.out.2]; simp, by unfold maxLen; omega, hg.trans g2⟩
      · have HK := OK.out hv
        clear hv
        go_upto_block 2 with (go_at_call 41; refine HCR.out.mono ?_; rintro e w2 ⟨rfl, g2⟩)
        have HG2 := Lib.hid (HG.out.gr g2)
        have e1 := g2.cell d1
        have e2 := g2.cell d2
        clear HG HCR d1 d2 g2 hg
        go_cut [7] from 9 to 83 (fun s7 wx => s7 = .int .i64 (plP O x1) ∧ Hid (Gr w2 wx))
        case first =>
          go_wp2_with fail
          go_loopw [7] (fun i wi => ∃ j : Nat, j ≤ O.length ∧ i = .int .i64 j ∧ Hid (∀ a, a < j → ∀ q, O[a]? = some q → ltLs q.1 x1) ∧ Gr w2 wi) (fun i _ => O.length - (intOf i).toNat)
          case atStart => exact ⟨0, Nat.zero_le _, rfl, fun a ha => absurd ha (by omega), Gr.refl _⟩
          case round =>
            obtain ⟨j, hj, rfl, HP, hgi⟩ := hrel
            have f1 : (0 : Int) ≤ (j : Int) := by omega
            by_cases hjl : j < O.length
            · obtain ⟨g, og, sa, na, rfl, a1, -, hla, -⟩ := (HG2.out.gr hgi).pts.2.cell hjl
              have gq0' := List.getElem?_eq_getElem hjl
              have hm := HSO.out.at_ hjl
              obtain ⟨q, hq⟩ : ∃ q, O[j] = q := ⟨_, rfl⟩
              rw [hq] at a1 hla gq0' hm
              have HGI := Lib.hid ((HG2.out.gr hgi).g)
              have CC := Lib.hid (gq (W := wr) fun W' g => rCompare_any sa s1 q.1 x1 na n1 W' (hla.gr g) (HLA.out.gr (HGI.out.trans g)) (by have := hm.1; omega) (by omega))
              have k1 := cell_regrown a1
              have k2 := cell_regrown (hgi.cell e1)
              have outy : ltLs q.1 x1 → Hid (∀ a, a < j + 1 → ∀ q, O[a]? = some q → ltLs q.1 x1) := fun h a ha r hr => by
                by_cases e : a = j
                · subst e; rw [gq0'] at hr; cases hr; exact h
                · exact HP.out a (by omega) r hr
              have outn2 : ¬ ltLs q.1 x1 → Hid (plP O x1 = j) := fun h => Lib.hid (plP_at HP.out (fun r hr => by rw [gq0'] at hr; cases hr; exact h) hj)
              have OY := Lib.hid outy; have ON2 := Lib.hid outn2
              obtain ⟨y, hy⟩ : ∃ y, cmpLs q.1 x1 = y := ⟨_, rfl⟩
              rw [hy] at CC
              have HY := Lib.hid hy
              have f2 : (j : Int) < (O.length : Int) := by omega
              have hd : decide (j < O.length) = true := by simpa using hjl
              clear hq a1 hla gq0' hm outy outn2 hy
              by_cases hy0 : y < 0
              · have HN := OY.out (by unfold ltLs; rw [HY.out]; exact hy0)
                go_wp2_with fail
                refine wp_region_quiet_below (by kernel_rfl) (by kernel_rfl) ?_
                repeat (quiet_step ((go_at_call 42; exact CC.out _ _)))
                refine wpQuiet_nil ?_
                intro _ hw'
                obtain ⟨⟨dq, osq⟩, hw''⟩ := hw'
                subst hw''
                have hg5 := hgi.trans ⟨below_regrown wr dq osq⟩
                clear k1 k2 CC
                generalize Go.Sort.grow (redrawn wr dq) osq = w5 at *
                go_wp2
                go_roundw
                case rel => exact ⟨j + 1, by omega, by go_num, HN, hg5⟩
                case measure => simp [intOf]; omega
              · have HN := ON2.out (by unfold ltLs; rw [HY.out]; exact hy0)
                go_wp2_with fail
                refine wp_region_quiet_below (by kernel_rfl) (by kernel_rfl) ?_
                repeat (quiet_step ((go_at_call 42; exact CC.out _ _)))
                refine wpQuiet_nil ?_
                intro _ hw'
                obtain ⟨⟨dq, osq⟩, hw''⟩ := hw'
                subst hw''
                have hg5 := hgi.trans ⟨below_regrown wr dq osq⟩
                clear k1 k2 CC
                generalize Go.Sort.grow (redrawn wr dq) osq = w5 at *
                go_wp2
                go_meet
                exact ⟨by rw [HN.out], Lib.hid hg5⟩
            · obtain rfl : j = O.length := by omega
              have HN : Hid (plP O x1 = O.length) := Lib.hid (plP_at HP.out (fun r hr => by rw [List.getElem?_eq_none (Nat.le_refl _)] at hr; cases hr) (Nat.le_refl _))
              have hd : decide (O.length < O.length) = false := by simp
              go_wp2_with fail
              go_quiet (fail)
              go_wp2
              go_meet
              exact ⟨by rw [HN.out], Lib.hid (hgi.drewN _)⟩
        case rest =>
        obtain ⟨rfl, HGC⟩ := hcut
        obtain ⟨w3, rfl⟩ : ∃ wa : World, wa = wc := ⟨_, rfl⟩
        have HG3 := Lib.hid (HG2.out.gr HGC.out)
        have e3 := HGC.out.cell e1
        have e4 := HGC.out.cell e2
        have HIN := Lib.hid (insP_pl O (canP (x1, x2)))
        have hpl := plP_le O x1
        obtain ⟨B, hB⟩ : ∃ B, dupB O x1 = B := ⟨_, rfl⟩
        rw [hB] at HNX
        have HB := Lib.hid hB
        obtain ⟨j, hj⟩ : ∃ j, plP O x1 = j := ⟨_, rfl⟩
        have HJ := Lib.hid hj
        rw [hj] at hpl ⊢
        have HIN2 : Hid (insP O (canP (x1, x2)) = O.take j ++ canP (x1, x2) :: O.drop j) := Lib.hid (by have := HIN.out; rw [show (canP (x1, x2)).1 = x1 from rfl, hj] at this; exact this)
        clear hj hB HIN HGC HG2 e1 e2
        go_upto_region 11 with fail
        go_cut [59] from 9 to 83 (fun s59 wx => s59 = .bool B ∧ Hid (Gr w3 wx))
        case first =>
          have f1 : (0 : Int) ≤ (j : Int) := by omega
          by_cases hjl : j < O.length
          · obtain ⟨g, og, sa, na, rfl, a1, -, hla, -⟩ := HG3.out.pts.2.cell hjl
            have gq0' := List.getElem?_eq_getElem hjl
            have hm := HSO.out.at_ hjl
            obtain ⟨q, hq⟩ : ∃ q, O[j] = q := ⟨_, rfl⟩
            rw [hq] at a1 hla gq0' hm
            have CC := Lib.hid (gq (W := w3) fun W' g => rCompare_any sa s1 q.1 x1 na n1 W' (hla.gr g) (HLA.out.gr (HG3.out.g.trans g)) (by have := hm.1; omega) (by omega))
            have k1 := cell_regrown a1
            have k2 := cell_regrown e3
            obtain ⟨y, hy⟩ : ∃ y, cmpLs q.1 x1 = y := ⟨_, rfl⟩
            rw [hy] at CC
            have HY : Hid (B = (y == 0)) := Lib.hid (by rw [← HB.out]; unfold dupB; rw [HJ.out, gq0', ← hy])
            have f2 : (j : Int) < (O.length : Int) := by omega
            have hd : decide (j < O.length) = true := by simpa using hjl
            clear hq a1 hla gq0' hm hy
            go_wp2_with fail
            refine wp_region_quiet_below (by kernel_rfl) (by kernel_rfl) ?_
            repeat (quiet_step ((go_at_call 42; exact CC.out _ _)))
            refine wpQuiet_nil ?_
            intro _ hw'
            obtain ⟨⟨dq, osq⟩, hw''⟩ := hw'
            subst hw''
            have hg5 : Gr w3 (Go.Sort.grow (redrawn w3 dq) osq) := ⟨below_regrown w3 dq osq⟩
            clear k1 k2 CC
            generalize Go.Sort.grow (redrawn w3 dq) osq = w5 at *
            go_wp2
            go_meet
            exact ⟨by rw [HY.out], Lib.hid hg5⟩
          · obtain rfl : j = O.length := by omega
            have HN : Hid (B = false) := Lib.hid (by rw [← HB.out]; unfold dupB; rw [HJ.out, List.getElem?_eq_none (Nat.le_refl _)])
            have hd : decide (O.length < O.length) = false := by simp
            go_wp2_with fail
            go_quiet (fail)
            go_wp2
            go_meet
            exact ⟨by rw [HN.out], Lib.hid ((Gr.refl _).drewN _)⟩
        case rest =>
        obtain ⟨rfl, HGC⟩ := hcut
        obtain ⟨w4, rfl⟩ : ∃ wa : World, wa = wc := ⟨_, rfl⟩
        have HG4 := Lib.hid (HG3.out.gr HGC.out)
        have e5 := HGC.out.cell e3
        have e6 := HGC.out.cell e4
        clear HGC HG3 e3 e4
        go_upto_if 59 with fail
        go_cut [5] from 9 to 83 (fun s5 wx => s5 = .bool (!nodB (l.take (k + 1))) ∧ wx = w4)
        case first =>
          obtain ⟨D, hD⟩ : ∃ D, nodB (l.take k) = D := ⟨_, rfl⟩
          rw [hD] at HNX ⊢
          clear hD
          cases B
          · have HN := Lib.hid HNX.out
            go_wp2
            go_meet
            exact ⟨by rw [← HN.out, Bool.or_false], rfl⟩
          · have HN := Lib.hid HNX.out
            go_wp2
            go_meet
            exact ⟨by rw [← HN.out, Bool.or_true], rfl⟩
        case rest =>
        obtain ⟨rfl, rfl⟩ := hcut
        have HAT := Lib.hid HG4.out.pts.1
        have hs4 := HG4.out.g.size
        have f1 : (0 : Int) ≤ (j : Int) := by omega
        have f2 : (j : Int) ≤ (c0 : Int) := by omega
        have f3 : (j : Int) ≤ (O.length : Int) := by omega
        have hcsl : cs.length ≤ 1000 := by have := HLO.out; omega
        have hjc : j ≤ cs.length := by have := HLO.out; omega
        go_upto_region 13 with fail
        go_region_held3 (fun w' => w'.cell? ⟨b, o + k * 2, none⟩ = some (.slice s1 x1.length n1) ∧ w'.cell? ⟨b, o + k * 2 + 1, none⟩ = some (.float .f64 x2))
          (first | exact ks8 | exact ks7 | exact ⟨e5, e6⟩ | go_keep)
          (first
            | (have tok := ho7
               clear tok
               refine step_app2 rfl (.tmp 64) (.tmp 77) (by rfl) (by rfl) (by rfl) (by rfl) (run_appR1 (B := w.heap.size) (l := cs.take j) ((⟨s1, x1.length, n1⟩, Fv.canon x2) : Pc) ?_ ?_ ?_ ?_ ?_) ?_
               · exact Own2.gr ho7 ((Gr.refl _).alloc _ _)
               · show _ = some (Value.slice s1 x1.length n1)
                 go_simp
               · show _ = some (Value.float .f64 (Fv.canon x2))
                 go_simp
               · simp; omega
               · exact Nat.le_trans hs4 (g7.alloc _ _).size
               rintro v8 w8 ⟨ho8, hg8, hv8⟩
               have g8 : Gr wc w8 := (g7.alloc _ _).grown hg8 (fun q hq => by
                 have hq' : v7.ownBlock = some q := hq
                 rcases hv7 with e | e
                 · have h : v7.ownBlock = some wc.heap.size := e
                   rw [h] at hq'
                   injection hq' with hq'
                   omega
                 · rw [e] at hq'
                   injection hq' with hq'
                   have : ((wc.alloc (.cells #[] 45)).drew).heap.size = wc.heap.size + 1 := by simp
                   omega)
               have ks8 : w8.cell? ⟨b, o + k * 2, none⟩ = some (.slice s1 x1.length n1) ∧ w8.cell? ⟨b, o + k * 2 + 1, none⟩ = some (.float .f64 x2) := ⟨g8.cell e5, g8.cell e6⟩)
            | (refine step_app2 rfl (.tmp 60) (.tmp 63) (by rfl) (by rfl) (by rfl) (by rfl) (run_appRt (B := w.heap.size) (cs := cs) (j := j) ?_ ?_ hjc ?_ ?_) ?_
               · exact Own2.gr (own_emp wc _ hs4) (Gr.refl _).drew
               · exact HAT.out.gr (((Gr.refl wc).alloc _ _).drew)
               · omega
               · exact Nat.le_trans hs4 (((Gr.refl wc).alloc _ _).drew).size
               rintro v7 w7 ⟨ho7, hg7, hv7⟩
               have g7 : Gr wc w7 := (((Gr.refl wc).alloc _ _).drew).grown hg7 (fun q hq => by
                 have h : some wc.heap.size = some q := hq
                 injection h with h
                 omega)
               have ks7 : w7.cell? ⟨b, o + k * 2, none⟩ = some (.slice s1 x1.length n1) ∧ w7.cell? ⟨b, o + k * 2 + 1, none⟩ = some (.float .f64 x2) := ⟨g7.cell e5, g7.cell e6⟩)
            | (go_simp
               go_at_call 58
               refine (Fv.rcanon_any _ _).mono ?_
               rintro e w5 ⟨rfl, rfl⟩))
        all_goals
          have HO8 := Lib.hid ho8
          have HG8 := Lib.hid (HG4.out.gr g8)
          have HAT8 := Lib.hid (HAT.out.gr g8)
          clear ho8 hg8 hv8 ks8 g8 ho7 hg7 hv7 ks7 g7
          go_wp2_with (at_builtin; refine wpList_app2 rfl (.tmp 79) (.tmp 82) (by rfl) (by rfl) (by rfl) (by rfl) (run_appRd (B := w.heap.size) (n := O.length) HO8.out HAT8.out HLO.out.symm hpl hnc (by omega) (by simp; omega) HG8.out.g.size) ?_; rintro v9 w9 ⟨ho9, hg9, hv9⟩)
          all_goals
            have HN : Hid (RNS w w9 v9 (cs.take j ++ [((⟨s1, x1.length, n1⟩, Fv.canon x2) : Pc)] ++ cs.drop j) (ordP (l.take (k + 1)))) := Lib.hid ⟨HG8.out.g.grown hg9 (fun q hq => (HO8.out.lt hq).1), ho9, by rw [HOT.out, HIN2.out]; exact HG4.out.rds.ins j ⟨rfl, rfl, HLA.out⟩⟩
            clear ho9 hg9 hv9
            go_wp2_with fail
            go_roundg (l.length - (k + 1))
            case measure => omega
            case rel => exact ⟨k + 1, _, by omega, by go_num, rfl, HN, HK⟩
    · obtain rfl : k = l.length := by omega
      have HOK : Hid (okP l = true) := Lib.hid (by have := HU.out; rwa [List.take_length] at this)
      rw [List.take_length] at HG ⊢
      obtain ⟨A0, c0, hv, hat, hnc, hcm, -⟩ := HG.out.row.form (fun _ => rfl)
      have hlo := HG.out.rds.len
      rw [hlo] at hv hnc
      subst hv
      obtain ⟨D, hD⟩ : ∃ D, nodB l = D := ⟨_, rfl⟩
      rw [hD]
      cases D
      · have HN := Lib.hid (norE_4 HOK.out hD)
        clear hD hat
        go_wp2
        go_ret2
        exact ⟨none, 0, by rw [HN.out.1, HN.out.2]; rfl, by rw [HN.out.2]; exact PtsAt.nil _ _, by rw [HN.out.2]; simp, by unfold maxLen; omega, HG.out.g⟩
      · have HN := Lib.hid (norE_0 HOK.out hD)
        clear hD hat
        go_wp2
        go_ret2
        exact ⟨A0, c0, by rw [HN.out.1, HN.out.2]; rfl, by rw [HN.out.2]; exact HG.out.pts.2, by rw [HN.out.2]; exact hnc, hcm, HG.out.g⟩
end Go.Proofs.YtllhkegefinlbaaGreatDoor.Pt
