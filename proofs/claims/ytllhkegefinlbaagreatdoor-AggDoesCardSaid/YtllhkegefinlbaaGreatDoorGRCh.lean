/- chosen, the reference's. -/
import Derived.Test.YtllhkegefinlbaaGreatDoorGRef
namespace Go.Proofs.YtllhkegefinlbaaGreatDoor.Pt
open Go.RowKit Go.Sort
set_option maxRecDepth 100000
set_option maxHeartbeats 8000000
attribute [local irreducible] wpQuiet

/-- a row whose labels are those of an earlier world -/
def LPostG (w0 : World) (l : List Pt) (w : World) (e : Ending) (w' : World) : Prop := ∃ A c, ∃ cs : List Pc, e = .returned (.slice A l.length c) ∧ At2 encT w' A cs ∧ Rds w0 cs l ∧ l.length ≤ c ∧ c ≤ maxLen ∧ Gr w w'
/-- the row on the way -/
structure RNT (w0 w W : World) (v : Value) (cs : List Pc) (l : List Pt) : Prop where
  g : Gr w W
  g0 : Gr w0 w
  row : OwnT W w.heap.size v cs
  rds : Rds w0 cs l
theorem RNT.gr {w0 w W W' : World} {v : Value} {cs : List Pc} {l : List Pt} (h : RNT w0 w W v cs l) (g : Gr W W') : RNT w0 w W' v cs l := ⟨h.g.trans g, h.g0, h.row.gr g, h.rds⟩
theorem RNT.pts {w0 w W : World} {A : Option Addr} {n c : Nat} {cs : List Pc} {l : List Pt} (h : RNT w0 w W (.slice A n c) cs l) : At2 encT W A cs ∧ PtsAt W A l := by
  obtain ⟨A', c', e, h1, -⟩ := h.row.form (fun _ => rfl)
  injection e with e1 e2 e3
  subst e1
  exact ⟨h1, cs, h1, h.rds.gr (h.g0.trans h.g)⟩
theorem rds_cell {w0 W : World} {A : Option Addr} {cs : List Pc} {l : List Pt} (h1 : At2 encT W A cs) (h2 : Rds w0 cs l) {k : Nat} (hk : k < l.length) :
    ∃ b o sa sc, A = some ⟨b, o, none⟩ ∧ W.cell? ⟨b, o + k * 2, none⟩ = some (.slice sa (l[k]).1.length sc) ∧ W.cell? ⟨b, o + k * 2 + 1, none⟩ = some (.float .f64 (l[k]).2) ∧ LabsAt w0 sa (l[k]).1 ∧ b < W.heap.size := by
  have hk' : k < cs.length := by rw [h2.len]; exact hk
  obtain ⟨b, o, e, c1, c2, hb⟩ := h1.at_ hk' rfl
  obtain ⟨r1, r2, r3⟩ := h2.rd k _ _ (List.getElem?_eq_getElem hk') (List.getElem?_eq_getElem hk)
  refine ⟨b, o, (cs[k]).1.a, (cs[k]).1.c, e, ?_, ?_, r3, hb⟩
  · rw [c1, ← r2]; rfl
  · rw [c2, r1]
theorem rchosenG_any (op : Int) (k : Nat) (A : Option Addr) (ps : List Pt) (ci : List Pc) (c : Nat) (w0 w : World) (g0 : Gr w0 w) (h : At2 encT w A ci) (hr : Rds w0 ci ps) (hlen : ps.length ≤ 1000) (hb : ∀ p ∈ ps, p.2 < 2 ^ 64) :
    Calls Tryz.prog 25 #[.int .i64 op, .float .f64 k, .slice A ps.length c] w (LPostG w0 (chsP op k ps) w) := by
  have HL := Lib.hid h
  have HRI := Lib.hid hr
  have HG0 := Lib.hid g0
  have HBD := Lib.hid hb
  obtain ⟨κ, hκ⟩ : ∃ κ, kP (op == 6) = κ := ⟨_, rfl⟩
  have HC : Hid (chsP op k ps = (srtK κ ps).take (cutN k ps.length)) := Lib.hid (by unfold chsP; rw [hκ])
  have HAH : Hid (∀ (a b : Pt) W, a.2 < 2 ^ 64 → b.2 < 2 ^ 64 → Calls Tryz.prog 55 #[.int .i64 op, .float .f64 a.2, .float .f64 b.2] W fun e w' => e = .returned (.bool (decide (κ a < κ b))) ∧ W = w') := Lib.hid (fun a b W h1 h2 => by rw [← hκ]; exact rahead_any op a.2 b.2 W h1 h2)
  clear h hr g0 hb hκ
  go_enter Tryz.func25, Tryz.ntmps25
  go_wp2
  go_loopg [7, 8] ps.length (fun gn v i wr => ∃ (j : Nat) (cs : List Pc), j + gn = ps.length ∧ i = .int .i64 j ∧ Hid (RNT w0 w wr v cs (srtK κ (ps.take j))))
  case atStart => exact ⟨0, [], by omega, rfl, Lib.hid ⟨Gr.refl _, HG0.out, Own2.nil _ _, Rds.nil _⟩⟩
  case round =>
    obtain ⟨i, cs, hk, rfl, HG⟩ := hrel
    have hkl : i ≤ ps.length := by omega
    by_cases hlt : i < ps.length
    · have hg := HG.out.g
      obtain ⟨b, o, s1, n1, rfl, c1, c2, la1, hbl⟩ := rds_cell HL.out HRI.out hlt
      have HOT := Lib.hid (srtK_take κ hlt)
      have hx64 := HBD.out _ (List.getElem_mem hlt)
      have HOB : Hid (∀ q ∈ srtK κ (ps.take i), q.2 < 2 ^ 64) := Lib.hid (fun q hq => HBD.out q (List.mem_of_mem_take ((srtK_perm κ _).mem_iff.1 hq)))
      have hol : (srtK κ (ps.take i)).length ≤ 1000 := by rw [srtK_len]; simp; omega
      obtain ⟨x, hx⟩ : ∃ x, ps[i] = x := ⟨_, rfl⟩
      rw [hx] at c1 c2 la1 HOT hx64
      obtain ⟨O, hO⟩ : ∃ O, srtK κ (ps.take i) = O := ⟨_, rfl⟩
      rw [hO] at HG HOT HOB hol
      obtain ⟨A0, c0, hv, hat, hnc, hcm, -⟩ := HG.out.row.form (fun _ => rfl)
      have hlo := HG.out.rds.len
      rw [hlo] at hv hnc
      subst hv
      have HX64 := Lib.hid hx64
      have HRD : Hid (Rd w0 ((⟨s1, x.1.length, n1⟩, x.2) : Pc) x) := Lib.hid ⟨rfl, rfl, la1⟩
      have d1 := hg.cell c1
      have d2 := hg.cell c2
      have f4 : (i : Int) < (ps.length : Int) := by omega
      have f5 : (0 : Int) ≤ (i : Int) := by omega
      have HLO := Lib.hid hlo
      clear hx hO la1 c1 c2 hat hlo hbl hx64
      go_upto_block 2 with fail
      go_cut [9] from 12 to 54 (fun s9 wx => s9 = .int .i64 (plK κ O x) ∧ Hid (Gr wr wx))
      case first =>
        go_wp2_with fail
        go_loopw [9] (fun i' wi => ∃ j : Nat, j ≤ O.length ∧ i' = .int .i64 j ∧ Hid (∀ a, a < j → ∀ q, O[a]? = some q → κ q ≤ κ x) ∧ Gr wr wi) (fun i' _ => O.length - (intOf i').toNat)
        case atStart => exact ⟨0, Nat.zero_le _, rfl, fun a ha => absurd ha (by omega), Gr.refl _⟩
        case round =>
          obtain ⟨j, hj, rfl, HP, hgi⟩ := hrel
          have f1 : (0 : Int) ≤ (j : Int) := by omega
          by_cases hjl : j < O.length
          · obtain ⟨g, og, sa, na, rfl, -, a1, -, -⟩ := (HG.out.gr hgi).pts.2.cell hjl
            have gq0' := List.getElem?_eq_getElem hjl
            have hq64 := HOB.out _ (List.getElem_mem hjl)
            obtain ⟨q, hq⟩ : ∃ q, O[j] = q := ⟨_, rfl⟩
            rw [hq] at a1 gq0' hq64
            have CC := Lib.hid (gq0 (W := wr) fun W' => HAH.out x q W' HX64.out hq64)
            have k1 := cell_regrown a1
            have k2 := cell_regrown (hgi.cell d2)
            have outy : ¬ κ x < κ q → Hid (∀ a, a < j + 1 → ∀ q, O[a]? = some q → κ q ≤ κ x) := fun h a ha r hr => by
              by_cases e : a = j
              · subst e; rw [gq0'] at hr; cases hr; omega
              · exact HP.out a (by omega) r hr
            have outn2 : κ x < κ q → Hid (plK κ O x = j) := fun h => Lib.hid (plK_at κ HP.out (fun r hr => by rw [gq0'] at hr; cases hr; exact h) hj)
            have OY := Lib.hid outy; have ON2 := Lib.hid outn2
            obtain ⟨y, hy⟩ : ∃ y, decide (κ x < κ q) = y := ⟨_, rfl⟩
            rw [hy] at CC
            have HY := Lib.hid hy
            have f2 : (j : Int) < (O.length : Int) := by omega
            have hd : decide (j < O.length) = true := by simpa using hjl
            obtain ⟨xl, xv⟩ := x
            obtain ⟨ql, qv⟩ := q
            simp only at a1 k1 k2 CC d1 d2
            clear hq a1 gq0' outy outn2 hy hq64
            cases y
            · have HN := OY.out (of_decide_eq_false HY.out)
              go_wp2_with fail
              refine wp_region_quiet_below (by kernel_rfl) (by kernel_rfl) ?_
              repeat (quiet_step ((go_at_call 55; exact CC.out _ _)))
              refine wpQuiet_nil ?_
              intro _ hw'
              obtain ⟨⟨dq, osq⟩, hw''⟩ := hw'
              subst hw''
              have hg5 := hgi.trans ⟨below_regrown wr dq osq⟩
              clear k1 k2 CC
              generalize Go.Sort.grow (redrawn wr dq) osq = w5 at *
              go_wp2
              go_roundw
              case rel => exact ⟨j + 1, by omega, by go_num, HN, hg5⟩
              case measure => simp [intOf]; omega
            · have HN := ON2.out (of_decide_eq_true HY.out)
              go_wp2_with fail
              refine wp_region_quiet_below (by kernel_rfl) (by kernel_rfl) ?_
              repeat (quiet_step ((go_at_call 55; exact CC.out _ _)))
              refine wpQuiet_nil ?_
              intro _ hw'
              obtain ⟨⟨dq, osq⟩, hw''⟩ := hw'
              subst hw''
              have hg5 := hgi.trans ⟨below_regrown wr dq osq⟩
              clear k1 k2 CC
              generalize Go.Sort.grow (redrawn wr dq) osq = w5 at *
              go_wp2
              go_meet
              exact ⟨by rw [HN.out], Lib.hid hg5⟩
          · obtain rfl : j = O.length := by omega
            have HN : Hid (plK κ O x = O.length) := Lib.hid (plK_at κ HP.out (fun r hr => by rw [List.getElem?_eq_none (Nat.le_refl _)] at hr; cases hr) (Nat.le_refl _))
            have hd : decide (O.length < O.length) = false := by simp
            go_wp2_with fail
            go_quiet (fail)
            go_wp2
            go_meet
            exact ⟨by rw [HN.out], Lib.hid (hgi.drewN _)⟩
      case rest =>
      obtain ⟨rfl, HGC⟩ := hcut
      obtain ⟨w4, rfl⟩ : ∃ wa : World, wa = wc := ⟨_, rfl⟩
      have HG4 := Lib.hid (HG.out.gr HGC.out)
      have e5 := HGC.out.cell d1
      have e6 := HGC.out.cell d2
      have HIN := Lib.hid (insK_pl κ O x)
      have hpl := plK_le κ O x
      obtain ⟨j, hj⟩ : ∃ j, plK κ O x = j := ⟨_, rfl⟩
      rw [hj] at hpl HIN ⊢
      obtain ⟨x1, x2⟩ := x
      simp only at e5 e6
      clear hj HGC HG d1 d2
      have HAT := Lib.hid HG4.out.pts.1
      have hs4 := HG4.out.g.size
      have f1 : (0 : Int) ≤ (j : Int) := by omega
      have f2 : (j : Int) ≤ (c0 : Int) := by omega
      have f3 : (j : Int) ≤ (O.length : Int) := by omega
      have hcsl : cs.length ≤ 1000 := by have := HLO.out; omega
      have hjc : j ≤ cs.length := by have := HLO.out; omega
      have APP1 : Hid (∀ W eb, Gr w4 W → OwnT W w4.heap.size (.slice (some ⟨eb, 0, none⟩) 0 0) [] → ∃ v' W', (Builtin.append_ #[26, 26] 26 #[.slice (some ⟨eb, 0, none⟩) 0 0, .slice A0 j c0]).run Tryz.prog W = .ok v' W' ∧ OwnT W' w4.heap.size v' (cs.take j) ∧ Gr w4 W' ∧ ∀ q off u, q ≠ eb → W.cell? ⟨q, off, none⟩ = some u → W'.cell? ⟨q, off, none⟩ = some u) := Lib.hid (fun W eb gW ho => by
        obtain ⟨v', W', h1, h2, h3, -⟩ := run_appRt (c := c0) ho (HAT.out.gr gW) hjc (by omega) gW.size
        exact ⟨v', W', h1, h2, gW.grown h3 (fun q hq => (ho.lt hq).1), fun q off u hne h => h3.cell h (by simp [Value.ownBlock]; exact hne)⟩)
      have APP2 : Hid (∀ W g v, Gr w4 W → OwnT W w4.heap.size v (cs.take j) → W.cell? ⟨g, 0, none⟩ = some (.slice s1 x1.length n1) → W.cell? ⟨g, 1, none⟩ = some (.float .f64 x2) → ∃ v' W', (Builtin.append_ #[26, 26] 26 #[v, .slice (some ⟨g, 0, none⟩) 1 1]).run Tryz.prog W = .ok v' W' ∧ OwnT W' w4.heap.size v' (cs.take j ++ [((⟨s1, x1.length, n1⟩, x2) : Pc)]) ∧ Gr w4 W') := Lib.hid (fun W g v gW ho h1 h2 => by
        obtain ⟨v', W', h3, h4, h5, -⟩ := run_appR1 (l := cs.take j) ((⟨s1, x1.length, n1⟩, x2) : Pc) ho h1 h2 (by simp; omega) gW.size
        exact ⟨v', W', h3, h4, gW.grown h5 (fun q hq => (ho.lt hq).1)⟩)
      have OE1 : Hid (OwnT (w4.alloc (.cells #[] 45)) w4.heap.size (.slice (some ⟨w4.heap.size, 0, none⟩) 0 0) []) := Lib.hid (own_emp w4 _ (Nat.le_refl _))
      have OE2 : Hid (∀ o, OwnT ((w4.alloc o).alloc (.cells #[] 45)) w4.heap.size (.slice (some ⟨w4.heap.size + 1, 0, none⟩) 0 0) []) := Lib.hid (fun o => own_empb w4 _ (Nat.le_refl _) o)
      go_upto_region 8 with fail
      go_region_held3 (fun w' => w'.cell? ⟨b, o + i * 2, none⟩ = some (.slice s1 x1.length n1) ∧ w'.cell? ⟨b, o + i * 2 + 1, none⟩ = some (.float .f64 x2))
        (first | exact ks8 | exact ks7 | exact ⟨e5, e6⟩ | go_keep)
        (first
          | (have tok := ho7
             clear tok
             refine step_app2 rfl (.tmp 43) (.tmp 48) (by rfl) (by rfl) (by rfl) (by rfl) (APP2.out _ _ _ ?_ ?_ ?_ ?_) ?_
             · first | exact g7 | exact g7.alloc _ _ | exact g7.drew | exact (g7.alloc _ _).drew
             · first | exact ho7 | exact Own2.gr ho7 ((Gr.refl _).alloc _ _) | exact Own2.gr ho7 (Gr.refl _).drew | exact Own2.gr ho7 ((Gr.refl _).alloc _ _).drew
             · first | (exact hp7 _ _ _ (by simp) (by go_simp)) | (show _ = some (Value.slice s1 x1.length n1); go_simp)
             · first | (exact hp7 _ _ _ (by simp) (by go_simp)) | (show _ = some (Value.float .f64 x2); go_simp)
             rintro v8 w8 ⟨ho8, g8⟩
             have ks8 : w8.cell? ⟨b, o + i * 2, none⟩ = some (.slice s1 x1.length n1) ∧ w8.cell? ⟨b, o + i * 2 + 1, none⟩ = some (.float .f64 x2) := ⟨g8.cell e5, g8.cell e6⟩)
          | (refine step_app2 rfl (.tmp 39) (.tmp 42) (by rfl) (by rfl) (by rfl) (by rfl) (APP1.out _ _ ?_ ?_) ?_
             · repeat (first | exact Gr.refl _ | refine Gr.drew ?_ | refine Gr.alloc ?_ _ _)
             · first | exact OE1.out | exact OE2.out _ | exact Own2.gr OE1.out (Gr.refl _).drew | exact Own2.gr (OE2.out _) (Gr.refl _).drew | exact Own2.gr OE1.out ((Gr.refl _).alloc _ _) | exact Own2.gr OE1.out ((Gr.refl _).alloc _ _).drew
             rintro v7 w7 ⟨ho7, g7, hp7⟩
             have ks7 : w7.cell? ⟨b, o + i * 2, none⟩ = some (.slice s1 x1.length n1) ∧ w7.cell? ⟨b, o + i * 2 + 1, none⟩ = some (.float .f64 x2) := ⟨g7.cell e5, g7.cell e6⟩))
      all_goals
        have HO8 := Lib.hid (Own2.mono ho8 hs4)
        have HG8 := Lib.hid (HG4.out.gr g8)
        have HAT8 := Lib.hid (HAT.out.gr g8)
        clear ho8 ks8 g8 ho7 g7 ks7 hp7
        go_wp2_with (at_builtin; refine wpList_app2 rfl (.tmp 50) (.tmp 53) (by rfl) (by rfl) (by rfl) (by rfl) (run_appRd (B := w.heap.size) (n := O.length) HO8.out HAT8.out HLO.out.symm hpl hnc (by omega) (by simp; omega) HG8.out.g.size) ?_; rintro v9 w9 ⟨ho9, hg9, hv9⟩)
        all_goals
          have HN : Hid (RNT w0 w w9 v9 (cs.take j ++ [((⟨s1, x1.length, n1⟩, x2) : Pc)] ++ cs.drop j) (srtK κ (ps.take (i + 1)))) := Lib.hid ⟨HG8.out.g.grown hg9 (fun q hq => (HO8.out.lt hq).1), HG0.out, ho9, by rw [HOT.out, HIN.out]; exact HG4.out.rds.ins j HRD.out⟩
          clear ho9 hg9 hv9
          go_wp2_with fail
          go_roundg (ps.length - (i + 1))
          case measure => omega
          case rel => exact ⟨i + 1, _, by omega, by go_num, HN⟩
    · obtain rfl : i = ps.length := by omega
      rw [List.take_length] at HG
      obtain ⟨A0, c0, hv, hat, hnc, hcm, -⟩ := HG.out.row.form (fun _ => rfl)
      have hlo := HG.out.rds.len
      rw [hlo] at hv hnc
      subst hv
      have hpt := HG.out.pts.2
      have hsl := srtK_len κ ps
      rw [hsl] at hnc
      obtain ⟨n, hn⟩ : ∃ n, ps.length = n := ⟨_, rfl⟩
      rw [hn] at HC hnc hlen
      have HCL : Hid ((chsP op k ps).length = cutN k n) := Lib.hid (by rw [HC.out, List.length_take, srtK_len, hn]; have := cutN_le k n; omega)
      have HRS := Lib.hid HG.out.rds
      have HF : Hid (∀ W m, Gr w W → At2 encT W A0 cs → cutN k n = m → LPostG w0 (chsP op k ps) w (.returned (.slice A0 m c0)) W) := Lib.hid (fun W m g hp hm => by
        subst hm
        refine ⟨A0, c0, cs.take (cutN k n), by rw [HCL.out], hp.take _, by rw [HC.out]; exact HRS.out.take _, ?_, hcm, g⟩
        rw [HCL.out]
        have := cutN_le k n
        omega)
      have HG5 := Lib.hid HG.out.g
      have HPT := Lib.hid hat
      have HKA : Hid (∀ m, m ≤ n → (∀ j, j < m → leK (j + 1) k = true) → (m = n ∨ leK (m + 1) k = false) → cutN k n = m) := Lib.hid (fun m h1 h2 h3 => cutN_at h1 h2 h3 (by omega))
      rw [hsl, hn]
      clear hat hpt hlo hsl hn HG HC HCL
      go_wp2
      go_loopw [11] (fun i' wi => ∃ m : Nat, m ≤ n ∧ i' = .int .i64 m ∧ Hid (∀ j, j < m → leK (j + 1) k = true) ∧ Gr wr wi) (fun i' _ => n - (intOf i').toNat)
      case atStart => exact ⟨0, Nat.zero_le _, rfl, fun a ha => absurd ha (by omega), Gr.refl _⟩
      case round =>
        obtain ⟨m, hm, rfl, HP, hgi⟩ := hrel
        by_cases hml : m < n
        · have f2 : (m : Int) < (n : Int) := by omega
          have hd : decide (m < n) = true := by simpa using hml
          obtain ⟨y, hy⟩ : ∃ y, leK (m + 1) k = y := ⟨_, rfl⟩
          have hy2 : (FloatKind.f64.format.order (floatOfInt FloatKind.f64 ((m : Int) + 1)) k == some .lt || FloatKind.f64.format.order (floatOfInt FloatKind.f64 ((m : Int) + 1)) k == some .eq) = y := hy
          have HY := Lib.hid hy
          clear hy
          cases y
          · have HN := Lib.hid (HKA.out m hm HP.out (.inr HY.out))
            have m1 : (m : Int) ≤ (c0 : Int) := by omega
            go_wp2
            go_ret
            exact HF.out _ m (HG5.out.trans hgi) (HPT.out.gr hgi) HN.out
          · have HN : Hid (∀ j, j < m + 1 → leK (j + 1) k = true) := Lib.hid (fun j hj => by
              by_cases e : j = m
              · subst e; exact HY.out
              · exact HP.out j (by omega))
            go_wp2
            go_roundw
            case rel => exact ⟨m + 1, by omega, by go_num, HN, hgi⟩
            case measure => simp [intOf]; omega
        · obtain rfl : m = n := by omega
          have HN := Lib.hid (HKA.out m hm HP.out (.inl rfl))
          have hd : decide (m < m) = false := by simp
          go_wp2
          go_ret
          exact HF.out _ m (HG5.out.trans hgi) (HPT.out.gr hgi) HN.out
theorem rchosen_any (op : Int) (k : Nat) (A : Option Addr) (ps : List Pt) (c : Nat) (w : World) (h : PtsAt w A ps) (hlen : ps.length ≤ 1000) (hb : ∀ p ∈ ps, p.2 < 2 ^ 64) :
    Calls Tryz.prog 25 #[.int .i64 op, .float .f64 k, .slice A ps.length c] w (LPost (chsP op k ps) w) := by
  obtain ⟨ci, h1, h2⟩ := h
  exact (rchosenG_any op k A ps ci c w w (Gr.refl _) h1 h2 hlen hb).mono fun _ _ ⟨A', c', cs, h1, h2, h3, h4, h5, g⟩ => ⟨A', c', h1, ⟨cs, h2, h3.gr g⟩, h4, h5, g⟩
end Go.Proofs.YtllhkegefinlbaaGreatDoor.Pt
