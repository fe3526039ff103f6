/- The reference's put: its walk. -/
import Derived.Test.YtoooaipbkkiefaaGreatDoorRSt
import Derived.Deep.Cut
import Derived.Deep.CutBlock
import Derived.Deep.RegionHeld3
namespace Go.Proofs.YtoooaipbkkiefaaGreatDoor
open Go.RowKit
set_option maxRecDepth 100000
set_option maxHeartbeats 4000000

/-- the sample's box -/
def BoxP (W : World) (b : Nat) (p : Sm) : Prop := W.heap[b]? = some (.cells #[.int .i64 p.1, .float .f64 p.2] 60 (0, 0))
theorem BoxP.gr {W W' : World} {b : Nat} {p : Sm} (h : BoxP W b p) (g : Gr W W') : BoxP W' b p := (g.b.block b (Array.getElem?_eq_some_iff.1 h).1).trans h
theorem BoxP.cells {W : World} {b : Nat} {p : Sm} (h : BoxP W b p) : W.cell? ⟨b, 0, none⟩ = some (.int .i64 p.1) ∧ W.cell? ⟨b, 1, none⟩ = some (.float .f64 p.2) ∧ b < W.heap.size := ⟨cell_of_row W b 0 _ _ _ h, cell_of_row W b 1 _ _ _ h, (Array.getElem?_eq_some_iff.1 h).1⟩
theorem RSt.sCell {w W : World} {S : Nat} {v : Value} {cs : List Sc} {gs : List Se} (h : RSt w W S v cs gs) : W.cell? ⟨S, 0, none⟩ = some v ∧ W.frozen? ⟨S, 0, none⟩ = false := ⟨cell_of_row W S 0 _ _ _ h.s, frozen_of_row W S 0 _ _ h.s⟩
theorem plc_at {gs : List Se} {x : List Lb} {k : Nat} {s : Se} (hs : gs[k]? = some s) (hp : ∀ (j : Nat) u, j < k → gs[j]? = some u → ltB x u = true) (hx : ltB x s = false) : plc gs x = k := takeW_at hs hp hx
theorem plc_all {gs : List Se} {x : List Lb} (hp : ∀ (j : Nat) u, j < gs.length → gs[j]? = some u → ltB x u = true) : plc gs x = gs.length := takeW_all hp
theorem plc_le (gs : List Se) (x : List Lb) : plc gs x ≤ gs.length := by
  unfold plc
  have h := congrArg List.length (List.takeWhile_append_dropWhile (p := ltB x) (l := gs))
  rw [List.length_append] at h
  omega
/-- append onto a new row of no sample -/
theorem run_app0 {W : World} {N k c B : Nat} {A : Option Addr} {l : List Sm} (hN : W.heap[N]? = some (.cells #[] 60 (0, 0))) (hB : B ≤ N) (hs : At2 encP W A l) (hk : k ≤ l.length) (hl : l.length ≤ 1000) :
    ∃ v' W', (Builtin.append_ #[45, 45] 45 #[.slice (some ⟨N, 0, none⟩) 0 0, .slice A k c]).run Tryz.prog W = .ok v' W' ∧ (OwnP W' B v' (l.take k) ∧ W.grownBy W' (some N) ∧ ∀ b, v'.ownBlock = some b → b = N ∨ b = W.heap.size) := by
  have own0 : OwnP W B (.slice (some ⟨N, 0, none⟩) 0 0) [] := ⟨rfl, .inr ⟨N, 0, #[], rfl, hB, hN, Nat.le_refl _, Nat.zero_le _, by simp, by simp⟩⟩
  have e : (l.take k).length = k := by simp; omega
  have hlt : N < W.heap.size := (Array.getElem?_eq_some_iff.1 hN).1
  obtain ⟨v', W', h1, h2, h3, h4⟩ := run_appP (c := c) own0 (hs.take k) (by simp; omega) (by omega)
  rw [e] at h1
  refine ⟨v', W', h1, by simpa using h2, h3, fun b hb => ?_⟩
  rcases h4 with h4 | h4
  · rw [h4] at hb; simp [Value.ownBlock] at hb; exact .inl hb.symm
  · rw [h4] at hb; injection hb with hb; exact .inr hb.symm
/-- is the sample at that time there? -/
def hitB (l : List Sm) (k : Nat) (t : Int) : Bool := match l[k]? with
  | some q => q.1 == t
  | none => false
theorem putS_eq (l : List Sm) (p : Sm) (k : Nat) (hk : (l.takeWhile (fun q => decide (q.1 < p.1))).length = k) : putS l p = (l.take k ++ [p]) ++ l.drop (k + if hitB l k p.1 then 1 else 0) := by
  have h1 := take_takeW (fun q : Sm => decide (q.1 < p.1)) l
  have h2 := drop_dropW (fun q : Sm => decide (q.1 < p.1)) l
  rw [hk] at h1 h2
  unfold putS hitB
  rw [h1, h2, List.append_assoc, List.singleton_append]
  congr 2
  rw [← List.drop_drop]
  congr 1
  cases e : l.drop k with
  | nil =>
    have : l[k]? = none := List.getElem?_eq_none (by have := congrArg List.length e; simp at this; omega)
    simp [this]
  | cons q r =>
    have : l[k]? = some q := by
      have h3 : (l.drop k)[0]? = some q := by rw [e]; rfl
      rw [List.getElem?_drop] at h3
      simpa using h3
    simp [this]
/-- append of one sample -/
theorem run_app1 {W : World} {M B : Nat} {v : Value} {l : List Sm} {p : Sm} (h : OwnP W B v l) (h1 : W.cell? ⟨M, 0, none⟩ = some (.int .i64 p.1)) (h2 : W.cell? ⟨M, 1, none⟩ = some (.float .f64 p.2)) (hl : l.length ≤ 1000) (hB : B ≤ W.heap.size) :
    ∃ v' W', (Builtin.append_ #[45, 45] 45 #[v, .slice (some ⟨M, 0, none⟩) 1 1]).run Tryz.prog W = .ok v' W' ∧ (OwnP W' B v' (l ++ [p]) ∧ W.grownBy W' v.ownBlock) := by
  obtain ⟨v', W', r1, r2, r3, -⟩ := run_appP (c := 1) h (at2_cells (enc := encP) (x := p) rfl h1 h2) (by simp; omega) hB
  exact ⟨v', W', r1, r2, r3⟩
/-- bounds that hold in the laws -/
structure Bd (gs : List Se) (x : List Lb) : Prop where
  n : gs.length ≤ 1000
  l : ∀ s ∈ gs, s.1.length ≤ 1000 ∧ s.2.length ≤ 1000
  x : x.length ≤ 1000
/-- is it new? -/
def insB (gs : List Se) (x : List Lb) : Bool := match gs[plc gs x]? with
  | some s => !decide (s.1 = x)
  | none => true
theorem insG_t {gs : List Se} {x : List Lb} (h : insB gs x = true) : insG gs x = gs.take (plc gs x) ++ (x, []) :: gs.drop (plc gs x) := by
  unfold insB at h
  unfold insG
  cases e : gs[plc gs x]? with
  | none => rfl
  | some s =>
    rw [e] at h
    simp at h
    simp [h]
theorem insG_f {gs : List Se} {x : List Lb} (h : insB gs x = false) : insG gs x = gs := by
  unfold insB at h
  unfold insG
  cases e : gs[plc gs x]? with
  | none => rw [e] at h; cases h
  | some s =>
    rw [e] at h
    simp at h
    simp [h]
theorem insG_at (gs : List Se) (x : List Lb) : ∃ s, (insG gs x)[plc gs x]? = some s ∧ s.1 = x := by
  have hle := plc_le gs x
  have new : (gs.take (plc gs x) ++ ((x, []) : Se) :: gs.drop (plc gs x))[plc gs x]? = some (x, []) := by
    rw [List.getElem?_append_right (by simp; omega)]
    simp [Nat.min_eq_left hle]
  unfold insG
  cases e : gs[plc gs x]? with
  | none => exact ⟨_, new, rfl⟩
  | some s =>
    by_cases h : s.1 = x
    · simp only [h, if_true]; exact ⟨s, e, h⟩
    · simp only [h, if_false]; exact ⟨_, new, rfl⟩
theorem insG_mem {gs : List Se} {x : List Lb} {s : Se} (h : s ∈ insG gs x) : s ∈ gs ∨ s = (x, []) := by
  unfold insG at h
  have new : s ∈ gs.take (plc gs x) ++ ((x, []) : Se) :: gs.drop (plc gs x) → s ∈ gs ∨ s = (x, []) := fun h => by
    rcases List.mem_append.1 h with h | h
    · exact .inl (List.mem_of_mem_take h)
    · rcases List.mem_cons.1 h with h | h
      · exact .inr h
      · exact .inl (List.mem_of_mem_drop h)
  split at h
  · split at h
    · exact .inl h
    · exact new h
  · exact new h
set_option maxHeartbeats 8000000 in
theorem put_any (w W : World) (S : Nat) (v : Value) (cs : List Sc) (gs : List Se) (sl : Sl) (x : List Lb) (p : Sm) (h : RSt w W S v cs gs) (hx : LabV W sl x) (hb : Bd gs x) :
    Calls Tryz.prog 57 #[.pointer (some ⟨S, 0, none⟩), sl.v, .agg #[.int .i64 p.1, .float .f64 p.2]] W fun e w' => e = .returned (.tuple #[]) ∧ ∃ v' cs', RSt w w' S v' cs' (putG gs x p) := by
  obtain ⟨W1, hW1, g1, -⟩ := fresh W #[.int .i64 p.1, .float .f64 p.2] 60
  have hbx : BoxP W1 W.heap.size p := by rw [← hW1]; exact heap_alloc_new _ _
  obtain ⟨la, ln, lc⟩ := sl
  obtain ⟨rfl, hla⟩ := hx
  obtain ⟨bx, hbxe⟩ : ∃ b, W.heap.size = b := ⟨_, rfl⟩
  rw [hbxe] at hbx
  have HW1 := Lib.hid hW1; have HBX := Lib.hid hbx; have HR1 := Lib.hid (h.gr g1); have HLA := Lib.hid (hla.gr g1); have HBD := Lib.hid hb
  have hn := hb.n
  have HLN := Lib.hid h.len
  have hcn : cs.length ≤ 1000 := by have := h.len; omega
  obtain ⟨pt, pv⟩ := p
  simp only [Sl.v] at HLA ⊢
  clear h hla hb hW1 hbx g1
  go_enter Tryz.func57, Tryz.ntmps57
  go_upto_block 0 with fail
  rw [HW1.out]
  try rw [hbxe]
  clear hbxe HW1
  go_cut [6] from 11 (fun s6 wx => s6 = .int .i64 (plc gs x) ∧ Hid (RSt w wx S v cs gs) ∧ Hid (Gr W1 wx))
  case first =>
    go_wp2_with fail
    go_loopw [6] (fun i wr => ∃ k : Nat, k ≤ cs.length ∧ i = .int .i64 k ∧ Hid (∀ (j : Nat) u, j < k → gs[j]? = some u → ltB x u = true) ∧ Hid (Gr W1 wr)) (fun i _ => cs.length - (intOf i).toNat)
    case atStart => exact ⟨0, Nat.zero_le _, rfl, Lib.hid (fun j u hj => absurd hj (by omega)), Lib.hid (Gr.refl _)⟩
    case round =>
      obtain ⟨k, hk, rfl, HP, HG⟩ := hrel
      have HRr := Lib.hid (HR1.out.gr HG.out)
      have s1 := HRr.out.sCell.1
      by_cases hlt : k < cs.length
      · obtain ⟨c, hc⟩ : ∃ c, cs[k]? = some c := ⟨_, List.getElem?_eq_getElem hlt⟩
        obtain ⟨s, hs⟩ : ∃ s, gs[k]? = some s := ⟨_, List.getElem?_eq_getElem (by have := HLN.out; omega)⟩
        obtain ⟨g, cap, a2, c2, a1, c1, hv, -, -, -, -, -, -, -, hl1, d1, -, -⟩ := HRr.out.face hc hs
        have hsl := (HBD.out.l s (List.mem_of_getElem? hs)).1
        have hxl := HBD.out.x
        have CC := Lib.hid (rCompare_any a1 la s.1 x c1 lc wr hl1 (HLA.out.gr HG.out) (by omega) (by omega))
        rw [hv] at s1
        have m1 : (k : Int) < (cs.length : Int) := by omega
        have m2 : (0 : Int) ≤ (k : Int) := by omega
        have HS := Lib.hid hs
        obtain ⟨y, hy⟩ : ∃ y, cmpLs s.1 x = y := ⟨_, rfl⟩
        have HY : Hid (ltB x s = decide (y < 0)) := Lib.hid (by unfold ltB; rw [hy])
        rw [hy] at CC
        obtain ⟨sn, hsn⟩ : ∃ n, s.1.length = n := ⟨_, rfl⟩
        rw [hsn] at d1 CC
        clear hc hs hl1 hv hsl hxl hy hsn
        by_cases hy0 : y < 0
        · have HP2 : Hid (∀ (j : Nat) u, j < k + 1 → gs[j]? = some u → ltB x u = true) := Lib.hid (fun j u hj hu => by
            by_cases e : j = k
            · subst e
              rw [HS.out] at hu
              obtain rfl := Option.some.inj hu
              rw [HY.out]; exact decide_eq_true hy0
            · exact HP.out j u (by omega) hu)
          go_wp2_with (go_at_call 90; refine CC.out.mono ?_; rintro e w2 ⟨rfl, g2⟩)
          go_roundw
          case rel => exact ⟨k + 1, by omega, by go_num, HP2, Lib.hid (HG.out.trans g2)⟩
          case measure => simp [intOf]; omega
        · have HPL : Hid (plc gs x = k) := Lib.hid (plc_at HS.out HP.out (by rw [HY.out]; exact decide_eq_false hy0))
          go_wp2_with (go_at_call 90; refine CC.out.mono ?_; rintro e w2 ⟨rfl, g2⟩)
          go_meet
          exact ⟨by rw [HPL.out], Lib.hid (HRr.out.gr g2), Lib.hid (HG.out.trans g2)⟩
      · obtain rfl : k = cs.length := by omega
        have HPL : Hid (plc gs x = cs.length) := Lib.hid (by
          rw [plc_all fun j u hj hu => HP.out j u (by have := HLN.out; omega) hu]
          exact HLN.out.symm)
        obtain ⟨A0, c0, rfl, -⟩ := HRr.out.row.form (fun _ => rfl)
        have m1 : ¬ (cs.length : Int) < (cs.length : Int) := by omega
        have m3 : decide ((cs.length : Int) < (cs.length : Int)) = false := decide_eq_false m1
        go_wp2
        go_meet
        exact ⟨by rw [HPL.out], HRr, HG⟩
  case rest =>
  obtain ⟨rfl, HR, HG⟩ := hcut
  obtain ⟨wa, rfl⟩ : ∃ wa : World, wa = wc := ⟨_, rfl⟩
  have HLA2 := Lib.hid (HLA.out.gr HG.out)
  have HBX2 := Lib.hid (HBX.out.gr HG.out)
  have hple := plc_le gs x
  obtain ⟨B, hB⟩ : ∃ B, insB gs x = B := ⟨_, rfl⟩
  have HB := Lib.hid hB
  have HIB : Hid (insB gs x = match gs[plc gs x]? with
    | some s => !decide (s.1 = x)
    | none => true) := Lib.hid rfl
  obtain ⟨i, hi⟩ : ∃ i, plc gs x = i := ⟨_, rfl⟩
  rw [hi] at hple HIB ⊢
  have HI := Lib.hid hi
  clear hi hB HLA HBX HR1 HG
  go_upto_region 4 with fail
  go_cut [52] from 11 (fun s52 wx => s52 = .bool B ∧ Hid (Gr wa wx))
  case first =>
    have s1 := HR.out.sCell.1
    by_cases hlt : i < cs.length
    · obtain ⟨c, hc⟩ : ∃ c, cs[i]? = some c := ⟨_, List.getElem?_eq_getElem hlt⟩
      obtain ⟨s, hs⟩ : ∃ s, gs[i]? = some s := ⟨_, List.getElem?_eq_getElem (by have := HLN.out; omega)⟩
      obtain ⟨g, cap, a2, c2, a1, c1, hv, -, -, -, -, -, -, -, hl1, d1, -, -⟩ := HR.out.face hc hs
      have hsl := (HBD.out.l s (List.mem_of_getElem? hs)).1
      have hxl := HBD.out.x
      have CC := Lib.hid (rCompare_any a1 la s.1 x c1 lc wa hl1 HLA2.out (by omega) (by omega))
      rw [hv] at s1
      have m1 : (i : Int) < (cs.length : Int) := by omega
      have m2 : (0 : Int) ≤ (i : Int) := by omega
      have m3 : ((i : Int) == (cs.length : Int)) = false := by simp; omega
      obtain ⟨y, hy⟩ : ∃ y, cmpLs s.1 x = y := ⟨_, rfl⟩
      have HY : Hid (B = (y != 0)) := Lib.hid (by
        rw [← HB.out, HIB.out, hs, ← hy]
        have := cmpLs_0_iff s.1 x
        by_cases e : s.1 = x
        · rw [this.2 e]; simp [e]
        · have e2 : cmpLs s.1 x ≠ 0 := fun h => e (this.1 h)
          simp [e, e2])
      rw [hy] at CC
      obtain ⟨sn, hsn⟩ : ∃ n, s.1.length = n := ⟨_, rfl⟩
      rw [hsn] at d1 CC
      clear hc hs hl1 hv hsl hxl hy hsn
      go_wp2_with (go_at_call 90; refine CC.out.mono ?_; rintro e w2 ⟨rfl, g2⟩)
      go_meet
      exact ⟨by rw [HY.out], Lib.hid g2⟩
    · have hil : i = cs.length := by have := HLN.out; omega
      have HY : Hid (B = true) := Lib.hid (by
        rw [← HB.out, HIB.out, List.getElem?_eq_none (by have := HLN.out; omega)])
      subst hil
      obtain ⟨A0, c0, rfl, -⟩ := HR.out.row.form (fun _ => rfl)
      have m3 : ((cs.length : Int) == (cs.length : Int)) = true := by simp
      go_wp2
      go_meet
      exact ⟨by rw [HY.out], Lib.hid (Gr.refl _)⟩
  case rest =>
  obtain ⟨rfl, HG4⟩ := hcut
  obtain ⟨wb, rfl⟩ : ∃ wb : World, wb = wc := ⟨_, rfl⟩
  have HR4 := Lib.hid (HR.out.gr HG4.out)
  have HLA4 := Lib.hid (HLA2.out.gr HG4.out)
  have HBX4 := Lib.hid (HBX2.out.gr HG4.out)
  clear HR HLA2 HBX2 HG4 HIB
  go_upto_if 52 with fail
  go_cut [7] from 11 (fun _ wx => Hid (∃ v1 cs1, RSt w wx S v1 cs1 (insG gs x)) ∧ Hid (BoxP wx bx (pt, pv)))
  case first =>
    cases B
    · have HIG := Lib.hid (insG_f HB.out)
      go_wp2
      go_meet
      exact ⟨Lib.hid ⟨_, _, by rw [HIG.out]; exact HR4.out⟩, HBX4⟩
    · have HIG := Lib.hid (insG_t HB.out)
      obtain ⟨A0, c0, rfl, hat, hnc, hcm, -⟩ := HR4.out.row.form (fun _ => rfl)
      have HAT := Lib.hid hat
      have s1 := HR4.out.sCell.1
      have hic : i ≤ cs.length := by have := HLN.out; omega
      have f1 : (0 : Int) ≤ (i : Int) := by omega
      have f2 : (i : Int) ≤ (c0 : Int) := by omega
      have f3 : (i : Int) ≤ (cs.length : Int) := by omega
      have ga : Gr wb (wb.alloc (.cells #[] 87)) := (Gr.refl wb).alloc _ _
      have own0 : OwnC (wb.alloc (.cells #[] 87)) wb.heap.size (.slice (some ⟨wb.heap.size, 0, none⟩) 0 0) [] := World.ownsRow_made wb #[] 0 (Nat.le_refl _) (Nat.zero_le _) (by simp)
      have HA1 : Hid (∃ v' W', (Builtin.append_ #[88, 88] 88 #[.slice (some ⟨wb.heap.size, 0, none⟩) 0 0, .slice A0 i c0]).run Tryz.prog (wb.alloc (.cells #[] 87)) = .ok v' W' ∧ (OwnC W' wb.heap.size v' ([] ++ cs.take i) ∧ (wb.alloc (.cells #[] 87)).grownBy W' (Value.slice (some ⟨wb.heap.size, 0, none⟩) 0 0).ownBlock)) := Lib.hid (by
        have e : (cs.take i).length = i := by simp; omega
        obtain ⟨v', W', h1, h2, h3, -⟩ := run_appC (c := c0) own0 ((hat.gr ga).take i) (by simp; omega) ga.size
        rw [e] at h1
        exact ⟨v', W', h1, h2, h3⟩)
      have sa := (HR4.out.gr ga).sCell.1
      clear hat own0
      go_wp2_with (first
        | (at_builtin
           refine wpList_app2 rfl (.tmp 53) (.tmp 59) (by rfl) (by rfl) (by rfl) (by rfl) HA1.out ?_
           rintro v5 w5 ⟨ho5, hg5⟩
           have g5 : Gr wb w5 := ⟨ga.b.grown hg5 ga.size (fun k hk => by cases hk; exact Nat.le_refl _)⟩
           have gb5 : Gr w5 (w5.alloc (.cells #[.slice la x.length lc, .slice none 0 0] 87)) := (Gr.refl w5).alloc _ _
           have HA2 := Lib.hid (run_appC (c := 1) (Own2.gr ho5 gb5) (at2_one (enc := encS) w5 ((⟨la, x.length, lc⟩, ⟨none, 0, 0⟩) : Sc) _ _ rfl 87) (by simp; omega) (g5.trans gb5).size)
           have HG5 := Lib.hid (g5.trans gb5)
           have HB5 : Hid (∀ k, v5.ownBlock = some k → wb.heap.size ≤ k) := Lib.hid (fun k hk => (ho5.lt hk).1)
           clear ho5 hg5 g5 gb5 HA1)
        | (at_builtin
           refine wpList_app2 rfl (.tmp 60) (.tmp 63) (by rfl) (by rfl) (by rfl) (by rfl) HA2.out ?_
           rintro v6 w6 ⟨ho6, hg6, -⟩
           have g6 : Gr wb w6 := ⟨HG5.out.b.grown hg6 HG5.out.size (fun k hk => HB5.out k hk)⟩
           have s6 := (HR4.out.gr g6).sCell.1
           have HA3 : Hid (∃ v' W', (Builtin.append_ #[88, 88] 88 #[v6, .slice (if c0 = i then A0 else A0.map (·.add (i * 2))) (cs.length - i) (c0 - i)]).run Tryz.prog w6 = .ok v' W' ∧ (OwnC W' wb.heap.size v' (cs.take i ++ ((⟨la, x.length, lc⟩, ⟨none, 0, 0⟩) : Sc) :: cs.drop i) ∧ w6.grownBy W' v6.ownBlock)) := Lib.hid (by
             have e : (cs.drop i).length = cs.length - i := by simp
             obtain ⟨v', W', h1, h2, h3, -⟩ := run_appC (c := c0 - i) ho6 ((HAT.out.gr g6).drop i c0 hic hnc) (by simp; omega) g6.size
             rw [e] at h1
             exact ⟨v', W', h1, by simpa using h2, h3⟩)
           have HG6 := Lib.hid g6
           have HB6 : Hid (∀ k, v6.ownBlock = some k → wb.heap.size ≤ k) := Lib.hid (fun k hk => (ho6.lt hk).1)
           clear ho6 hg6 g6 HA2 HG5 HB5)
        | (at_builtin
           refine wpList_app2 rfl (.tmp 66) (.tmp 72) (by rfl) (by rfl) (by rfl) (by rfl) HA3.out ?_
           rintro v7 w7 ⟨ho7, hg7⟩
           obtain ⟨A7, c7, e7, -⟩ := ho7.form (fun _ => rfl)
           obtain ⟨n7, hn7⟩ : ∃ n, (cs.take i ++ ((⟨la, x.length, lc⟩, ⟨none, 0, 0⟩) : Sc) :: cs.drop i).length = n := ⟨_, rfl⟩
           rw [hn7] at e7
           subst e7
           clear hn7
           have g7 : Gr wb w7 := ⟨HG6.out.b.grown hg7 HG6.out.size (fun k hk => HB6.out k hk)⟩
           obtain ⟨s7, f7⟩ := (HR4.out.gr g7).sCell
           have HO : Hid (RSt w (w7.setCell ⟨S, 0, none⟩ (.slice A7 n7 c7)) S (.slice A7 n7 c7) (cs.take i ++ ((⟨la, x.length, lc⟩, ⟨none, 0, 0⟩) : Sc) :: cs.drop i) (gs.take i ++ (x, []) :: gs.drop i)) := Lib.hid (HR4.out.ins i hic (show LabV wb ⟨la, x.length, lc⟩ x from ⟨rfl, HLA4.out⟩) g7 ho7)
           have HBO : Hid (BoxP (w7.setCell ⟨S, 0, none⟩ (.slice A7 n7 c7)) bx (pt, pv)) := Lib.hid (by
             have h1 := HBX4.out.gr g7
             have hne : bx ≠ S := by
               rintro rfl
               have h2 := (HR4.out.gr g7).s
               unfold BoxP at h1
               rw [h1] at h2
               cases h2
             unfold BoxP
             rw [heap_setCell_other _ _ _ _ (by exact hne)]
             exact h1)
           clear ho7 hg7 g7 HA3))
      all_goals
        go_meet
        exact ⟨Lib.hid ⟨_, _, by rw [HIG.out, HI.out]; exact HO.out⟩, HBO⟩
  case rest =>
  obtain ⟨HRI, HBXI⟩ := hcut
  obtain ⟨wd, rfl⟩ : ∃ wd : World, wd = wc := ⟨_, rfl⟩
  clear HR4 HLA4 HBX4
  obtain ⟨v1, cs1, hr1⟩ := HRI.out
  obtain ⟨s, hs, hsx⟩ := insG_at gs x
  rw [HI.out] at hs
  obtain ⟨c, hc⟩ : ∃ c, cs1[i]? = some c := ⟨_, List.getElem?_eq_getElem (by rw [hr1.len]; exact (List.getElem?_eq_some_iff.1 hs).1)⟩
  obtain ⟨g, cap, a2, c2, a1, c1, rfl, -, -, hcv, h3, h4, hat2, -, -, -, d2, -⟩ := hr1.face hc hs
  have hsl : s.2.length ≤ 1000 := by
    rcases insG_mem (List.mem_of_getElem? hs) with h | h
    · exact (HBD.out.l s h).2
    · rw [h]; simp
  have HPG : Hid (putG gs x (pt, pv) = (insG gs x).set i (s.1, putS s.2 (pt, pv))) := Lib.hid (by
    unfold putG
    rw [HI.out, hs])
  have HR1 := Lib.hid hr1; have HC := Lib.hid hc; have HS := Lib.hid hs; have HAT2 := Lib.hid hat2; have HCV := Lib.hid hcv
  have hil : i < cs1.length := (List.getElem?_eq_some_iff.1 hc).1
  have s1 := hr1.sCell.1
  have m1 : (i : Int) < (cs1.length : Int) := by omega
  have m2 : (0 : Int) ≤ (i : Int) := by omega
  obtain ⟨m, hm⟩ : ∃ m, s.2.length = m := ⟨_, rfl⟩
  have HM := Lib.hid hm
  rw [hm] at d2 h3 hsl
  obtain ⟨N1, hN1⟩ : ∃ n, cs1.length = n := ⟨_, rfl⟩
  have HN1 := Lib.hid hN1
  rw [hN1] at s1 m1
  clear hr1 hc hs hsx hat2 hcv hm hN1 hil HRI
  go_upto_block 2 with fail
  clear d2
  have HKK : Hid ((s.2.takeWhile (fun q => decide (q.1 < pt))).length = (s.2.takeWhile (fun q => decide (q.1 < (pt, pv).1))).length) := Lib.hid rfl
  go_cut [9] from 11 (fun s9 wx => s9 = .int .i64 (s.2.takeWhile (fun q => decide (q.1 < pt))).length ∧ Hid (Gr wd wx))
  case first =>
    go_wp2_with fail
    go_loopw [9] (fun i9 wr => ∃ k : Nat, k ≤ m ∧ i9 = .int .i64 k ∧ Hid (∀ (j : Nat) q, j < k → s.2[j]? = some q → decide (q.1 < pt) = true) ∧ Hid (Gr wd wr)) (fun i9 _ => m - (intOf i9).toNat)
    case atStart => exact ⟨0, Nat.zero_le _, rfl, Lib.hid (fun j u hj => absurd hj (by omega)), Lib.hid (Gr.refl _)⟩
    case round =>
      obtain ⟨k, hk, rfl, HP, HG⟩ := hrel
      obtain ⟨e1, e2, -⟩ := (HBXI.out.gr HG.out).cells
      by_cases hlt : k < m
      · obtain ⟨q, hq⟩ : ∃ q, s.2[k]? = some q := ⟨_, List.getElem?_eq_getElem (by have := HM.out; omega)⟩
        obtain ⟨b, o, rfl, hcells⟩ := (HAT2.out.gr HG.out) (by have := HM.out; omega)
        obtain ⟨d1, -⟩ := hcells k q hq _ _ rfl
        have m3 : (k : Int) < (m : Int) := by omega
        have m4 : (0 : Int) ≤ (k : Int) := by omega
        have HQ := Lib.hid hq
        obtain ⟨qt, qv⟩ := q
        simp only at d1
        clear hq hcells e2
        by_cases ht : qt < pt
        · have HP2 : Hid (∀ (j : Nat) u, j < k + 1 → s.2[j]? = some u → decide (u.1 < pt) = true) := Lib.hid (fun j u hj hu => by
            by_cases e : j = k
            · subst e
              rw [HQ.out] at hu
              obtain rfl := Option.some.inj hu
              exact decide_eq_true ht
            · exact HP.out j u (by omega) hu)
          go_wp2_with fail
          go_quiet (fail)
          go_wp2
          go_roundw
          case rel => exact ⟨k + 1, by omega, by go_num, HP2, Lib.hid (HG.out.drewN _)⟩
          case measure => simp [intOf]; omega
        · have HPL : Hid ((s.2.takeWhile (fun q => decide (q.1 < pt))).length = k) := Lib.hid (takeW_at HQ.out HP.out (decide_eq_false ht))
          have ht2 : decide (qt < pt) = false := decide_eq_false ht
          go_wp2_with fail
          go_quiet (fail)
          go_wp2
          go_meet
          exact ⟨by rw [HPL.out], Lib.hid (HG.out.drewN _)⟩
      · obtain rfl : k = m := by omega
        have HPL : Hid ((s.2.takeWhile (fun q => decide (q.1 < pt))).length = k) := Lib.hid (by rw [takeW_all fun j u hj hu => HP.out j u (by have := HM.out; omega) hu]; exact HM.out)
        have m3 : ¬ (k : Int) < (k : Int) := by omega
        have m4 : decide ((k : Int) < (k : Int)) = false := decide_eq_false m3
        go_wp2_with fail
        go_quiet (fail)
        go_wp2
        go_meet
        exact ⟨by rw [HPL.out], Lib.hid (HG.out.drewN _)⟩
  case rest =>
  obtain ⟨rfl, HG9⟩ := hcut
  obtain ⟨we, rfl⟩ : ∃ we : World, we = wc := ⟨_, rfl⟩
  have HR9 := Lib.hid (HR1.out.gr HG9.out)
  have HBX9 := Lib.hid (HBXI.out.gr HG9.out)
  have HAT9 := Lib.hid (HAT2.out.gr HG9.out)
  have hkl : (s.2.takeWhile (fun q => decide (q.1 < pt))).length ≤ s.2.length := by
    have h := congrArg List.length (List.takeWhile_append_dropWhile (p := fun q : Sm => decide (q.1 < pt)) (l := s.2))
    rw [List.length_append] at h
    omega
  obtain ⟨kk, hkk⟩ : ∃ kk, (s.2.takeWhile (fun q => decide (q.1 < pt))).length = kk := ⟨_, rfl⟩
  rw [hkk] at hkl ⊢
  rw [HM.out] at hkl
  have HKK := Lib.hid hkk
  clear hkk HR1 HBXI HAT2 HG9
  have f1 : (0 : Int) ≤ (kk : Int) := by omega
  have f2 : (kk : Int) ≤ (c2 : Int) := by omega
  have f3 : (kk : Int) ≤ (m : Int) := by omega
  have hwe : w.heap.size ≤ we.heap.size := HR9.out.g.size
  go_upto_region 11 with fail
  go_cut [10] from 11 (fun s10 wx => ∃ sl : Sl, s10 = sl.v ∧ Hid (OwnP wx we.heap.size sl.v (s.2.take kk ++ [(pt, pv)])) ∧ Hid (Gr we wx))
  case first =>
    obtain ⟨e1, e2, hbxl⟩ := HBX9.out.cells
    have hh1 : (we.alloc (.cells #[] 60)).heap[we.heap.size]? = some (.cells #[] 60 (0, 0)) := heap_alloc_new we _
    have hh2 : ((we.alloc (.cells #[] 60)).alloc (.cells #[.int .i64 pt, .float .f64 pv] 60)).heap[we.heap.size]? = some (.cells #[] 60 (0, 0)) := by
      rw [heap_alloc_old _ _ (by simp)]; exact hh1
    have hh3 : ((we.alloc (.cells #[.int .i64 pt, .float .f64 pv] 60)).alloc (.cells #[] 60)).heap[we.heap.size + 1]? = some (.cells #[] 60 (0, 0)) := by
      have hh := heap_alloc_new (we.alloc (.cells #[.int .i64 pt, .float .f64 pv] 60)) (.cells #[] 60)
      rw [show (we.alloc (.cells #[.int .i64 pt, .float .f64 pv] 60)).heap.size = we.heap.size + 1 by simp] at hh
      exact hh
    go_region_held3 (fun w' => w'.cell? ⟨bx, 0, none⟩ = some (.int .i64 pt) ∧ w'.cell? ⟨bx, 1, none⟩ = some (.float .f64 pv))
      (first | exact ks6 | exact ks5 | go_keep)
      (first
        | (refine step_app2 rfl (.tmp 104) (.tmp 106) (by rfl) (by rfl) (by rfl) (by rfl) (run_app1 (B := we.heap.size) (l := s.2.take kk) (p := (pt, pv)) ?_ ?_ ?_ ?_ ?_) ?_
           · first | exact ho5 | exact Own2.gr ho5 ((Gr.refl _).alloc _ _)
           · first
             | (go_simp; done)
             | exact hg5.cell (a := ⟨we.heap.size + 1, 0, none⟩) (by go_simp) (by simp)
             | exact hg5.cell (a := ⟨we.heap.size, 0, none⟩) (by go_simp) (by simp)
           · first
             | (go_simp; done)
             | exact hg5.cell (a := ⟨we.heap.size + 1, 1, none⟩) (by go_simp) (by simp)
             | exact hg5.cell (a := ⟨we.heap.size, 1, none⟩) (by go_simp) (by simp)
           · have := HM.out
             simp
             omega
           · first | exact g5.size | exact (g5.trans ((Gr.refl _).alloc _ _)).size
           rintro v6 w6 ⟨ho6, hg6⟩
           have g6 : Gr we w6 := by
             first
             | exact ⟨g5.b.grown hg6 g5.size (fun k hk => (ho5.lt hk).1)⟩
             | exact ⟨(g5.trans ((Gr.refl _).alloc _ _)).b.grown hg6 (g5.trans ((Gr.refl _).alloc _ _)).size (fun k hk => (ho5.lt hk).1)⟩
           have ks6 : w6.cell? ⟨bx, 0, none⟩ = some (.int .i64 pt) ∧ w6.cell? ⟨bx, 1, none⟩ = some (.float .f64 pv) := ⟨(HBX9.out.gr g6).cells.1, (HBX9.out.gr g6).cells.2.1⟩)
        | (refine step_app2 rfl (.tmp 100) (.tmp 103) (by rfl) (by rfl) (by rfl) (by rfl) (run_app0 (B := we.heap.size) (l := s.2) ?_ ?_ ?_ ?_ ?_) ?_
           · first | exact hh1 | exact hh2 | exact hh3
           · omega
           · first
             | exact HAT9.out.gr ((Gr.refl _).alloc _ _).drew
             | exact HAT9.out.gr (((Gr.refl _).alloc _ _).alloc _ _).drew
           · have := HM.out
             omega
           · have := HM.out
             omega
           rintro v5 w5 ⟨ho5, hg5, hz5⟩
           have g5 : Gr we w5 := by
             first
             | exact Gr.only ((Gr.refl we).alloc _ _).drew hg5 (by omega)
             | exact Gr.only (((Gr.refl we).alloc _ _).alloc _ _).drew hg5 (by omega)
           have ks5 : w5.cell? ⟨bx, 0, none⟩ = some (.int .i64 pt) ∧ w5.cell? ⟨bx, 1, none⟩ = some (.float .f64 pv) := ⟨(HBX9.out.gr g5).cells.1, (HBX9.out.gr g5).cells.2.1⟩))
    all_goals
      obtain ⟨A6, c6, e6, -⟩ := ho6.form (fun _ => rfl)
      have HG6 := Lib.hid g6
      have HO6 : Hid (OwnP w6 we.heap.size (Sl.v ⟨A6, (s.2.take kk ++ [(pt, pv)]).length, c6⟩) (s.2.take kk ++ [(pt, pv)])) := Lib.hid (by
        rw [show Sl.v ⟨A6, (s.2.take kk ++ [(pt, pv)]).length, c6⟩ = v6 from e6.symm]
        exact ho6)
      have HE6 := Lib.hid (show v6 = Sl.v ⟨A6, (s.2.take kk ++ [(pt, pv)]).length, c6⟩ from e6)
      clear e6 ho6 hg6 g6 ks5 ks6 ho5 hg5 hz5 g5
      go_wp2_with fail
      go_meet
      exact ⟨_, HE6.out, HO6, HG6⟩
  case rest =>
  obtain ⟨sl, rfl, HOS, HG10⟩ := hcut
  obtain ⟨wf, rfl⟩ : ∃ wf : World, wf = wc := ⟨_, rfl⟩
  have HR10 := Lib.hid (HR9.out.gr HG10.out)
  have HBX10 := Lib.hid (HBX9.out.gr HG10.out)
  have HAT10 := Lib.hid (HAT9.out.gr HG10.out)
  clear HBX9 HAT9
  obtain ⟨BQ, hBQ⟩ : ∃ BQ, hitB s.2 kk pt = BQ := ⟨_, rfl⟩
  have HBQ := Lib.hid hBQ
  clear hBQ
  go_upto_region 12 with fail
  go_cut [121] from 11 (fun s121 wx => s121 = .bool BQ ∧ Hid (Gr wf wx))
  case first =>
    obtain ⟨e1, e2, -⟩ := HBX10.out.cells
    by_cases hlt : kk < m
    · obtain ⟨q, hq⟩ : ∃ q, s.2[kk]? = some q := ⟨_, List.getElem?_eq_getElem (by have := HM.out; omega)⟩
      obtain ⟨b, o, rfl, hcells⟩ := HAT10.out (by have := HM.out; omega)
      obtain ⟨d1, -⟩ := hcells kk q hq _ _ rfl
      have m3 : (kk : Int) < (m : Int) := by omega
      have HY : Hid (BQ = (q.1 == pt)) := Lib.hid (by rw [← HBQ.out]; unfold hitB; rw [hq])
      obtain ⟨qt, qv⟩ := q
      simp only at d1 HY
      clear hq hcells e2
      obtain ⟨z, hz⟩ : ∃ z, (qt == pt) = z := ⟨_, rfl⟩
      rw [hz] at HY
      cases z
      · go_wp2_with fail
        go_quiet (fail)
        go_wp2
        go_meet
        exact ⟨by rw [HY.out], Lib.hid ((Gr.refl _).drewN _)⟩
      · go_wp2_with fail
        go_quiet (fail)
        go_wp2
        go_meet
        exact ⟨by rw [HY.out], Lib.hid ((Gr.refl _).drewN _)⟩
    · have m3 : ¬ (kk : Int) < (m : Int) := by omega
      have m4 : decide ((kk : Int) < (m : Int)) = false := decide_eq_false m3
      have HY : Hid (BQ = false) := Lib.hid (by rw [← HBQ.out]; unfold hitB; rw [List.getElem?_eq_none (by have := HM.out; omega)])
      go_wp2_with fail
      go_quiet (fail)
      go_wp2
      go_meet
      exact ⟨by rw [HY.out], Lib.hid ((Gr.refl _).drewN _)⟩
  case rest =>
  obtain ⟨rfl, HG12⟩ := hcut
  obtain ⟨wg, rfl⟩ : ∃ wg : World, wg = wc := ⟨_, rfl⟩
  have HR12 := Lib.hid (HR10.out.gr HG12.out)
  have HAT12 := Lib.hid (HAT10.out.gr HG12.out)
  have HOS12 := Lib.hid (Own2.gr HOS.out HG12.out)
  have HGE12 := Lib.hid (HG10.out.trans HG12.out)
  clear HR10 HBX10 HAT10 HOS HG10 HG12 s1
  have HJ : Hid ((kk + if BQ then 1 else 0) ≤ m) := Lib.hid (by
    cases BQ
    · simpa using hkl
    · have h := HBQ.out
      unfold hitB at h
      cases e : s.2[kk]? with
      | none => rw [e] at h; cases h
      | some q =>
        have := (List.getElem?_eq_some_iff.1 e).1
        have := HM.out
        simp; omega)
  go_upto_if 121 with fail
  go_cut [9] from 11 (fun s9 wx => s9 = .int .i64 ((kk + if BQ then 1 else 0 : Nat) : Int) ∧ Hid (Gr wg wx))
  case first =>
    cases BQ
    · go_wp2
      go_meet
      exact ⟨rfl, Lib.hid (Gr.refl _)⟩
    · go_wp2
      go_meet
      exact ⟨by go_num, Lib.hid (Gr.refl _)⟩
  case rest =>
  obtain ⟨rfl, HG13⟩ := hcut
  obtain ⟨wh, rfl⟩ : ∃ wh : World, wh = wc := ⟨_, rfl⟩
  have HR13 := Lib.hid (HR12.out.gr HG13.out)
  have HAT13 := Lib.hid (HAT12.out.gr HG13.out)
  have HOS13 := Lib.hid (Own2.gr HOS12.out HG13.out)
  have HGE := Lib.hid (HGE12.out.trans HG13.out)
  clear HR12 HAT12 HOS12 HGE12 HG13
  obtain ⟨j, hj⟩ : ∃ j, (kk + if BQ then 1 else 0) = j := ⟨_, rfl⟩
  have HPS : Hid (putS s.2 (pt, pv) = (s.2.take kk ++ [(pt, pv)]) ++ s.2.drop j) := Lib.hid (by rw [← hj, ← HBQ.out]; exact putS_eq s.2 (pt, pv) kk HKK.out)
  rw [hj] at HJ ⊢
  have hjm := HJ.out
  clear hj HJ HBQ HKK f1 f2 f3
  have f1 : (0 : Int) ≤ (j : Int) := by omega
  have f2 : (j : Int) ≤ (c2 : Int) := by omega
  have f3 : (j : Int) ≤ (m : Int) := by omega
  have s1 := HR13.out.sCell.1
  have HA14 : Hid (∃ v' W', (Builtin.append_ #[45, 45] 45 #[sl.v, .slice (if c2 = j then a2 else a2.map (·.add (j * 2))) (m - j) (c2 - j)]).run Tryz.prog wh.drew = .ok v' W' ∧ (OwnP W' we.heap.size v' ((s.2.take kk ++ [(pt, pv)]) ++ s.2.drop j) ∧ Gr we W')) := Lib.hid (by
    have e : (s.2.drop j).length = m - j := by simp; have := HM.out; omega
    have hod := Own2.gr HOS13.out (Gr.refl wh).drew
    obtain ⟨v', W', h1, h2, h3, -⟩ := run_appP (c := c2 - j) hod ((HAT13.out.gr (Gr.refl wh).drew).drop j c2 (by have := HM.out; omega) (by have := HM.out; omega)) (by have := HM.out; simp; omega) HGE.out.size
    rw [e] at h1
    exact ⟨v', W', h1, h2, ⟨HGE.out.drew.b.grown h3 HGE.out.drew.size (fun k hk => (hod.lt hk).1)⟩⟩)
  have HFIN : Hid (∀ w7 A7 n7 c7, Gr we w7 → OwnP w7 we.heap.size (.slice A7 n7 c7) ((s.2.take kk ++ [(pt, pv)]) ++ s.2.drop j) → w7.cell? ⟨S, 0, none⟩ = some (.slice (some ⟨g, 0, none⟩) N1 cap) ∧ w7.cell? ⟨g, i * 2 + 1, none⟩ = some c.2.v ∧ w7.frozen? ⟨g, i * 2 + 1, none⟩ = false ∧ ∃ v' cs', RSt w (w7.setCell ⟨g, i * 2 + 1, none⟩ (.slice A7 n7 c7)) S v' cs' (putG gs x (pt, pv))) := Lib.hid (fun w7 A7 n7 c7 g7 ho => by
    obtain ⟨g', e, k1, k2, hst⟩ := HR9.out.set HC.out HS.out g7 (sl := ⟨A7, n7, c7⟩) (ho.mono HR9.out.g.size)
    have : g' = g := by simpa [Value.ownBlock] using e.symm
    subst this
    have hs7 := (HR9.out.gr g7).sCell.1
    rw [HN1.out] at hs7
    exact ⟨hs7, k1, k2, _, _, by rw [HPG.out, HPS.out]; exact hst⟩)
  obtain ⟨cv, hcv2⟩ : ∃ u, c.2.v = u := ⟨_, rfl⟩
  rw [hcv2] at HFIN
  rw [HN1.out] at s1
  have hgS : g ≠ S := by
    rintro rfl
    obtain ⟨cur, hcur⟩ : ∃ cur, wh.heap[g]? = some (.cells cur 87 (0, 0)) := by
      obtain ⟨g', cap', cur, e, hg'⟩ := HR13.out.row.heap (by simp [Value.ownBlock])
      injection e with e
      injection e with e
      injection e with e
      subst e
      exact ⟨cur, hg'⟩
    have h2 := HR13.out.s
    rw [hcur] at h2
    injection h2 with h2
    injection h2 with _ h3 _
    exact absurd h3 (by decide)
  obtain ⟨nv, hnv⟩ : ∃ u, sl.v = u := ⟨_, rfl⟩
  rw [hnv] at HA14 ⊢
  clear hnv hcv2 HR13 HAT13 HOS13 HGE HR9 HM hjm
  go_upto_region 14 with fail
  go_region_held3 (fun w' => w'.cell? ⟨S, 0, none⟩ = some (.slice (some ⟨g, 0, none⟩) N1 cap))
    (first | exact ks8 | exact ks7 | go_keep)
    (first
      | (refine step_app2 rfl (.tmp 129) (.tmp 132) (by rfl) (by rfl) (by rfl) (by rfl) HA14.out ?_
         rintro v7 w7 ⟨ho7, hg7⟩
         obtain ⟨A7, c7, e7, -⟩ := ho7.form (fun _ => rfl)
         obtain ⟨n7, hn7⟩ : ∃ n, ((s.2.take kk ++ [(pt, pv)]) ++ s.2.drop j).length = n := ⟨_, rfl⟩
         rw [hn7] at e7
         subst e7
         obtain ⟨ks7, k1, k2, v9, cs9, hr9⟩ := HFIN.out w7 A7 n7 c7 hg7 ho7
         have HR99 := Lib.hid hr9
         have ks8 : (w7.setCell ⟨g, i * 2 + 1, none⟩ (.slice A7 n7 c7)).cell? ⟨S, 0, none⟩ = some (.slice (some ⟨g, 0, none⟩) N1 cap) := by
           rw [World.cell?_setCell_far _ _ _ _ (by exact hgS)]; exact ks7
         clear hn7 ho7 hg7 hr9))
  all_goals try go_wp2_with fail
  all_goals first | go_end0 | go_ret
  all_goals exact ⟨rfl, v9, cs9, HR99.out⟩
end Go.Proofs.YtoooaipbkkiefaaGreatDoor
