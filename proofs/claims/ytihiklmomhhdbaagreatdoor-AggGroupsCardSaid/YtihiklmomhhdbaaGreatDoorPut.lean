/- put, the reference's. -/
import Derived.Test.YtihiklmomhhdbaaGreatDoorApp
namespace Go.Proofs.YtihiklmomhhdbaaGreatDoor
open Go.RowKit Go.Sort
set_option maxRecDepth 100000
set_option maxHeartbeats 4000000

theorem putL_at {l : List Lb} {x : Lb} {k : Nat} (h1 : ∀ y ∈ l.take k, ltS y.1 x.1 = true) (h2 : k = l.length ∨ ∃ h : k < l.length, ltS (l[k]).1 x.1 = false) : putL l x = l.take k ++ [x] ++ l.drop k := by
  have hd : (l.drop k).dropWhile (fun y => ltS y.1 x.1) = l.drop k ∧ (l.drop k).takeWhile (fun y => ltS y.1 x.1) = [] := by
    rcases h2 with rfl | ⟨h, h2⟩
    · simp
    · rw [drop_lab h, List.dropWhile_cons_of_neg (by simp [h2]), List.takeWhile_cons_of_neg (by simp [h2])]; exact ⟨rfl, rfl⟩
  have ht : ∀ r : List Lb, (∀ y ∈ r, ltS y.1 x.1 = true) → ∀ q, (r ++ q).takeWhile (fun y => ltS y.1 x.1) = r ++ q.takeWhile (fun y => ltS y.1 x.1) ∧ (r ++ q).dropWhile (fun y => ltS y.1 x.1) = q.dropWhile (fun y => ltS y.1 x.1) := by
    intro r hr q
    induction r with
    | nil => simp
    | cons a r ih =>
      have ha := hr a List.mem_cons_self
      obtain ⟨i1, i2⟩ := ih fun y hy => hr y (List.mem_cons_of_mem _ hy)
      simp [ha, i1, i2]
  obtain ⟨t1, t2⟩ := ht _ h1 (l.drop k)
  rw [List.take_append_drop] at t1 t2
  unfold putL
  rw [t1, t2, hd.1, hd.2]; simp
/-- the row of the call's own, and the box of the label -/
theorem put_any (v : Value) (l : List Lb) (x : Lb) (w : World) (h : Reads w v l) (hl : l.length ≤ 1099511627775) :
    Calls Tryz.prog 152 #[v, .agg #[.string x.1, .string x.2]] w fun e w' => ∃ v', e = .returned v' ∧ Own w' w.heap.size v' (putL l x) ∧ Gr w w' := by
  obtain ⟨A, c, rfl, hL, hlc, hcm⟩ := h
  have hcm' := hcm
  unfold maxLen at hcm'
  have HL := Lib.hid hL
  clear hL
  go_enter Tryz.func152, Tryz.ntmps152
  go_wp2
  have hbox : (w.alloc (.cells #[.string x.1, .string x.2] 71)).cell? ⟨w.heap.size, 0, none⟩ = some (.string x.1) ∧ (w.alloc (.cells #[.string x.1, .string x.2] 71)).cell? ⟨w.heap.size, 1, none⟩ = some (.string x.2) := by constructor <;> go_simp
  have HBX := Lib.hid hbox
  clear hbox
  go_loopw [5] (fun i wr => ∃ k : Nat, k ≤ l.length ∧ i = .int .i64 k ∧ Hid (∀ y ∈ l.take k, ltS y.1 x.1 = true) ∧ Hid (wr.cell? ⟨w.heap.size, 0, none⟩ = some (.string x.1) ∧ wr.cell? ⟨w.heap.size, 1, none⟩ = some (.string x.2)) ∧ Gr w wr) (fun i _ => l.length - (intOf i).toNat)
  case atStart => exact ⟨0, Nat.zero_le _, rfl, fun y hy => by simp at hy, HBX, (Gr.refl _).alloc _ _⟩
  case round =>
    clear HBX
    obtain ⟨k, hk, rfl, HU, HB, hg⟩ := hrel
    have hb1 := HB.out.1
    have hb2 := HB.out.2
    have f5 : (0 : Int) ≤ k := by omega
    have rest : (k = l.length ∨ ∃ h : k < l.length, ltS (l[k]).1 x.1 = false) → Hid (putL l x = l.take k ++ [x] ++ l.drop k) := fun h => putL_at HU.out h
    have RE := Lib.hid rest; clear rest
    by_cases hlt : k < l.length
    · obtain ⟨b, o, rfl, c1, c2, -⟩ := (HL.out.gr hg).at_ hlt
      obtain ⟨y, hy⟩ : ∃ y, l[k] = y := ⟨_, rfl⟩
      have outy : ltS y.1 x.1 = true → Hid (∀ y ∈ l.take (k + 1), ltS y.1 x.1 = true) := fun h z hz => by
        rw [List.take_succ_eq_append_getElem hlt] at hz
        rcases List.mem_append.1 hz with hz | hz
        · exact HU.out z hz
        · rw [List.mem_singleton] at hz; rw [hz, hy]; exact h
      have outn : ltS y.1 x.1 = false → Hid (putL l x = l.take k ++ [x] ++ l.drop k) := fun h => RE.out (.inr ⟨hlt, by rw [hy]; exact h⟩)
      have OY := Lib.hid outy; have ON := Lib.hid outn
      rw [hy] at c1 c2
      clear hy outy outn
      have f4 : (k : Int) < (l.length : Int) := by omega
      have hd : decide (k < l.length) = true := by simpa using hlt
      cases e1 : Op.bytesLess y.1.toList x.1.toList
      · have HN := ON.out e1
        go_wp2_with fail
        go_quiet (fail)
        go_wp2_with fail
        obtain ⟨W, hW⟩ : ∃ W, wr.drewN nq = W := ⟨_, rfl⟩
        have hgW : Hid (Gr w W) := Lib.hid (hW ▸ hg.drewN _)
        have hbW1 : W.cell? ⟨w.heap.size, 0, none⟩ = some (.string x.1) := by rw [← hW]; exact hb1
        have hbW2 : W.cell? ⟨w.heap.size, 1, none⟩ = some (.string x.2) := by rw [← hW]; exact hb2
        rw [hW]
        have HD : Hid (Reads w (.slice (some ⟨b, o + k * 2, none⟩) (l.length - k) (c - k)) (l.drop k)) := Lib.hid (by have h := reads_drop HL.out hk hlc hcm; rw [if_neg (by omega)] at h; simpa [Addr.add_lit] using h)
        have HT : Hid (Reads W (.slice (some ⟨b, o, none⟩) k c) (l.take k)) := Lib.hid (reads_take (HL.out.gr hgW.out) hk hlc hcm)
        clear hW hb1 hb2 c1 c2 hg HB
        have f6 : (k : Int) ≤ (c : Int) := by omega
        have hWs := hgW.out.size
        have hWs2 := World.block_lt_of_cell? W _ hbW1
        go_region_held3 (fun w' => w'.cell? ⟨w.heap.size, 0, none⟩ = some (.string x.1) ∧ w'.cell? ⟨w.heap.size, 1, none⟩ = some (.string x.2))
          (first
            | go_keep
            | (refine ⟨(hbel2.cell (p := ⟨w.heap.size, 0, none⟩) (by simp)).trans ?_, (hbel2.cell (p := ⟨w.heap.size, 1, none⟩) (by simp)).trans ?_⟩ <;> (go_split_ands; first | assumption | (go_simp; done) | (go_simp; assumption)))
            | (refine ⟨(hbel1.cell (p := ⟨w.heap.size, 0, none⟩) (by simp)).trans ?_, (hbel1.cell (p := ⟨w.heap.size, 1, none⟩) (by simp)).trans ?_⟩ <;> (go_split_ands; first | assumption | (go_simp; done) | (go_simp; assumption))))
          (first
            | (have tok := hown1
               clear tok
               refine step_app rfl (by rfl) (.tmp 27) (.tmp 29) (by rfl) (by rfl) (B := w.heap.size + 1) (l := [] ++ l.take k) (m := [x]) ?_ ?_ (by simp; omega) ?_ ?_
               · first | exact hown1 | exact hown1.alloc _
               · first | exact reads_new W1 x | exact reads_one W1 (W.heap.size + 1) x (hgrow1.cell (a := ⟨W.heap.size + 1, 0, none⟩) (by go_simp) (by show some (W.heap.size + 1) ≠ some W.heap.size; simp)) (hgrow1.cell (a := ⟨W.heap.size + 1, 1, none⟩) (by go_simp) (by show some (W.heap.size + 1) ≠ some W.heap.size; simp)) | exact reads_one W1 W.heap.size x (hgrow1.cell (a := ⟨W.heap.size, 0, none⟩) (by go_simp) (by show some W.heap.size ≠ some (W.heap.size + 1); simp)) (hgrow1.cell (a := ⟨W.heap.size, 1, none⟩) (by go_simp) (by show some W.heap.size ≠ some (W.heap.size + 1); simp))
               · have h1 := hbel1.size
                 simp at h1 ⊢
                 omega
               intro v2 W2 hown2 hbel2 hgrow2 hat2)
            | (refine step_app rfl (by rfl) (.tmp 23) (.tmp 26) (by rfl) (by rfl) (B := w.heap.size + 1) (l := []) (m := l.take k) ?_ ?_ (by simp; omega) ?_ ?_
               · first | exact (own_new W _ hWs2).drew | exact ((own_new W _ hWs2).alloc _).drew | exact (own_new_behind W _ hWs2 _).drew
               · first | exact HT.out.gr ((Gr.refl W).alloc _ _).drew | exact HT.out.gr (((Gr.refl W).alloc _ _).alloc _ _).drew
               · simp
                 omega
               intro v1 W1 hown1 hbel1 hgrow1 hat1))
        all_goals
          have HG2 : Hid (Gr w W2) := by first | exact (((((hgW.out.alloc _ _).drew).below hbel1 (by omega)).alloc _ _).below hbel2 (by omega)) | exact (((((hgW.out.alloc _ _).alloc _ _).drew).below hbel1 (by omega)).below hbel2 (by omega))
          have HO2 := Lib.hid hown2
          have hs2 : w.heap.size + 1 ≤ W2.heap.size := by
            have h1 := hbel1.size
            have h2 := hbel2.size
            simp at h1 h2
            omega
          clear hown1 hbel1 hgrow1 hat1 hown2 hbel2 hgrow2 hat2
          go_wp2_with (at_builtin; refine wpList_app rfl rfl (.tmp 31) (.tmp 34) (by rfl) (by rfl) (B := w.heap.size + 1) (l := [] ++ l.take k ++ [x]) (m := l.drop k) HO2.out (HD.out.gr HG2.out) (by simp; omega) hs2 ?_; intro v3 W3 hown3 hbel3 hgrow3 hat3)
          go_ret
          exact ⟨v3, rfl, by rw [HN.out]; exact hown3.mono (by omega), HG2.out.below hbel3 (by omega)⟩
      · have HN := OY.out e1
        go_wp2_with fail
        go_quiet (fail)
        go_wp2
        go_roundw
        case rel => exact ⟨k + 1, by omega, by go_num, HN, HB, by go_simp; exact hg.drewN _⟩
        case measure => simp [intOf]; omega
    · obtain rfl : k = l.length := by omega
      have HN := RE.out (.inl rfl)
      have htf : ∀ W, Gr w W → Reads W (.slice A l.length c) l := fun W g => ⟨A, c, rfl, HL.out.gr g, hlc, hcm⟩
      have HTF := Lib.hid htf; clear htf
      have f6 : (l.length : Int) ≤ (c : Int) := by omega
      by_cases hcl : c = l.length
      all_goals
        try subst hcl
        go_wp2_with fail
        go_quiet (fail)
        go_wp2_with fail
        obtain ⟨W, hW⟩ : ∃ W, wr.drewN nq = W := ⟨_, rfl⟩
        have hgW : Hid (Gr w W) := Lib.hid (hW ▸ hg.drewN _)
        have hbW1 : W.cell? ⟨w.heap.size, 0, none⟩ = some (.string x.1) := by rw [← hW]; exact hb1
        have hbW2 : W.cell? ⟨w.heap.size, 1, none⟩ = some (.string x.2) := by rw [← hW]; exact hb2
        rw [hW]
        have HT := Lib.hid (HTF.out W hgW.out)
        clear hW hb1 hb2 hg HB
        have hWs := hgW.out.size
        have hWs2 := World.block_lt_of_cell? W _ hbW1
        go_region_held3 (fun w' => w'.cell? ⟨w.heap.size, 0, none⟩ = some (.string x.1) ∧ w'.cell? ⟨w.heap.size, 1, none⟩ = some (.string x.2))
          (first
            | go_keep
            | (refine ⟨(hbel2.cell (p := ⟨w.heap.size, 0, none⟩) (by simp)).trans ?_, (hbel2.cell (p := ⟨w.heap.size, 1, none⟩) (by simp)).trans ?_⟩ <;> (go_split_ands; first | assumption | (go_simp; done) | (go_simp; assumption)))
            | (refine ⟨(hbel1.cell (p := ⟨w.heap.size, 0, none⟩) (by simp)).trans ?_, (hbel1.cell (p := ⟨w.heap.size, 1, none⟩) (by simp)).trans ?_⟩ <;> (go_split_ands; first | assumption | (go_simp; done) | (go_simp; assumption))))
          (first
            | (have tok := hown1
               clear tok
               refine step_app rfl (by rfl) (.tmp 27) (.tmp 29) (by rfl) (by rfl) (B := w.heap.size + 1) (l := [] ++ l) (m := [x]) ?_ ?_ (by simp; omega) ?_ ?_
               · first | exact hown1 | exact hown1.alloc _
               · first | exact reads_new W1 x | exact reads_one W1 (W.heap.size + 1) x (hgrow1.cell (a := ⟨W.heap.size + 1, 0, none⟩) (by go_simp) (by show some (W.heap.size + 1) ≠ some W.heap.size; simp)) (hgrow1.cell (a := ⟨W.heap.size + 1, 1, none⟩) (by go_simp) (by show some (W.heap.size + 1) ≠ some W.heap.size; simp)) | exact reads_one W1 W.heap.size x (hgrow1.cell (a := ⟨W.heap.size, 0, none⟩) (by go_simp) (by show some W.heap.size ≠ some (W.heap.size + 1); simp)) (hgrow1.cell (a := ⟨W.heap.size, 1, none⟩) (by go_simp) (by show some W.heap.size ≠ some (W.heap.size + 1); simp))
               · have h1 := hbel1.size
                 simp at h1 ⊢
                 omega
               intro v2 W2 hown2 hbel2 hgrow2 hat2)
            | (refine step_app rfl (by rfl) (.tmp 23) (.tmp 26) (by rfl) (by rfl) (B := w.heap.size + 1) (l := []) (m := l) ?_ ?_ (by simp; omega) ?_ ?_
               · first | exact (own_new W _ hWs2).drew | exact ((own_new W _ hWs2).alloc _).drew | exact (own_new_behind W _ hWs2 _).drew
               · first | exact HT.out.gr ((Gr.refl W).alloc _ _).drew | exact HT.out.gr (((Gr.refl W).alloc _ _).alloc _ _).drew
               · simp
                 omega
               intro v1 W1 hown1 hbel1 hgrow1 hat1))
        all_goals
          have HG2 : Hid (Gr w W2) := by first | exact (((((hgW.out.alloc _ _).drew).below hbel1 (by omega)).alloc _ _).below hbel2 (by omega)) | exact (((((hgW.out.alloc _ _).alloc _ _).drew).below hbel1 (by omega)).below hbel2 (by omega))
          have HO2 := Lib.hid hown2
          have hs2 : w.heap.size + 1 ≤ W2.heap.size := by
            have h1 := hbel1.size
            have h2 := hbel2.size
            simp at h1 h2
            omega
          clear hown1 hbel1 hgrow1 hat1 hown2 hbel2 hgrow2 hat2
          go_wp2_with (at_builtin; refine wpList_app rfl rfl (.tmp 31) (.tmp 34) (by rfl) (by rfl) (B := w.heap.size + 1) (l := [] ++ l ++ [x]) (m := []) HO2.out ⟨_, _, rfl, LabsAt.none_ _ _, Nat.zero_le _, by first | exact hcm | (unfold maxLen; omega)⟩ (by simp; omega) hs2 ?_; intro v3 W3 hown3 hbel3 hgrow3 hat3)
          go_ret
          exact ⟨v3, rfl, by rw [HN.out, List.take_length, List.drop_length]; exact hown3.mono (by omega), HG2.out.below hbel3 (by omega)⟩
end Go.Proofs.YtihiklmomhhdbaaGreatDoor
