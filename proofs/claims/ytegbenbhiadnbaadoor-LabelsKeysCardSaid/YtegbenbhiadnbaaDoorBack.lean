/- Back, the program's. -/
import Derived.Test.YtegbenbhiadnbaaDoorRefBack
import Derived.Test.YtegbenbhiadnbaaDoorPiece
import Derived.Test.YtegbenbhiadnbaaDoorRight
namespace Go.Proofs.YtegbenbhiadnbaaDoor
open Go.RowKit Go.Sort
set_option maxRecDepth 100000
set_option maxHeartbeats 4000000

theorem box_gr {W W' : World} {b : Nat} {cs : Array Value} {t : TypeId} {f : Nat × Nat} (g : Gr W W') (h : W.heap[b]? = some (.cells cs t f)) : W'.heap[b]? = some (.cells cs t f) := by
  have hlt : b < W.heap.size := by
    rcases Nat.lt_or_ge b W.heap.size with e | e
    · exact e
    · rw [Array.getElem?_eq_none e] at h; cases h
  exact (g.b.block b hlt).trans h
theorem box_facts {W : World} {b : Nat} {x y : Value} {t : TypeId} (h : W.heap[b]? = some (.cells #[x, y] t (0, 0))) : W.cell? ⟨b, 0, none⟩ = some x ∧ W.cell? ⟨b, 1, none⟩ = some y ∧ W.frozen? ⟨b, 0, none⟩ = false ∧ W.frozen? ⟨b, 1, none⟩ = false :=
  ⟨cell_of_row W b 0 _ _ (0, 0) h, cell_of_row W b 1 _ _ (0, 0) h, frozen_of_row W b 0 _ _ h, frozen_of_row W b 1 _ _ h⟩
theorem box_set0 {W : World} {b : Nat} {x y : Value} {t : TypeId} (h : W.heap[b]? = some (.cells #[x, y] t (0, 0))) (u : Value) : (W.setCell ⟨b, 0, none⟩ u).heap[b]? = some (.cells #[u, y] t (0, 0)) := by
  have := heap_setCell_same W b 0 _ _ u h
  simpa using this
theorem box_set1 {W : World} {b : Nat} {x y : Value} {t : TypeId} (h : W.heap[b]? = some (.cells #[x, y] t (0, 0))) (u : Value) : (W.setCell ⟨b, 1, none⟩ u).heap[b]? = some (.cells #[x, u] t (0, 0)) := by
  have := heap_setCell_same W b 1 _ _ u h
  simpa using this
theorem data_mk (r : List UInt8) : (⟨r.toArray⟩ : ByteArray).data.toList = r := by simp
theorem Own.other {W : World} {B : Nat} {v : Value} {l : List Lb} (h : Own W B v l) {b : Nat} (hne : v.ownBlock ≠ some b) (j : Nat) (u : Value) : Own (W.setCell ⟨b, j, none⟩ u) B v l :=
  World.ownsRow.kept h (row := some b) (only_setCell (only_refl W (some b)) (by rfl) u) (.inr hne)
theorem piece_e (t r : List UInt8) : (⟨#[]⟩ : ByteArray).data.toList ≠ pieceK t ++ r := fun h => piece_ne t r h.symm
theorem back_any (s : ByteArray) (w : World) (hs : s.size ≤ 1000000) (hE : Env w) :
    Calls Tryd.prog 21 #[.string s] w (BackPost s w) := by
  have HE := Lib.hid hE
  clear hE
  go_enter Tryd.func21, Tryd.ntmps21
  go_wp2
  go_loopw [0, 4] (fun v0 v4 wr => ∃ (S : ByteArray) (o : List Lb), v0 = .string S ∧ Hid (Own wr w.heap.size v4 o) ∧ Hid (keyL o ++ S.data.toList = s.data.toList) ∧ o.length ≤ 33 ∧ S.size ≤ s.size ∧ Hid (Short s.size o) ∧ Gr w wr) (fun v _ _ => strSize v)
  case atStart => exact ⟨s, [], rfl, Own.nil _ _, rfl, by simp, Nat.le_refl _, fun x hx => by simp at hx, Gr.refl _⟩
  case round =>
    obtain ⟨S, o, rfl, HO, HK, ho32, hSs, HS, hg⟩ := hrel
    have hgs := hg.size
    obtain ⟨A, c, rfl, hla, hlc, hcm⟩ := HO.out.form
    have HLA := Lib.hid hla
    clear hla
    have hwd : Wd o := fun x hx => ⟨by have := (HS.out x hx).1; unfold maxLen; omega, by have := (HS.out x hx).2; unfold maxLen; omega⟩
    have CR := Lib.hid (fun A' c' W (g : LabsAt W A' o) => right_any A' o c' W g hwd (by omega))
    have HRF : Hid (32 < o.length → rightB o = false) := Lib.hid (fun h => right_big h)
    by_cases h0 : S.size = 0
    · obtain rfl := empty_eq h0
      have HKE : Hid (keyL o = s.data.toList) := Lib.hid (by have := HK.out; simpa using this)
      clear h0 hwd
      cases hrb : rightB o
      · have HN : Hid (∀ l, rightP l → keyL l ≠ s.data.toList) := Lib.hid (by rw [← HKE.out]; exact back_end hrb)
        rw [hrb] at CR
        clear hrb
        go_wp2_with fail
        refine (CR.out _ _ _ HLA.out).mono ?_
        rintro e w1 ⟨rfl, g1⟩
        go_wp2
        go_ret2
        exact BackPost.no (hg.trans g1) HN.out
      · have HR := Lib.hid (rightB_t.1 hrb)
        rw [hrb] at CR
        clear hrb
        go_wp2_with fail
        refine (CR.out _ _ _ HLA.out).mono ?_
        rintro e w1 ⟨rfl, g1⟩
        go_wp2
        go_ret2
        exact BackPost.yes (hg.trans g1) (HLA.out.gr g1) HR.out HKE.out
    obtain ⟨z1, z2, z3⟩ := ne_facts (by omega : 0 < S.size)
    by_cases h33 : o.length = 33
    · have HN : Hid (∀ l, rightP l → keyL l ≠ s.data.toList) := Lib.hid (by rw [← HK.out]; exact back_many (by omega))
      rw [HRF.out (by omega)] at CR
      rw [h33] at CR ⊢
      clear h0 hwd h33
      go_wp2_with fail
      refine (CR.out _ _ _ HLA.out).mono ?_
      rintro e w1 ⟨rfl, g1⟩
      go_wp2
      go_ret2
      exact BackPost.no (hg.trans g1) HN.out
    have hSne : S.data.toList ≠ [] := fun e => by have : S.data.toList.length = S.size := (by simp); rw [e] at this; simp at this; omega
    have HSNE := Lib.hid hSne
    have hSl : S.data.toList.length = S.size := by simp
    have HSL := Lib.hid hSl
    clear hSne hSl
    have ho : o.length ≤ 32 := by omega
    have ho' : (o.length : Int) ≤ 32 := by omega
    have CP := Lib.hid (fun (S : ByteArray) (h : S.size ≤ 1000000) W (g : Gr w W) => piece_any S W (HE.out.gr g) (by omega))
    have HROW : Hid ((wr.alloc (.cells #[.string ⟨#[]⟩, .string ⟨#[]⟩] 48)).heap[wr.heap.size]? = some (.cells #[.string ⟨#[]⟩, .string ⟨#[]⟩] 48 (0, 0))) := Lib.hid (heap_alloc_new wr _)
    have HB0 : Hid (Gr w (wr.alloc (.cells #[.string ⟨#[]⟩, .string ⟨#[]⟩] 48))) := Lib.hid (hg.alloc _ _)
    have HOA := Lib.hid (HO.out.alloc (.cells #[.string ⟨#[]⟩, .string ⟨#[]⟩] 48))
    have HNE : Hid ((Value.slice A o.length c).ownBlock ≠ some wr.heap.size) := Lib.hid (fun e => by have := (HO.out.lt e).2; omega)
    clear CR HRF hwd h0 h33 HLA
    go_wp2_with fail
    refine (CP.out S (by omega) _ HB0.out).mono ?_
    rintro e w1 ⟨g1, hp⟩
    have HG1 := Lib.hid (HB0.out.trans g1)
    have HR1 := Lib.hid (box_gr g1 HROW.out)
    have HO1 := Lib.hid (HOA.out.gr g1)
    obtain ⟨c0, c1, f0, f1⟩ := box_facts HR1.out
    clear g1
    rcases hp with ⟨t, r, hp, rfl⟩ | ⟨rfl, hn⟩
    case inr =>
      have HN : Hid (∀ l, rightP l → keyL l ≠ s.data.toList) := Lib.hid (by rw [← HK.out]; exact back_no1 HSNE.out hn)
      have HG2 : Hid (Gr w (w1.setCell ⟨wr.heap.size, 0, none⟩ (.string ⟨#[]⟩))) := Lib.hid (HG1.out.setCell hgs _)
      have HR2 := Lib.hid (box_set0 HR1.out (.string ⟨#[]⟩))
      clear hn
      go_wp2_with fail
      refine (CP.out ⟨#[]⟩ (by decide) _ HG2.out).mono ?_
      rintro e w2 ⟨g2, hp⟩
      have HG3 := Lib.hid (HG2.out.trans g2)
      have HR3 := Lib.hid (box_gr g2 HR2.out)
      clear c0 c1 f0 f1 g2
      obtain ⟨c0, c1, f0, f1⟩ := box_facts HR3.out
      rcases hp with ⟨t, r, hp, -⟩ | ⟨rfl, -⟩
      · exact absurd hp (piece_e t r)
      go_wp2
      go_ret2
      exact BackPost.no (HG3.out.setCell hgs _) HN.out
    have HP := Lib.hid hp
    have hlen : (pieceK t).length + r.length = S.size := by have := HSL.out; rw [hp] at this; simp at this; exact this
    have hpl := piece_len t
    clear hp
    have hrs : (⟨r.toArray⟩ : ByteArray).size = r.length := by simp [ByteArray.size]
    have HG2 : Hid (Gr w (w1.setCell ⟨wr.heap.size, 0, none⟩ (.string ⟨t.toArray⟩))) := Lib.hid (HG1.out.setCell hgs _)
    have HR2 := Lib.hid (box_set0 HR1.out (.string ⟨t.toArray⟩))
    have HO2 : Hid (Own (w1.setCell ⟨wr.heap.size, 0, none⟩ (.string ⟨t.toArray⟩)) w.heap.size (.slice A o.length c) o) := Lib.hid (HO1.out.other HNE.out _ _)
    have CP2 := Lib.hid (CP.out ⟨r.toArray⟩ (by rw [hrs]; omega) _ HG2.out)
    clear hrs
    go_wp2_with fail
    refine CP2.out.mono ?_
    rintro e w2 ⟨g2, hp⟩
    have HG3 := Lib.hid (HG2.out.trans g2)
    have HR3 := Lib.hid (box_gr g2 HR2.out)
    have HO3 := Lib.hid (HO2.out.gr g2)
    clear c0 c1 f0 f1 g2
    obtain ⟨c0, c1, f0, f1⟩ := box_facts HR3.out
    rw [data_mk] at hp
    rcases hp with ⟨t2, r2, hp, rfl⟩ | ⟨rfl, hn⟩
    case inr =>
      have HN : Hid (∀ l, rightP l → keyL l ≠ s.data.toList) := Lib.hid (by rw [← HK.out, HP.out]; exact back_no2 hn)
      clear hn
      go_wp2
      go_ret2
      exact BackPost.no (HG3.out.setCell hgs _) HN.out
    have HP2 := Lib.hid hp
    have hlen2 : (pieceK t2).length + r2.length = r.length := by rw [hp]; simp
    have hpl2 := piece_len t2
    clear hp
    have HK2 : Hid (keyL (o ++ [(⟨t.toArray⟩, ⟨t2.toArray⟩)]) ++ r2 = s.data.toList) := Lib.hid (by rw [← HK.out, HP.out, HP2.out]; exact (back_step o t t2 r2).symm)
    have HSH := Lib.hid (HS.out.snoc (t1 := t) (t2 := t2) (by omega) (by omega))
    have HG4 : Hid (Gr w (w2.setCell ⟨wr.heap.size, 1, none⟩ (.string ⟨t2.toArray⟩))) := Lib.hid (HG3.out.setCell hgs _)
    have HR4 := Lib.hid (box_set1 HR3.out (.string ⟨t2.toArray⟩))
    have HO4 : Hid (Own (w2.setCell ⟨wr.heap.size, 1, none⟩ (.string ⟨t2.toArray⟩)) w.heap.size (.slice A o.length c) o) := Lib.hid (HO3.out.other HNE.out _ _)
    have hrs2 : (⟨r2.toArray⟩ : ByteArray).size = r2.length := by simp [ByteArray.size]
    have hs4 := HG4.out.size
    clear CP CP2
    have hsz : (w2.setCell ⟨wr.heap.size, 1, none⟩ (.string ⟨t2.toArray⟩)).heap.size = w2.heap.size := by simp [World.setCell]
    have HRN := Lib.hid (reads_new (w2.setCell ⟨wr.heap.size, 1, none⟩ (.string ⟨t2.toArray⟩)) ((⟨t.toArray⟩, ⟨t2.toArray⟩) : Lb))
    rw [hsz] at HRN
    go_wp2_with (at_builtin; refine wpList_app rfl rfl (.tmp 35) (.tmp 37) (by rfl) (by rfl) (B := w.heap.size) (l := o) (m := [(⟨t.toArray⟩, ⟨t2.toArray⟩)]) (HO4.out.alloc _) HRN.out (by simp; omega) (by simp at hs4 ⊢; omega) ?_; intro v3 W3 hown3 hbel3 hgrow3 hat3)
    have HO5 := Lib.hid hown3
    have HG5 := Lib.hid ((HG4.out.alloc #[.string ⟨t.toArray⟩, .string ⟨t2.toArray⟩] 48).below hbel3 (Nat.le_refl _))
    clear hown3 hbel3 hgrow3 hat3
    go_roundw
    case rel => exact ⟨⟨r2.toArray⟩, o ++ [(⟨t.toArray⟩, ⟨t2.toArray⟩)], rfl, HO5, Lib.hid (by rw [data_mk]; exact HK2.out), by simp; omega, by rw [hrs2]; omega, HSH, HG5.out⟩
    case measure => simp [strSize, hrs2]; omega
end Go.Proofs.YtegbenbhiadnbaaDoor
