/- Back, the reference's. -/
import Derived.Test.YtegbenbhiadnbaaDoorCutMath
import Derived.Test.YtegbenbhiadnbaaDoorRefPiece
import Derived.Test.YtegbenbhiadnbaaDoorRefRight
import Derived.Test.YtegbenbhiadnbaaDoorKnown
namespace Go.Proofs.YtegbenbhiadnbaaDoor
open Go.RowKit Go.Sort
set_option maxRecDepth 100000
set_option maxHeartbeats 4000000

def BackPost (s : ByteArray) (w : World) (e : Ending) (w' : World) : Prop :=
  Gr w w' ∧ ((∃ A l c, e = .returned (.tuple #[.slice A l.length c, .int .i64 0]) ∧ LabsAt w' A l ∧ rightP l ∧ keyL l = s.data.toList) ∨ (e = .returned (.tuple #[.slice none 0 0, .int .i64 2]) ∧ ∀ l, rightP l → keyL l ≠ s.data.toList))
theorem BackPost.no {s : ByteArray} {w w' : World} (g : Gr w w') (h : ∀ l, rightP l → keyL l ≠ s.data.toList) : BackPost s w (.returned (.tuple #[.slice none 0 0, .int .i64 2])) w' := ⟨g, .inr ⟨rfl, h⟩⟩
theorem BackPost.yes {s : ByteArray} {w w' : World} {A : Option Addr} {l : List Lb} {c : Nat} (g : Gr w w') (h1 : LabsAt w' A l) (h2 : rightP l) (h3 : keyL l = s.data.toList) : BackPost s w (.returned (.tuple #[.slice A l.length c, .int .i64 0])) w' := ⟨g, .inl ⟨A, l, c, rfl, h1, h2, h3⟩⟩
def strSize : Value → Nat
  | .string b => b.size
  | _ => 0
theorem data_drop (S : ByteArray) (n : Nat) : (S.extract n S.size).data.toList = S.data.toList.drop n := by
  simp [ByteArray.data_extract, Array.toList_extract]
  rw [List.take_of_length_le (by simp)]
theorem drop_piece {s t r : List UInt8} (h : s = pieceK t ++ r) : s.drop (pieceK t).length = r := by rw [h]; simp
/-- the texts of what is read are no longer than the key -/
def Short (n : Nat) (l : List Lb) : Prop := ∀ x ∈ l, x.1.size ≤ n ∧ x.2.size ≤ n
theorem Short.snoc {n : Nat} {l : List Lb} (h : Short n l) {t1 t2 : List UInt8} (h1 : t1.length ≤ n) (h2 : t2.length ≤ n) : Short n (l ++ [(⟨t1.toArray⟩, ⟨t2.toArray⟩)]) := fun x hx => by
  rcases List.mem_append.1 hx with hx | hx
  · exact h x hx
  · simp only [List.mem_singleton] at hx
    subst hx
    exact ⟨by simpa [ByteArray.size] using h1, by simpa [ByteArray.size] using h2⟩

theorem rBack_any (s : ByteArray) (w : World) (hs : s.size ≤ 1000000) :
    Calls Tryd.prog 22 #[.string s] w (BackPost s w) := by
  go_enter Tryd.func22, Tryd.ntmps22
  go_wp2
  go_loopw [0, 4] (fun v0 v4 wr => ∃ (S : ByteArray) (o : List Lb), v0 = .string S ∧ Hid (Own wr w.heap.size v4 o) ∧ Hid (keyL o ++ S.data.toList = s.data.toList) ∧ o.length ≤ 32 ∧ S.size ≤ s.size ∧ Hid (Short s.size o) ∧ Gr w wr) (fun v _ _ => strSize v)
  case atStart => exact ⟨s, [], rfl, Own.nil _ _, rfl, by simp, Nat.le_refl _, fun x hx => by simp at hx, Gr.refl _⟩
  case round =>
    obtain ⟨S, o, rfl, HO, HK, ho32, hSs, HS, hg⟩ := hrel
    have hgs := hg.size
    obtain ⟨A, c, rfl, hla, hlc, hcm⟩ := HO.out.form
    have HLA := Lib.hid hla
    clear hla
    have hwd : Wd o := fun x hx => ⟨by have := (HS.out x hx).1; unfold maxLen; omega, by have := (HS.out x hx).2; unfold maxLen; omega⟩
    have CR := Lib.hid (fun A' c' W (g : LabsAt W A' o) => rRight_any A' o c' W g hwd (by omega))
    by_cases h0 : S.size = 0
    · obtain rfl := empty_eq h0
      have HKE : Hid (keyL o = s.data.toList) := Lib.hid (by have := HK.out; simpa using this)
      clear h0 hwd
      cases hrb : rightB o
      · have HN : Hid (∀ l, rightP l → keyL l ≠ s.data.toList) := Lib.hid (by rw [← HKE.out]; exact back_end hrb)
        rw [hrb] at CR
        clear hrb
        go_wp2_with fail
        refine (CR.out _ _ _ HLA.out).mono ?_
        rintro e w1 ⟨rfl, g1⟩
        go_wp2
        go_ret2
        exact BackPost.no (hg.trans g1) HN.out
      · have HR := Lib.hid (rightB_t.1 hrb)
        rw [hrb] at CR
        clear hrb
        go_wp2_with fail
        refine (CR.out _ _ _ HLA.out).mono ?_
        rintro e w1 ⟨rfl, g1⟩
        go_wp2
        go_ret2
        exact BackPost.yes (hg.trans g1) (HLA.out.gr g1) HR.out HKE.out
    obtain ⟨z1, z2, z3⟩ := ne_facts (by omega : 0 < S.size)
    have hSne : S.data.toList ≠ [] := fun e => by have : S.data.toList.length = S.size := (by simp); rw [e] at this; simp at this; omega
    have HSNE := Lib.hid hSne
    have hSl : S.data.toList.length = S.size := by simp
    have HSL := Lib.hid hSl
    clear hSne hSl
    have CP := Lib.hid (fun W => rPiece_any S W (by omega))
    go_wp2_with fail
    refine (CP.out _).mono ?_
    rintro e w1 ⟨g1, hp⟩
    rcases hp with ⟨t, r, hp, rfl⟩ | ⟨rfl, hn⟩
    case inr =>
      have HN : Hid (∀ l, rightP l → keyL l ≠ s.data.toList) := Lib.hid (by rw [← HK.out]; exact back_no1 HSNE.out hn)
      clear hn
      go_wp2
      go_ret2
      exact BackPost.no (hg.trans g1) HN.out
    have HP := Lib.hid hp
    have hlen : (pieceK t).length + r.length = S.size := by have := HSL.out; rw [hp] at this; simp at this; exact this
    have hpl := piece_len t
    clear hp
    obtain ⟨n, hn⟩ : ∃ n, (pieceK t).length = n := ⟨_, rfl⟩
    rw [hn] at hlen hpl ⊢
    have HNN := Lib.hid hn
    clear hn
    have HS2 : Hid ((S.extract n S.size).data.toList = r) := Lib.hid (by rw [data_drop, ← HNN.out]; exact drop_piece HP.out)
    have hs2 : (S.extract n S.size).size = r.length := by rw [← HS2.out]; simp
    have CP2 := Lib.hid (fun W => rPiece_any (S.extract n S.size) W (by omega))
    clear hs2
    have f1 : (n : Int) ≤ (S.size : Int) := by omega
    have f2 : n ≤ S.size := by omega
    have f3 : (0 : Int) ≤ (n : Int) := by omega
    have f4 : ¬ (n : Int) < 0 := by omega
    go_wp2_with fail
    refine (CP2.out _).mono ?_
    rintro e w2 ⟨g2, hp⟩
    rw [HS2.out] at hp
    rcases hp with ⟨t2, r2, hp, rfl⟩ | ⟨rfl, hn⟩
    case inr =>
      have HN : Hid (∀ l, rightP l → keyL l ≠ s.data.toList) := Lib.hid (by rw [← HK.out, HP.out]; exact back_no2 hn)
      clear hn
      go_wp2
      go_ret2
      exact BackPost.no ((hg.trans g1).trans g2) HN.out
    have HP2 := Lib.hid hp
    have hlen2 : (pieceK t2).length + r2.length = r.length := by rw [hp]; simp
    have hpl2 := piece_len t2
    clear hp
    obtain ⟨n2, hn2⟩ : ∃ n2, (pieceK t2).length = n2 := ⟨_, rfl⟩
    rw [hn2] at hlen2 hpl2 ⊢
    have HNN2 := Lib.hid hn2
    clear hn2
    have HK2 : Hid (keyL (o ++ [(⟨t.toArray⟩, ⟨t2.toArray⟩)]) ++ r2 = s.data.toList) := Lib.hid (by rw [← HK.out, HP.out, HP2.out]; exact (back_step o t t2 r2).symm)
    have HS3 : Hid ((S.extract (n + n2) S.size).data.toList = r2) := Lib.hid (by
      rw [data_drop, HP.out, HP2.out, ← HNN.out, ← HNN2.out, ← List.append_assoc, ← List.length_append]
      exact List.drop_left)
    have hs3 : (S.extract (n + n2) S.size).size = r2.length := by rw [← HS3.out]; simp
    have HSH := Lib.hid (HS.out.snoc (t1 := t) (t2 := t2) (by omega) (by omega))
    have HO2 := Lib.hid (HO.out.gr (g1.trans g2))
    have HG2 := Lib.hid ((hg.trans g1).trans g2)
    have e1 : ((n : Int) + (n2 : Int)).toNat = n + n2 := by omega
    have f5 : (n : Int) + (n2 : Int) ≤ (S.size : Int) := by omega
    have f6 : (0 : Int) ≤ (n : Int) + (n2 : Int) := by omega
    have f7 : ¬ (n2 : Int) < 0 := by omega
    have hw2s : w.heap.size ≤ w2.heap.size := HG2.out.size
    clear CP CP2 CR g1 g2 z1 z2 z3 h0 hwd
    go_wp2_with (at_builtin; refine wpList_app rfl rfl (.tmp 27) (.tmp 31) (by rfl) (by rfl) (B := w.heap.size) (l := o) (m := [(⟨t.toArray⟩, ⟨t2.toArray⟩)]) (HO2.out.alloc _) (reads_new w2 (⟨t.toArray⟩, ⟨t2.toArray⟩)) (by simp; omega) (by simp; omega) ?_; intro v3 W3 hown3 hbel3 hgrow3 hat3)
    have HO3 := Lib.hid hown3
    have HG3 := Lib.hid ((HG2.out.alloc #[.string ⟨t.toArray⟩, .string ⟨t2.toArray⟩] 48).below hbel3 (Nat.le_refl _))
    obtain ⟨A3, c3, rfl, -, -, -⟩ := hown3.form
    have hl3 : (o ++ [((⟨t.toArray⟩, ⟨t2.toArray⟩) : Lb)]).length = o.length + 1 := by simp
    rw [hl3] at HO3 ⊢
    clear hown3 hbel3 hgrow3 hat3
    by_cases h32 : o.length + 1 ≤ 32
    · have h32' : ¬ (32 : Int) < (o.length : Int) + 1 := by omega
      have h32'' : o.length < 32 := by omega
      go_wp2
      go_roundw
      case rel => exact ⟨S.extract (n + n2) S.size, o ++ [(⟨t.toArray⟩, ⟨t2.toArray⟩)], rfl, HO3, Lib.hid (by rw [HS3.out]; exact HK2.out), by rw [hl3]; exact h32, by omega, HSH, HG3.out⟩
      case measure => simp [strSize, hs3]; omega
    · have HN : Hid (∀ l, rightP l → keyL l ≠ s.data.toList) := Lib.hid (by rw [← HK2.out]; exact back_many (by rw [hl3]; omega))
      have h32' : (32 : Int) < (o.length : Int) + 1 := by omega
      have h32a : 32 < o.length + 1 := by omega
      have h32b : 31 < o.length := by omega
      have h32c : 32 ≤ o.length := by omega
      clear h32
      go_simp
      go_wp2
      go_ret2
      exact BackPost.no HG3.out HN.out
end Go.Proofs.YtegbenbhiadnbaaDoor
