/- Back: what is read of a key, and what no right list has. -/
import Derived.Test.YtegbenbhiadnbaaDoorPieceMath
namespace Go.Proofs.YtegbenbhiadnbaaDoor
open Go.RowKit Go.Sort
set_option maxRecDepth 100000
set_option maxHeartbeats 1000000

/-- no piece of a right list is read here -/
def PN (s : List UInt8) : Prop := ∀ t r, s = pieceK t ++ r → 9999 < t.length ∨ t = []
theorem right_size {l : List Lb} (h : rightP l) {x : Lb} (hx : x ∈ l) : (0 < x.1.size ∧ x.1.size ≤ 64) ∧ 0 < x.2.size ∧ x.2.size ≤ 256 := by
  have hv := (rightP_iff.1 h).2.1 x hx
  simp only [okV, Bool.and_eq_true, decide_eq_true_eq] at hv
  refine ⟨?_, by omega⟩
  have hn := hv.1
  unfold nameB at hn
  have hl : x.1.data.toList.length = x.1.size := by simp
  cases e : x.1.data.toList with
  | nil => rw [e] at hn; simp [nameL] at hn
  | cons c r =>
    rw [e] at hn hl
    simp only [nameL, Bool.and_eq_true, decide_eq_true_eq] at hn
    simp only [List.length_cons] at hl
    omega
theorem data_ne {x : ByteArray} (h : 0 < x.size) (h2 : x.size ≤ 300) : ¬ (9999 < x.data.toList.length ∨ x.data.toList = []) := by
  have hl : x.data.toList.length = x.size := by simp
  rintro (e | e)
  · omega
  · rw [e] at hl; simp at hl; omega
theorem back_no1 {o : List Lb} {s : List UInt8} (hs : s ≠ []) (h : PN s) : ∀ l, rightP l → keyL l ≠ keyL o ++ s := fun l hr e => by
  obtain ⟨b, rfl, hb⟩ := key_goes_on o l s e
  cases b with
  | nil => exact hs (by rw [hb]; rfl)
  | cons x b =>
    rw [keyL_cons] at hb
    obtain ⟨h1, -⟩ := right_size hr (x := x) (by simp)
    exact data_ne h1.1 (by omega) (h _ _ hb)
theorem back_no2 {o : List Lb} {t r : List UInt8} (h : PN r) : ∀ l, rightP l → keyL l ≠ keyL o ++ (pieceK t ++ r) := fun l hr e => by
  obtain ⟨b, rfl, hb⟩ := key_goes_on o l _ e
  cases b with
  | nil => exact absurd hb.symm (fun h => piece_ne t r h.symm)
  | cons x b =>
    rw [keyL_cons] at hb
    obtain ⟨-, hb⟩ := piece_inj hb
    obtain ⟨-, h1⟩ := right_size hr (x := x) (by simp)
    exact data_ne h1.1 (by omega) (h _ _ hb)
theorem back_step (o : List Lb) (t1 t2 r : List UInt8) : keyL o ++ (pieceK t1 ++ (pieceK t2 ++ r)) = keyL (o ++ [(⟨t1.toArray⟩, ⟨t2.toArray⟩)]) ++ r := by
  rw [keyL_snoc]; simp
theorem back_many {o : List Lb} {s : List UInt8} (h : 32 < o.length) : ∀ l, rightP l → keyL l ≠ keyL o ++ s := fun l hr e => by
  obtain ⟨b, rfl, -⟩ := key_goes_on o l s e
  have := hr.1
  simp at this
  omega
theorem back_end {o : List Lb} (h : rightB o = false) : ∀ l, rightP l → keyL l ≠ keyL o := fun l hr e => by
  rw [keyL_inj e] at hr
  rw [rightB_t.2 hr] at h; cases h
/-- a piece's length -/
theorem piece_len (t : List UInt8) : t.length < (pieceK t).length := by simp [pieceK]; omega
end Go.Proofs.YtegbenbhiadnbaaDoor
