/- Text, the reference's. -/
import Derived.Test.YtegbenbhiadnbaaDoorRefQuote
import Derived.Test.YtegbenbhiadnbaaDoorText
import Derived.Test.YtegbenbhiadnbaaDoorCmp
namespace Go.Proofs.YtegbenbhiadnbaaDoor
open Go.RowKit Go.Sort
set_option maxRecDepth 100000
set_option maxHeartbeats 4000000

theorem str_cat (a b : List UInt8) : (⟨a.toArray⟩ ++ ⟨b.toArray⟩ : ByteArray) = ⟨(a ++ b).toArray⟩ := by
  apply ByteArray.ext
  simp [ByteArray.data_append]
theorem str_eta (p : ByteArray) : p = ⟨p.data.toList.toArray⟩ := by cases p; simp
theorem str_tail (c : UInt8) (B : List UInt8) (n : Nat) (h : B.length + 1 ≤ n) : (⟨(c :: B).toArray⟩ : ByteArray).extract 1 n = ⟨B.toArray⟩ := by
  apply ByteArray.ext
  simp [ByteArray.data_extract]
  first | omega | exact List.take_of_length_le (by omega)
def tailL (l : List Lb) : List UInt8 := l.flatMap fun y => 44 :: pieceT y
theorem tailL_snoc (l : List Lb) (x : Lb) : tailL (l ++ [x]) = tailL l ++ (44 :: pieceT x) := by simp [tailL]
theorem tailL_len (l : List Lb) : (tailL l).length ≤ szT l := by
  unfold tailL
  induction l with
  | nil => simp [szT]
  | cons y r ih =>
    rw [List.flatMap_cons, List.length_append, List.length_cons]
    have h1 := pieceT_len y
    have h2 : szT (y :: r) = y.1.size + 4 * y.2.size + 4 + szT r := rfl
    omega
theorem tailL_body {l : List Lb} (h : l ≠ []) : tailL l = 44 :: bodyL l := by
  cases l with
  | nil => exact absurd rfl h
  | cons x r => simp [tailL, bodyL]
theorem hasN_nm (p : ByteArray) : hasN [nmB] p = (p.toList == [95, 95, 110, 97, 109, 101, 95, 95]) := by
  have e : nmB.toList = [95, 95, 110, 97, 109, 101, 95, 95] := by decide +kernel
  simp [hasN, e]

end Go.Proofs.YtegbenbhiadnbaaDoor
