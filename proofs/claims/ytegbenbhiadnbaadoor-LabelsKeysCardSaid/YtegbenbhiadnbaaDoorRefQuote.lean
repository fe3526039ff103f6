/- Quote, Get, digit, the reference's. -/
import Derived.Test.YtegbenbhiadnbaaDoorSpell
import Derived.Test.YtegbenbhiadnbaaDoorParts
namespace Go.Proofs.YtegbenbhiadnbaaDoor
open Go.RowKit Go.Sort
set_option maxRecDepth 100000
set_option maxHeartbeats 4000000

/-- a new row of bytes is the call's own -/
theorem own_lit (w : World) (bs : List UInt8) (n : Nat) (cs : Array Value) (hn : n = bs.length) (h : cs = (Lib.byteCells bs).toArray) (hm : n ≤ maxLen) : Hid (OwnB (w.alloc (.cells cs 5)) w.heap.size (.slice (some ⟨w.heap.size, 0, none⟩) n n) bs) := by
  subst h hn
  refine Lib.hid ⟨by simp [Lib.byteCells], .inr ⟨w.heap.size, bs.length, _, rfl, Nat.le_refl _, heap_alloc_new w _, Nat.le_refl _, hm, by simp [Lib.byteCells], ?_⟩⟩
  rw [List.take_of_length_le (by simp [Lib.byteCells])]
theorem rGet_any (A : Option Addr) (l : List Lb) (c : Nat) (n : ByteArray) (w : World) (h : LabsAt w A l) (hl : l.length ≤ 1099511627776) :
    Calls Tryd.prog 11 #[.slice A l.length c, .string n] w fun e w' => e = .returned (.string (getL l n)) ∧ Gr w w' := by
  have HL := Lib.hid h
  clear h
  go_enter Tryd.func11, Tryd.ntmps11
  go_wp2
  go_loopw [5] (fun i wr => ∃ k : Nat, k ≤ l.length ∧ i = .int .i64 k ∧ Hid (getL l n = getL (l.drop k) n) ∧ Gr w wr) (fun i _ => l.length - (intOf i).toNat)
  case atStart => exact ⟨0, Nat.zero_le _, rfl, rfl, Gr.refl _⟩
  case round =>
    obtain ⟨k, hk, rfl, HR, hg⟩ := hrel
    by_cases hlt : k < l.length
    · obtain ⟨b, o, rfl, c1, c2, -⟩ := (HL.out.gr hg).at_ hlt
      have HS := Lib.hid (getL_step hlt n)
      obtain ⟨x, hx⟩ : ∃ x, l[k] = x := ⟨_, rfl⟩
      rw [hx] at c1 c2 HS
      clear hx
      cases e1 : (x.1.toList == n.toList)
      · have HN : Hid (getL l n = getL (l.drop (k + 1)) n) := Lib.hid (by rw [HR.out, HS.out, e1]; rfl)
        go_wp2
        go_roundw
        case rel => exact ⟨k + 1, by omega, by go_num, HN, hg⟩
        case measure => simp [intOf]; omega
      · have HN : Hid (getL l n = x.2) := Lib.hid (by rw [HR.out, HS.out, e1]; rfl)
        go_wp2
        go_ret
        exact ⟨by rw [HN.out]; rfl, hg⟩
    · obtain rfl : k = l.length := by omega
      have HN : Hid (getL l n = ⟨#[]⟩) := Lib.hid (by rw [HR.out, List.drop_length]; rfl)
      go_wp2
      go_ret
      exact ⟨by rw [HN.out]; rfl, hg⟩
end Go.Proofs.YtegbenbhiadnbaaDoor
