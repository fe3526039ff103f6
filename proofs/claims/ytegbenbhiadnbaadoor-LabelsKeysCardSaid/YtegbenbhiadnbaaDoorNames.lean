/- names, of the laws; Group, the program's; With, the reference's. -/
import Derived.Test.YtegbenbhiadnbaaDoorRefParts
import Derived.Test.YtegbenbhiadnbaaDoorText
import Derived.Test.YtegbenbhiadnbaaDoorRefSet
namespace Go.Proofs.YtegbenbhiadnbaaDoor
open Go.RowKit Go.Sort
set_option maxRecDepth 100000
set_option maxHeartbeats 4000000

def nmsB (ns : List ByteArray) : Bool := ns.all fun x => decide (x.size ≤ 400)
theorem nms_not {ns : List ByteArray} {k : Nat} (h : k < ns.length) (g : 400 < (ns[k]).size) : nmsB ns = false := by
  unfold nmsB
  rw [List.all_eq_false]
  exact ⟨_, List.getElem_mem h, by simpa using g⟩
theorem nms_all {ns : List ByteArray} (h : ∀ i x, i < ns.length → ns[i]? = some x → x.size ≤ 400) : nmsB ns = true := by
  unfold nmsB
  rw [List.all_eq_true]
  intro x hx
  obtain ⟨i, hi, rfl⟩ := List.getElem_of_mem hx
  simpa using h i _ hi (List.getElem?_eq_getElem hi)
def nmsTo (ns : List ByteArray) (k : Nat) : Prop := ∀ i x, i < k → ns[i]? = some x → x.size ≤ 400
theorem nmsTo_s {ns : List ByteArray} {k : Nat} (hk : k < ns.length) (h : nmsTo ns k) (g : (ns[k]).size ≤ 400) : nmsTo ns (k + 1) := fun i x hi hx => by
  by_cases e : i = k
  · subst e; rw [List.getElem?_eq_getElem hk] at hx; cases hx; exact g
  · exact h i x (by omega) hx
theorem names_any (N : Option Addr) (ns : List ByteArray) (d : Nat) (w : World) (hs : StrsAt w N ns) (hw : ∀ x ∈ ns, x.size ≤ maxLen) (hl : ns.length ≤ 80) :
    Calls Tryd.prog 9 #[.slice N ns.length d] w fun e w' => e = .returned (.bool (nmsB ns)) ∧ w = w' := by
  have HS := Lib.hid hs; have HW := Lib.hid hw
  clear hs hw
  go_enter Tryd.func9, Tryd.ntmps9
  go_wp2
  go_loop [3] (fun i => ∃ k : Nat, k ≤ ns.length ∧ i = .int .i64 k ∧ Hid (nmsTo ns k)) (fun i => ns.length - (intOf i).toNat)
  case atStart => exact ⟨0, Nat.zero_le _, rfl, fun i x hi => absurd hi (by omega)⟩
  case round =>
    obtain ⟨k, hk, rfl, HU⟩ := hrel
    by_cases hlt : k < ns.length
    · obtain ⟨b, o, rfl, c1⟩ := HS.out.at_ hlt
      have hn := HW.out _ (List.getElem_mem hlt)
      unfold maxLen at hn
      have OUT := Lib.hid (nms_not hlt)
      have OUTY := Lib.hid (nmsTo_s hlt HU.out)
      obtain ⟨x, hx⟩ : ∃ x, ns[k] = x := ⟨_, rfl⟩
      rw [hx] at c1 hn OUT OUTY
      clear hx
      have f3 : (k : Int) ≤ 80 := by omega
      by_cases g1 : x.size ≤ 400
      · have HN := Lib.hid (OUTY.out g1)
        go_wp2
        go_round
        case rel => exact ⟨k + 1, by omega, by go_num, HN⟩
        case measure => simp [intOf]; omega
      · have HN := Lib.hid (OUT.out (by omega))
        go_wp2
        go_ret
        exact ⟨by rw [HN.out]; rfl, rfl⟩
    · obtain rfl : k = ns.length := by omega
      have HN := Lib.hid (nms_all HU.out)
      go_wp2
      go_ret
      exact ⟨by rw [HN.out]; first | rfl | (simp; omega), rfl⟩
theorem names_big (N : Option Addr) (ns : List ByteArray) (n d : Nat) (w : World) (hs : StrsAt w N ns) (hw : ∀ x ∈ ns, x.size ≤ maxLen) (hl : ns.length = 81) (hn : 80 < n) (hm : n ≤ maxLen) :
    Calls Tryd.prog 9 #[.slice N n d] w fun e w' => e = .returned (.bool false) ∧ w = w' := by
  have HS := Lib.hid hs; have HW := Lib.hid hw
  unfold maxLen at hm
  clear hs hw
  go_enter Tryd.func9, Tryd.ntmps9
  go_wp2
  go_loop [3] (fun i => ∃ k : Nat, k ≤ 81 ∧ i = .int .i64 k) (fun i => 81 - (intOf i).toNat)
  case atStart => exact ⟨0, Nat.zero_le _, rfl⟩
  case round =>
    obtain ⟨k, hk, rfl⟩ := hrel
    by_cases hlt : k < 81
    · obtain ⟨b, o, rfl, c1⟩ := HS.out.at_ (by omega : k < ns.length)
      have hx0 := HW.out _ (List.getElem_mem (by omega : k < ns.length))
      unfold maxLen at hx0
      obtain ⟨x, hx⟩ : ∃ x, ns[k]'(by omega) = x := ⟨_, rfl⟩
      rw [hx] at c1 hx0
      clear hx
      have f2 : (k : Int) < (n : Int) := by omega
      have f3 : (k : Int) ≤ 80 := by omega
      by_cases g1 : x.size ≤ 400
      · go_wp2
        go_round
        case rel => exact ⟨k + 1, by omega, by go_num⟩
        case measure => simp [intOf]; omega
      · go_wp2
        go_ret
        exact ⟨rfl, rfl⟩
    · obtain rfl : k = 81 := by omega
      have t1 : decide ((n : Int) ≤ 80) = false := by simp; omega
      by_cases e81 : 81 < n
      · go_wp2
        go_ret
        exact ⟨by first | rfl | (simp; omega), rfl⟩
      · go_wp2
        go_ret
        exact ⟨by first | rfl | (simp; omega), rfl⟩
end Go.Proofs.YtegbenbhiadnbaaDoor
