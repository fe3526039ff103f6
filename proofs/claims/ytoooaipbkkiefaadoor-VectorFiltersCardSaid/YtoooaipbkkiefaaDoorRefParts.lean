/- Has, Keep, Drop, the reference's. -/
import Derived.Test.YtoooaipbkkiefaaDoorParts
import Derived.Test.YtoooaipbkkiefaaDoorCmp
namespace Go.Proofs.YtoooaipbkkiefaaDoor
open Go.RowKit Go.Sort
set_option maxRecDepth 100000
set_option maxHeartbeats 4000000

theorem hasN_step2 {ns : List ByteArray} {k : Nat} (h : k < ns.length) (n : ByteArray) : hasN (ns.drop k) n = ((ns[k].toList == n.toList) || hasN (ns.drop (k + 1)) n) := by
  rw [hasN_step h, Bool.beq_comm]
theorem rHas_any (N : Option Addr) (ns : List ByteArray) (d : Nat) (n : ByteArray) (w : World) (hs : StrsAt w N ns) (hn : ns.length ≤ 1099511627776) :
    Calls Tryd.prog 97 #[.slice N ns.length d, .string n] w fun e w' => e = .returned (.bool (hasN ns n)) ∧ Gr w w' := by
  have HS := Lib.hid hs
  clear hs
  go_enter Tryd.func97, Tryd.ntmps97
  go_wp2
  go_loopw [5] (fun i wr => ∃ k : Nat, k ≤ ns.length ∧ i = .int .i64 k ∧ Hid (hasN ns n = hasN (ns.drop k) n) ∧ Gr w wr) (fun i _ => ns.length - (intOf i).toNat)
  case atStart => exact ⟨0, Nat.zero_le _, rfl, rfl, Gr.refl _⟩
  case round =>
    obtain ⟨k, hk, rfl, HR, hg⟩ := hrel
    by_cases hlt : k < ns.length
    · obtain ⟨b, o, rfl, c1⟩ := (HS.out.gr hg).at_ hlt
      have HST := Lib.hid (hasN_step2 hlt n)
      obtain ⟨m, hm⟩ : ∃ m, ns[k] = m := ⟨_, rfl⟩
      rw [hm] at c1 HST
      clear hm
      cases e1 : (m.toList == n.toList)
      · have HN : Hid (hasN ns n = hasN (ns.drop (k + 1)) n) := Lib.hid (by rw [HR.out, HST.out, e1]; rfl)
        go_wp2
        go_roundw
        case rel => exact ⟨k + 1, by omega, by go_num, HN, hg⟩
        case measure => simp [intOf]; omega
      · have HN : Hid (hasN ns n = true) := Lib.hid (by rw [HR.out, HST.out, e1]; rfl)
        go_wp2
        go_ret
        exact ⟨by rw [HN.out]; rfl, hg⟩
    · obtain rfl : k = ns.length := by omega
      have HN : Hid (hasN ns n = false) := Lib.hid (by rw [HR.out, List.drop_length]; rfl)
      go_wp2
      go_ret
      exact ⟨by rw [HN.out]; rfl, hg⟩
theorem rDrop_any (A N : Option Addr) (l : List Lb) (ns : List ByteArray) (c d : Nat) (w : World) (h : LabsAt w A l) (hs : StrsAt w N ns) (hl : l.length ≤ 549755813888) (hn : ns.length ≤ 1099511627776) :
    Calls Tryd.prog 76 #[.slice A l.length c, .slice N ns.length d] w fun e w' => ∃ v, e = .returned v ∧ Own w' w.heap.size v (pickL l ns false) ∧ Gr w w' := by
  have HL := Lib.hid h
  have CH := Lib.hid (fun n W (g : Gr w W) => rHas_any N ns d n W (hs.gr g) hn)
  clear h hs
  go_enter Tryd.func76, Tryd.ntmps76
  go_wp2
  go_loopw [5, 6] (fun v i wr => ∃ k : Nat, k ≤ l.length ∧ i = .int .i64 k ∧ Hid (Own wr w.heap.size v (pickL (l.take k) ns false)) ∧ Gr w wr) (fun _ i _ => l.length - (intOf i).toNat)
  case atStart => exact ⟨0, Nat.zero_le _, rfl, Own.nil _ _, Gr.refl _⟩
  case round =>
    obtain ⟨k, hk, rfl, HO, hg⟩ := hrel
    have hgs := hg.size
    by_cases hlt : k < l.length
    · obtain ⟨b, o, rfl, c1, c2, -⟩ := (HL.out.gr hg).at_ hlt
      obtain ⟨x, hx⟩ : ∃ x, l[k] = x := ⟨_, rfl⟩
      have HT : Hid (pickL (l.take (k + 1)) ns false = if hasN ns x.1 == false then pickL (l.take k) ns false ++ [x] else pickL (l.take k) ns false) := Lib.hid (by rw [List.take_succ_eq_append_getElem hlt, hx, pickL_snoc])
      have hpl : (pickL (l.take k) ns false).length ≤ l.length := by have := pickL_len (l.take k) ns false; have h2 : (l.take k).length ≤ l.length := (by simp; omega); omega
      rw [hx] at c1 c2
      clear hx
      obtain ⟨p, q⟩ := x
      simp only at c1 c2 HT
      have f4 : (k : Int) < (l.length : Int) := by omega
      have f5 : (0 : Int) ≤ k := by omega
      have C1 := Lib.hid (CH.out p)
      obtain ⟨hb, hhb⟩ : ∃ hb, hasN ns p = hb := ⟨_, rfl⟩
      rw [hhb] at C1 HT
      clear hhb
      go_wp2_with fail
      refine (C1.out _ hg).mono ?_
      rintro e w1 ⟨rfl, g1⟩
      have HO1 := Lib.hid (HO.out.gr g1)
      have hg1 := hg.trans g1
      have c1' := g1.cell c1
      have c2' := g1.cell c2
      have hs1 : w.heap.size ≤ w1.heap.size := hg1.size
      clear g1 c1 c2 HO
      cases hb
      · have HN : Hid (pickL (l.take (k + 1)) ns false = pickL (l.take k) ns false ++ [(p, q)]) := Lib.hid (by rw [HT.out]; rfl)
        go_wp2_with (at_builtin; refine wpList_app rfl rfl (.tmp 21) (.tmp 26) (by rfl) (by rfl) (B := w.heap.size) (l := pickL (l.take k) ns false) (m := [(p, q)]) (HO1.out.alloc _) (reads_new w1 (p, q)) (by simp; omega) (by simp; omega) ?_; intro v3 W3 hown3 hbel3 hgrow3 hat3)
        go_roundw
        case rel => exact ⟨k + 1, by omega, by go_num, Lib.hid (by rw [HN.out]; exact hown3), (hg1.alloc _ _).below hbel3 (Nat.le_refl _)⟩
        case measure => simp [intOf]; omega
      · have HN : Hid (pickL (l.take (k + 1)) ns false = pickL (l.take k) ns false) := Lib.hid (by rw [HT.out]; rfl)
        go_wp2
        go_roundw
        case rel => exact ⟨k + 1, by omega, by go_num, Lib.hid (by rw [HN.out]; exact HO1.out), hg1⟩
        case measure => simp [intOf]; omega
    · obtain rfl : k = l.length := by omega
      have HE : Hid (l.take l.length = l) := Lib.hid (List.take_length ..)
      go_wp2
      go_ret
      exact ⟨_, rfl, by have := HO.out; rwa [HE.out] at this, hg⟩
end Go.Proofs.YtoooaipbkkiefaaDoor
