/- Get, Keep, Drop, the program's. -/
import Derived.Test.YtoooaipbkkiefaaGreatDoorLCmp
import Derived.Test.YtoooaipbkkiefaaGreatDoorBytes
import Derived.Test.YtoooaipbkkiefaaGreatDoorLLabs
import Derived.Deep.LoopGhost
namespace Go.Proofs.YtoooaipbkkiefaaGreatDoor
open Go.RowKit Go.Sort
set_option maxRecDepth 100000
set_option maxHeartbeats 4000000

/-! Get -/
def getL : List Lb → ByteArray → ByteArray
  | [], _ => ⟨#[]⟩
  | x :: r, n => if x.1.toList == n.toList then x.2 else getL r n
theorem getL_step {l : List Lb} {k : Nat} (h : k < l.length) (n : ByteArray) : getL (l.drop k) n = if (l[k]).1.toList == n.toList then (l[k]).2 else getL (l.drop (k + 1)) n := by
  rw [drop_lab h]; rfl
theorem get_any (A : Option Addr) (l : List Lb) (c : Nat) (n : ByteArray) (w : World) (h : LabsAt w A l) (hl : l.length ≤ 1099511627776) :
    Calls Tryz.prog 68 #[.slice A l.length c, .string n] w fun e w' => e = .returned (.string (getL l n)) ∧ Gr w w' := by
  have HL := Lib.hid h
  clear h
  go_enter Tryz.func68, Tryz.ntmps68
  go_wp2
  go_loopw [9] (fun i wr => ∃ k : Nat, k ≤ l.length ∧ i = .int .i64 k ∧ Hid (getL l n = getL (l.drop k) n) ∧ Gr w wr) (fun i _ => l.length - (intOf i).toNat)
  case atStart => exact ⟨0, Nat.zero_le _, rfl, rfl, Gr.refl _⟩
  case round =>
    obtain ⟨k, hk, rfl, HR, hg⟩ := hrel
    by_cases hlt : k < l.length
    · obtain ⟨b, o, rfl, c1, c2, -⟩ := (HL.out.gr hg).at_ hlt
      have HS := Lib.hid (getL_step hlt n)
      obtain ⟨x, hx⟩ : ∃ x, l[k] = x := ⟨_, rfl⟩
      rw [hx] at c1 c2 HS
      clear hx
      cases e1 : (x.1.toList == n.toList)
      · have HN : Hid (getL l n = getL (l.drop (k + 1)) n) := Lib.hid (by rw [HR.out, HS.out, e1]; rfl)
        go_wp2
        go_roundw
        case rel => exact ⟨k + 1, by omega, by go_num, HN, by go_simp; exact hg.alloc _ _⟩
        case measure => simp [intOf]; omega
      · have HN : Hid (getL l n = x.2) := Lib.hid (by rw [HR.out, HS.out, e1]; rfl)
        go_wp2
        go_ret
        exact ⟨by rw [HN.out]; rfl, by go_simp; exact hg.alloc _ _⟩
    · obtain rfl : k = l.length := by omega
      have HN : Hid (getL l n = ⟨#[]⟩) := Lib.hid (by rw [HR.out, List.drop_length]; rfl)
      go_wp2
      go_ret
      exact ⟨by rw [HN.out]; rfl, hg⟩

/-! a slice of texts -/
def StrsAt (W : World) (A : Option Addr) (l : List ByteArray) : Prop :=
  0 < l.length → ∃ b o, A = some ⟨b, o, none⟩ ∧ ∀ i x, l[i]? = some x → W.cell? ⟨b, o + i, none⟩ = some (.string x)
theorem StrsAt.gr {W W' : World} {A : Option Addr} {l : List ByteArray} (h : StrsAt W A l) (g : Gr W W') : StrsAt W' A l := fun h0 => by
  obtain ⟨b, o, e, hc⟩ := h h0
  exact ⟨b, o, e, fun i x hx => g.cell (hc i x hx)⟩
theorem StrsAt.at_ {W : World} {A : Option Addr} {l : List ByteArray} (h : StrsAt W A l) {k : Nat} (hk : k < l.length) :
    ∃ b o, A = some ⟨b, o, none⟩ ∧ W.cell? ⟨b, o + k, none⟩ = some (.string l[k]) := by
  obtain ⟨b, o, e, hc⟩ := h (by omega)
  exact ⟨b, o, e, hc k _ (List.getElem?_eq_getElem hk)⟩
theorem StrsAt.none_ (W : World) (A : Option Addr) : StrsAt W A [] := fun h => absurd h (by simp)
def hasN (ns : List ByteArray) (n : ByteArray) : Bool := ns.any fun m => n.toList == m.toList
theorem hasN_step {ns : List ByteArray} {k : Nat} (h : k < ns.length) (n : ByteArray) : hasN (ns.drop k) n = ((n.toList == ns[k].toList) || hasN (ns.drop (k + 1)) n) := by
  unfold hasN; rw [List.drop_eq_getElem_cons h]; rfl
def pickL (l : List Lb) (ns : List ByteArray) (am : Bool) : List Lb := l.filter fun x => hasN ns x.1 == am
theorem pickL_snoc (l : List Lb) (ns : List ByteArray) (am : Bool) (x : Lb) : pickL (l ++ [x]) ns am = if hasN ns x.1 == am then pickL l ns am ++ [x] else pickL l ns am := by
  unfold pickL
  rw [List.filter_append]
  cases h : (hasN ns x.1 == am)
  · simp [h]
  · simp [h]
theorem pickL_len (l : List Lb) (ns : List ByteArray) (am : Bool) : (pickL l ns am).length ≤ l.length := List.length_filter_le _ _

end Go.Proofs.YtoooaipbkkiefaaGreatDoor
