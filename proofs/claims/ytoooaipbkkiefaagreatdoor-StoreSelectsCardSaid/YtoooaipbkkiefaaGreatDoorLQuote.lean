/- Quote, the program's. -/
import Derived.Test.YtoooaipbkkiefaaGreatDoorBytes
import Derived.Test.YtoooaipbkkiefaaGreatDoorLLabs
namespace Go.Proofs.YtoooaipbkkiefaaGreatDoor
open Go.RowKit Go.Sort
set_option maxRecDepth 100000
set_option maxHeartbeats 4000000

def hexD (n : Nat) : UInt8 := UInt8.ofNat (if n < 10 then 48 + n else 87 + n)
def qB (c : UInt8) : List UInt8 := if c.toNat = 92 ∨ c.toNat = 34 then [92, c] else if prnI c.toNat then [c] else [92, 120, hexD (c.toNat / 16), hexD (c.toNat % 16)]
def quoteL (l : List UInt8) : List UInt8 := 34 :: (l.flatMap qB ++ [34])
theorem qB_len (c : UInt8) : 1 ≤ (qB c).length ∧ (qB c).length ≤ 4 := by
  unfold qB
  split
  · simp
  · split <;> simp
theorem qBs_len (l : List UInt8) : (l.flatMap qB).length ≤ 4 * l.length := by
  induction l with
  | nil => simp
  | cons c r ih => rw [List.flatMap_cons, List.length_append, List.length_cons]; have := qB_len c; omega
def hexT : ByteArray := ⟨#[48, 49, 50, 51, 52, 53, 54, 55, 56, 57, 97, 98, 99, 100, 101, 102]⟩
theorem hexT_at : ∀ q : Fin 16, hexT[q.val]'(by have := q.isLt; show q.val < 16; omega) = hexD q.val := by decide +kernel
theorem and15 : ∀ n : Fin 256, bits .and .u8 (n.val : Int) 15 = ((n.val % 16 : Nat) : Int) := by decide +kernel
theorem hex_cells (q r : Nat) (hq : q < hexT.size) (hr : r < hexT.size) (h1 : q < 16) (h2 : r < 16) : #[Value.int .u8 92, .int .u8 120, .int .u8 ((hexT[q]'hq).toNat : Int), .int .u8 ((hexT[r]'hr).toNat : Int)].toList = Lib.byteCells [92, 120, hexD q, hexD r] := by
  rw [hexT_at ⟨q, h1⟩, hexT_at ⟨r, h2⟩]; rfl
theorem take_byte (s : ByteArray) (k : Nat) (h : k < s.size) : s.data.toList.take (k + 1) = s.data.toList.take k ++ [s[k]] := by
  rw [List.take_succ_eq_append_getElem (by simpa using h)]; rfl
end Go.Proofs.YtoooaipbkkiefaaGreatDoor
