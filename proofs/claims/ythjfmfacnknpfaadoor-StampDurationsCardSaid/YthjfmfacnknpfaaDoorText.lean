/- Durations' texts: the reference's decimal. -/
import Derived.Test.YthjfmfacnknpfaaDoorRefMath
namespace Go.Proofs.YthjfmfacnknpfaaDoor
open Go.RowKit
set_option maxRecDepth 100000
set_option maxHeartbeats 1000000

def dch (m : Nat) : UInt8 := UInt8.ofNat (48 + m % 10)
theorem conv1 (W : World) (m : Nat) : (convert 57 9 (.slice (some ⟨W.heap.size, 0, none⟩) 1 1)).run Tryd.prog (W.alloc (.cells #[.int .u8 (48 + (m : Int) % 10)] 5)) = .ok (.string ⟨#[dch m]⟩) (W.alloc (.cells #[.int .u8 (48 + (m : Int) % 10)] 5)) := by
  have h := run_convert_bytes_arg (P := Tryd.prog) (W.alloc (.cells #[.int .u8 (48 + (m : Int) % 10)] 5)) 57 5 Tryd.underlying57 Tryd.underlying5 W.heap.size 0 1 1 [48 + (m : Int) % 10] rfl (fun i hi => by
    obtain rfl : i = 0 := by omega
    go_simp) 9 Tryd.underlying9
  have e : ((48 + (m : Int) % 10)).toNat = 48 + m % 10 := by omega
  have e2 : strOfNums [48 + (m : Int) % 10] = ⟨#[dch m]⟩ := by simp [strOfNums, dch, e]
  rw [h, e2]

/-- what holds at the loop's head: m: what is left; l: what is told -/
def DecR (n m : Nat) (l : List UInt8) : Prop := Lib.decDigits n = if m < 10 then l else Lib.decDigits (m / 10) ++ l
theorem DecR.start (n : Nat) : DecR n n [dch n] := by
  unfold DecR dch
  rw [Lib.decDigits]
  by_cases h : n < 10
  · rw [dif_pos h, if_pos h, Nat.mod_eq_of_lt h]
  · rw [dif_neg h, if_neg h]
theorem DecR.step {n m : Nat} {l : List UInt8} (h : DecR n m l) (hm : ¬ m < 10) : DecR n (m / 10) (dch (m / 10) :: l) := by
  unfold DecR at *
  rw [h, if_neg hm, Lib.decDigits]
  unfold dch
  by_cases h2 : m / 10 < 10
  · rw [dif_pos h2, if_pos h2, Nat.mod_eq_of_lt h2]; rfl
  · rw [dif_neg h2, if_neg h2]; simp
theorem DecR.done {n m : Nat} {l : List UInt8} (h : DecR n m l) (hm : m < 10) : Lib.decDigits n = l := by
  unfold DecR at h; rw [h, if_pos hm]

theorem str_cat (a b : List UInt8) : (⟨a.toArray⟩ ++ ⟨b.toArray⟩ : ByteArray) = ⟨(a ++ b).toArray⟩ := by
  apply ByteArray.ext
  simp
theorem str_eq {a b : ByteArray} (h : a = b) : Value.string a = .string b := by rw [h]

theorem decimal_any (n : Nat) (w : World) (hn : n ≤ 1125899906842624) :
    Calls Tryd.prog 39 #[.int .i64 n] w fun e w' => e = .returned (.string ⟨(Lib.decDigits n).toArray⟩) ∧ Gr w w' := by
  have hcv := conv1
  have h0 := DecR.start n
  go_enter Tryd.func39, Tryd.ntmps39
  go_wp2
  go_loopw [0, 3] (fun d s wr => ∃ m : Nat, ∃ l : List UInt8, d = .int .i64 m ∧ s = .string ⟨l.toArray⟩ ∧ m ≤ n ∧ l.length + m ≤ n + 1 ∧ DecR n m l ∧ Gr w wr) (fun d _ _ => (intOf d).toNat)
  case atStart => exact ⟨n, [dch n], rfl, rfl, Nat.le_refl _, by simp; omega, h0, (Gr.refl _).alloc _ _⟩
  case round =>
    obtain ⟨m, l, rfl, rfl, hm, hlen, hr, hg⟩ := hrel
    have HR := Lib.hid hr
    clear hr h0
    by_cases h10 : m < 10
    · have hd := HR.out.done h10
      have HD := Lib.hid hd; clear hd
      have h11 : ¬ (10 : Int) ≤ m := by omega
      go_wp2
      go_ret
      exact ⟨by rw [HD.out]; rfl, hg⟩
    · obtain ⟨q, hq, hq2⟩ : ∃ q : Nat, m / 10 = q ∧ (m : Int) / 10 = (q : Int) := ⟨_, rfl, by omega⟩
      have hs := HR.out.step h10
      rw [hq] at hs
      have HS := Lib.hid hs; have HQ := Lib.hid hq
      clear hs hq
      have h11 : (10 : Int) ≤ m := by omega
      have h12 : ¬ 9223372036854775807 < 1 + l.length := by omega
      go_wp2
      go_roundw
      case rel => exact ⟨q, dch q :: l, rfl, str_eq (str_cat [dch q] l), by have := HQ.out; omega, by have := HQ.out; simp; omega, HS.out, hg.alloc _ _⟩
      case measure => have := HQ.out; simp [intOf]; omega
end Go.Proofs.YthjfmfacnknpfaaDoor
