/- isAmong, take, letter. -/
import Derived.Test.YtnlfndhgdeapeaaGr
import Derived.Test.YtnlfndhgdeapeaaRdMath
import Derived.Test.YtnlfndhgdeapeaaShelf
namespace Go.Proofs.Ytnlfndhgdeapeaa
open Go.RowKit
set_option maxRecDepth 100000
set_option maxHeartbeats 2000000

theorem isAmong_any (s : ByteArray) (c : UInt8) (w : World) :
    Calls Try.prog 21 #[.string s, .int .u8 c.toNat] w fun e w' => e = .returned (.bool (amongB s.data.toList c)) ∧ w = w' := by
  have CI := Lib.hid (Try.strings_IndexByte s (c.toNat : Int) w)
  have H := Lib.hid (among_index s.data.toList c)
  have hc : ((c.toNat : Int)).toNat.toUInt8 = c := by simp
  rw [hc] at CI
  clear hc
  go_enter Try.func21, Try.ntmps21
  go_wp2_with fail
  refine CI.out.mono ?_
  rintro e w1 ⟨rfl, rfl⟩
  go_wp2
  go_ret
  exact ⟨by rw [← H.out]; rfl, rfl⟩
def TakePost (b : Nat) (s : ByteArray) (k : Nat) (c : UInt8) (w : World) (e : Ending) (w' : World) : Prop :=
  e = .returned (.bool (isAt s.data.toList k c)) ∧ Rd w' b s (if isAt s.data.toList k c then k + 1 else k) ∧ Only w w' b
theorem take_any (b : Nat) (s : ByteArray) (k : Nat) (c : UInt8) (w : World) (h : Rd w b s k) (hk : k ≤ s.size) (hs : s.size ≤ 1000000) :
    Calls Try.prog 42 #[.pointer (some ⟨b, 0, none⟩), .int .u8 c.toNat] w (TakePost b s k c w) := by
  obtain ⟨c0, c1, f0, f1⟩ := h.facts
  have HR := Lib.hid h
  clear h
  by_cases hlt : k < s.size
  · have hg : s.data.toList[k]? = some s[k] := by rw [List.getElem?_eq_getElem (by simpa using hlt)]; rfl
    have n1 : ¬ k = s.size := by omega
    have n2 : ((k : Int) == (s.size : Int)) = false := by simp; omega
    have n3 : (k : Int) < (s.size : Int) := by omega
    by_cases e : s[k] = c
    · have H : Hid (isAt s.data.toList k c = true) := Lib.hid (by unfold isAt; rw [hg, e]; simp)
      clear hg
      subst e
      go_enter Try.func42, Try.ntmps42
      go_wp2_with fail
      go_quiet (fail)
      go_wp2
      go_ret
      exact ⟨by rw [H.out]; rfl, by rw [H.out]; exact (HR.out.drewN _).set (k + 1), ((Only.refl w b).drewN _).setCell (by rfl) _⟩
    · have H : Hid (isAt s.data.toList k c = false) := Lib.hid (by unfold isAt; rw [hg]; simpa using e)
      have e2 : ((s[k].toNat : Int) != (c.toNat : Int)) = true := by simp; intro h; exact e (UInt8.toNat_inj.1 (by omega))
      have e3 : ¬ s[k].toNat = c.toNat := fun h => e (UInt8.toNat_inj.1 h)
      clear hg
      go_enter Try.func42, Try.ntmps42
      go_wp2_with fail
      go_quiet (fail)
      go_wp2
      go_ret
      exact ⟨by rw [H.out]; rfl, by rw [H.out]; exact HR.out.drewN _, (Only.refl w b).drewN _⟩
  · obtain rfl : k = s.size := by omega
    have H : Hid (isAt s.data.toList s.size c = false) := Lib.hid (by unfold isAt; rw [List.getElem?_eq_none (by simp)]; simp)
    go_enter Try.func42, Try.ntmps42
    go_wp2_with fail
    go_quiet (fail)
    go_wp2
    go_ret
    exact ⟨by rw [H.out]; rfl, by rw [H.out]; exact HR.out.drewN _, (Only.refl w b).drewN _⟩
end Go.Proofs.Ytnlfndhgdeapeaa
