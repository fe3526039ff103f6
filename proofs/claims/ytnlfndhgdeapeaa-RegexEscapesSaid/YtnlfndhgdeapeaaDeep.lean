/- tooDeep. -/
import Derived.Test.YtnlfndhgdeapeaaGr
import Derived.Test.YtnlfndhgdeapeaaRdMath
namespace Go.Proofs.Ytnlfndhgdeapeaa
open Go.RowKit
set_option maxRecDepth 100000
set_option maxHeartbeats 2000000

/-- the first bracket that stands too deep -/
def tdS : List UInt8 → Nat → Nat → Bool → Option Nat
  | [], _, _, _ => none
  | c :: r, k, d, i =>
    if c = 92 then
      match r with
      | [] => none
      | _ :: r' => tdS r' (k + 2) d i
    else if i then tdS r (k + 1) d (decide (c ≠ 93))
    else if c = 91 then tdS r (k + 1) d true
    else if c = 40 then (if d = 40 then some k else tdS r (k + 1) (d + 1) i)
    else if c = 41 then tdS r (k + 1) (d - 1) i
    else tdS r (k + 1) d i
theorem tdS_nil {s : List UInt8} {k : Nat} (h : s.length ≤ k) (d : Nat) (i : Bool) : tdS (s.drop k) k d i = none := by rw [List.drop_of_length_le h]; rfl
theorem tdS_step {s : List UInt8} {k : Nat} (h : k < s.length) (d : Nat) (i : Bool) : tdS (s.drop k) k d i =
    (if s[k] = 92 then tdS (s.drop (k + 2)) (k + 2) d i
    else if i then tdS (s.drop (k + 1)) (k + 1) d (decide (s[k] ≠ 93))
    else if s[k] = 91 then tdS (s.drop (k + 1)) (k + 1) d true
    else if s[k] = 40 then (if d = 40 then some k else tdS (s.drop (k + 1)) (k + 1) (d + 1) i)
    else if s[k] = 41 then tdS (s.drop (k + 1)) (k + 1) (d - 1) i
    else tdS (s.drop (k + 1)) (k + 1) d i) := by
  rw [List.drop_eq_getElem_cons h]
  conv => lhs; unfold tdS
  by_cases e : s[k] = 92
  · rw [if_pos e, if_pos e]
    rcases Nat.lt_or_ge (k + 1) s.length with h2 | h2
    · rw [List.drop_eq_getElem_cons h2]
    · rw [List.drop_of_length_le h2, List.drop_of_length_le (by omega : s.length ≤ k + 2)]
      simp [tdS]
  · rw [if_neg e, if_neg e]
def tdV : Option Nat → Value
  | some k => .tuple #[.int .i64 k, .bool true]
  | none => .tuple #[.int .i64 0, .bool false]
theorem tooDeep_any (s : ByteArray) (w : World) (hs : s.size ≤ 1000000) :
    Calls Try.prog 22 #[.string s] w fun e w' => e = .returned (tdV (tdS s.data.toList 0 0 false)) ∧ Gr w w' := by
  have hlen : s.data.toList.length = s.size := by simp
  have HL := Lib.hid hlen
  clear hlen
  go_enter Try.func22, Try.ntmps22
  go_wp2
  go_loopw [4, 5, 6] (fun vd vi va wr => ∃ (d k : Nat) (i : Bool), vd = .int .i64 d ∧ vi = .bool i ∧ va = .int .i64 k ∧ d ≤ 40 ∧ k ≤ s.size + 1 ∧ Hid (tdS s.data.toList 0 0 false = tdS (s.data.toList.drop k) k d i) ∧ Gr w wr) (fun _ _ va _ => s.size + 1 - (intOf va).toNat)
  case atStart => exact ⟨0, 0, false, rfl, rfl, rfl, by omega, by omega, rfl, Gr.refl _⟩
  case round =>
    obtain ⟨d, k, i, rfl, rfl, rfl, hd, hk, HS, hg⟩ := hrel
    by_cases hlt : k < s.size
    · have hst := tdS_step (s := s.data.toList) (k := k) (by rw [HL.out]; exact hlt) d i
      have ge : s.data.toList[k]'(by rw [HL.out]; exact hlt) = s[k] := rfl
      rw [ge] at hst
      obtain ⟨c, hc⟩ : ∃ c, s[k] = c := ⟨_, rfl⟩
      have hcn : s[k].toNat = c.toNat := by rw [hc]
      rw [hc] at hst
      obtain ⟨m, hm⟩ : ∃ m, c.toNat = m := ⟨_, rfl⟩
      have hcm : ∀ x : UInt8, (c = x) ↔ m = x.toNat := fun x => by rw [← hm]; exact UInt8.toNat_inj.symm
      simp only [hcm, ne_eq, show UInt8.toNat 92 = 92 from rfl, show UInt8.toNat 93 = 93 from rfl, show UInt8.toNat 91 = 91 from rfl, show UInt8.toNat 40 = 40 from rfl, show UInt8.toNat 41 = 41 from rfl] at hst
      have n3 : (k : Int) < (s.size : Int) := by omega
      have HST := Lib.hid hst
      rw [hm] at hcn
      clear hst hc hm hcm ge c
      by_cases e92 : m = 92
      · subst e92
        have H : Hid (tdS s.data.toList 0 0 false = tdS (s.data.toList.drop (k + 2)) (k + 2) d i) := Lib.hid (by rw [HS.out, HST.out]; rfl)
        go_wp2
        go_roundw
        case rel => exact ⟨d, k + 2, i, rfl, rfl, by go_num, hd, by omega, H, hg⟩
        case measure => simp [intOf]; omega
      cases i
      case true =>
        have H : Hid (tdS s.data.toList 0 0 false = tdS (s.data.toList.drop (k + 1)) (k + 1) d (decide (¬ m = 93))) := Lib.hid (by rw [HS.out, HST.out, if_neg e92]; rfl)
        by_cases e93 : m = 93
        · subst e93
          go_wp2
          go_roundw
          case rel => exact ⟨d, k + 1, false, rfl, rfl, by go_num, hd, by omega, H, hg⟩
          case measure => simp [intOf]; omega
        · have d1 : ((m : Int) != 93) = true := by simp; omega
          have d2 : ((m : Int) == 92) = false := by simp; omega
          rw [decide_eq_true e93] at H
          go_wp2
          go_roundw
          case rel => exact ⟨d, k + 1, true, rfl, by first | rfl | simp [*], by go_num, hd, by omega, H, hg⟩
          case measure => simp [intOf]; omega
      have d2 : ((m : Int) == 92) = false := by simp; omega
      by_cases e91 : m = 91
      · subst e91
        have H : Hid (tdS s.data.toList 0 0 false = tdS (s.data.toList.drop (k + 1)) (k + 1) d true) := Lib.hid (by rw [HS.out, HST.out]; rfl)
        go_wp2
        go_roundw
        case rel => exact ⟨d, k + 1, true, rfl, rfl, by go_num, hd, by omega, H, hg⟩
        case measure => simp [intOf]; omega
      have d3 : ((m : Int) == 91) = false := by simp; omega
      by_cases e40 : m = 40
      · subst e40
        by_cases ed : d = 40
        · subst ed
          have H : Hid (tdS s.data.toList 0 0 false = some k) := Lib.hid (by rw [HS.out, HST.out]; rfl)
          go_wp2
          go_ret2
          exact ⟨by rw [H.out]; rfl, hg⟩
        · have H : Hid (tdS s.data.toList 0 0 false = tdS (s.data.toList.drop (k + 1)) (k + 1) (d + 1) false) := Lib.hid (by rw [HS.out, HST.out, if_neg e92, if_neg (by simp), if_neg e91, if_pos rfl, if_neg ed])
          have d4 : ((d : Int) == 40) = false := by simp; omega
          go_wp2
          go_roundw
          case rel => exact ⟨d + 1, k + 1, false, by go_num, rfl, by go_num, by omega, by omega, H, hg⟩
          case measure => simp [intOf]; omega
      have d5 : ((m : Int) == 40) = false := by simp; omega
      by_cases e41 : m = 41
      · subst e41
        have H : Hid (tdS s.data.toList 0 0 false = tdS (s.data.toList.drop (k + 1)) (k + 1) (d - 1) false) := Lib.hid (by rw [HS.out, HST.out]; rfl)
        have hmx : max ((d : Int) - 1) 0 = ((d - 1 : Nat) : Int) := by omega
        go_wp2
        go_roundw
        case rel => exact ⟨d - 1, k + 1, false, by first | go_num | (rw [hmx]) | (simp; omega), rfl, by go_num, by omega, by omega, H, hg⟩
        case measure => simp [intOf]; omega
      · have d6 : ((m : Int) == 41) = false := by simp; omega
        have H : Hid (tdS s.data.toList 0 0 false = tdS (s.data.toList.drop (k + 1)) (k + 1) d false) := Lib.hid (by rw [HS.out, HST.out, if_neg e92, if_neg (by simp), if_neg e91, if_neg e40, if_neg e41])
        go_wp2
        go_roundw
        case rel => exact ⟨d, k + 1, false, rfl, rfl, by go_num, hd, by omega, H, hg⟩
        case measure => simp [intOf]; omega
    · have H : Hid (tdS s.data.toList 0 0 false = none) := Lib.hid (by rw [HS.out, tdS_nil (by rw [HL.out]; omega)])
      have n4 : ¬ (k : Int) < (s.size : Int) := by omega
      go_wp2
      go_ret2
      exact ⟨by rw [H.out]; rfl, hg⟩
end Go.Proofs.Ytnlfndhgdeapeaa
