/- letter. -/
import Derived.Test.YtnlfndhgdeapeaaRead
namespace Go.Proofs.Ytnlfndhgdeapeaa
open Go.RowKit
set_option maxRecDepth 100000
set_option maxHeartbeats 2000000

def LetterPost (b : Nat) (s : ByteArray) (r : Bool × UInt8 × Nat) (w : World) (e : Ending) (w' : World) : Prop :=
  e = .returned (.tuple #[.int .u8 r.2.1.toNat, .bool r.1]) ∧ Rd w' b s r.2.2 ∧ Only w w' b
theorem letter_any (b : Nat) (s ba sk : ByteArray) (k : Nat) (w : World) (h : Rd w b s k) (hk : k ≤ s.size) (hs : s.size ≤ 1000000) :
    Calls Try.prog 25 #[.pointer (some ⟨b, 0, none⟩), .string ba, .string sk] w (LetterPost b s (letterS s.data.toList ba.data.toList sk.data.toList k) w) := by
  have CT := Lib.hid (take_any b s k 92 w h hk hs)
  have CA := Lib.hid (fun (x : ByteArray) (c : UInt8) W => isAmong_any x c W)
  have hlen : s.data.toList.length = s.size := by simp
  have hle : isAt s.data.toList k 92 = true → k < s.size := fun e => by
    have := (List.getElem?_eq_some_iff.1 (of_decide_eq_true e)).1
    omega
  obtain ⟨st, hst⟩ : ∃ st, isAt s.data.toList k 92 = st := ⟨_, rfl⟩
  obtain ⟨r, hr⟩ : ∃ r, letterS s.data.toList ba.data.toList sk.data.toList k = r := ⟨_, rfl⟩
  rw [hr]
  unfold letterS at hr
  unfold TakePost at CT
  rw [hst] at hr hle CT
  obtain ⟨k1, hk1⟩ : ∃ k1, (if st then k + 1 else k) = k1 := ⟨_, rfl⟩
  simp only [] at hr
  rw [hk1] at hr CT
  have hk1s : k1 ≤ s.size := by
    rw [← hk1]
    cases st
    · exact hk
    · exact hle rfl
  have HR := Lib.hid hr
  clear h hr hle hst hk1
  by_cases hlt : k1 < s.size
  · have hg : s.data.toList[k1]? = some s[k1] := by rw [List.getElem?_eq_getElem (by simpa using hlt)]; rfl
    have n1 : ¬ k1 = s.size := by omega
    have n3 : (k1 : Int) < (s.size : Int) := by omega
    obtain ⟨c, hc⟩ : ∃ c, s[k1] = c := ⟨_, rfl⟩
    rw [hc] at hg
    have HRR : Hid (r = if (if st then amongB sk.data.toList c else !amongB ba.data.toList c) then (true, c, k1 + 1) else (false, 0, k1)) := Lib.hid (by rw [← HR.out, hg])
    clear HR hg
    obtain ⟨a1, ha1⟩ : ∃ a1, amongB sk.data.toList c = a1 := ⟨_, rfl⟩
    obtain ⟨a2, ha2⟩ : ∃ a2, amongB ba.data.toList c = a2 := ⟨_, rfl⟩
    have CS := Lib.hid (fun W => CA.out sk c W)
    have CB := Lib.hid (fun W => CA.out ba c W)
    rw [ha1] at HRR CS
    rw [ha2] at HRR CB
    clear ha1 ha2 CA
    cases st
    · cases a2
      · have H : Hid (r = (true, c, k1 + 1)) := Lib.hid (by rw [HRR.out]; rfl)
        go_enter Try.func25, Try.ntmps25
        go_wp2_with fail
        refine CT.out.mono ?_
        rintro e w1 ⟨rfl, hr1, ho1⟩
        obtain ⟨c0, c1, f0, f1⟩ := hr1.facts
        have HR1 := Lib.hid hr1
        clear hr1
        go_wp2_with fail
        go_quiet (fail)
        go_wp2_with fail
        go_quiet (fail)
        go_wp2_with (go_at_call 21; refine (CB.out _).mono ?_; rintro e w' ⟨rfl, rfl⟩)
        go_ret2
        exact ⟨by rw [H.out]; rfl, by rw [H.out]; exact (HR1.out.drewN _).set (k1 + 1), (ho1.drewN _).setCell (by rfl) _⟩
      · have H : Hid (r = (false, 0, k1)) := Lib.hid (by rw [HRR.out]; rfl)
        go_enter Try.func25, Try.ntmps25
        go_wp2_with fail
        refine CT.out.mono ?_
        rintro e w1 ⟨rfl, hr1, ho1⟩
        obtain ⟨c0, c1, f0, f1⟩ := hr1.facts
        have HR1 := Lib.hid hr1
        clear hr1
        go_wp2_with fail
        go_quiet (fail)
        go_wp2_with fail
        go_quiet (fail)
        go_wp2_with (go_at_call 21; refine (CB.out _).mono ?_; rintro e w' ⟨rfl, rfl⟩)
        go_ret2
        exact ⟨by rw [H.out]; rfl, by rw [H.out]; exact HR1.out.drewN _, ho1.drewN _⟩
    · cases a1
      · have H : Hid (r = (false, 0, k1)) := Lib.hid (by rw [HRR.out]; rfl)
        go_enter Try.func25, Try.ntmps25
        go_wp2_with fail
        refine CT.out.mono ?_
        rintro e w1 ⟨rfl, hr1, ho1⟩
        obtain ⟨c0, c1, f0, f1⟩ := hr1.facts
        have HR1 := Lib.hid hr1
        clear hr1
        go_wp2_with fail
        go_quiet (fail)
        go_wp2_with fail
        go_quiet (fail)
        go_wp2_with (go_at_call 21; refine (CS.out _).mono ?_; rintro e w' ⟨rfl, rfl⟩)
        go_ret2
        exact ⟨by rw [H.out]; rfl, by rw [H.out]; exact HR1.out.drewN _, ho1.drewN _⟩
      · have H : Hid (r = (true, c, k1 + 1)) := Lib.hid (by rw [HRR.out]; rfl)
        go_enter Try.func25, Try.ntmps25
        go_wp2_with fail
        refine CT.out.mono ?_
        rintro e w1 ⟨rfl, hr1, ho1⟩
        obtain ⟨c0, c1, f0, f1⟩ := hr1.facts
        have HR1 := Lib.hid hr1
        clear hr1
        go_wp2_with fail
        go_quiet (fail)
        go_wp2_with fail
        go_quiet (fail)
        go_wp2_with (go_at_call 21; refine (CS.out _).mono ?_; rintro e w' ⟨rfl, rfl⟩)
        go_ret2
        exact ⟨by rw [H.out]; rfl, by rw [H.out]; exact (HR1.out.drewN _).set (k1 + 1), (ho1.drewN _).setCell (by rfl) _⟩
  · obtain rfl : k1 = s.size := by omega
    have H : Hid (r = (false, 0, s.size)) := Lib.hid (by rw [← HR.out, List.getElem?_eq_none (by simp)])
    clear HR
    cases st
    all_goals
      go_enter Try.func25, Try.ntmps25
      go_wp2_with fail
      refine CT.out.mono ?_
      rintro e w1 ⟨rfl, hr1, ho1⟩
      obtain ⟨c0, c1, f0, f1⟩ := hr1.facts
      have HR1 := Lib.hid hr1
      clear hr1
      go_wp2_with fail
      go_quiet (fail)
      go_wp2
      go_ret2
      exact ⟨by rw [H.out]; rfl, by rw [H.out]; exact HR1.out.drewN _, ho1.drewN _⟩
end Go.Proofs.Ytnlfndhgdeapeaa
