/- Escape, the program's. -/
import Derived.Test.YtnlfndhgdeapeaaBytes
import Derived.Test.YtnlfndhgdeapeaaRead
namespace Go.Proofs.Ytnlfndhgdeapeaa
open Go.RowKit
set_option maxRecDepth 100000
set_option maxHeartbeats 2000000

def spL : List UInt8 := [92, 46, 91, 93, 40, 41, 124, 42, 43, 63]
def escB (c : UInt8) : List UInt8 := if amongB spL c then [92, c] else [c]
def escS (s : List UInt8) : List UInt8 := s.flatMap escB
theorem escS_len (s : List UInt8) : (escS s).length ≤ 2 * s.length := by
  unfold escS
  induction s with
  | nil => simp
  | cons c r ih =>
    rw [List.flatMap_cons, List.length_append, List.length_cons]
    have : (escB c).length ≤ 2 := by unfold escB; split <;> simp
    omega
theorem escS_step {s : List UInt8} {k : Nat} (h : k < s.length) : escS (s.take (k + 1)) = escS (s.take k) ++ escB s[k] := by
  unfold escS
  rw [List.take_succ_eq_append_getElem h, List.flatMap_append]; simp
theorem escape_any (s : ByteArray) (w : World) (hs : s.size ≤ 1000000) :
    Calls Try.prog 7 #[.string s] w fun e w' => e = .returned (.string ⟨(escS s.data.toList).toArray⟩) ∧ Gr w w' := by
  have hlen : s.data.toList.length = s.size := by simp
  have HL := Lib.hid hlen
  clear hlen
  have CA := Lib.hid (fun (c : UInt8) W => isAmong_any ⟨#[92, 46, 91, 93, 40, 41, 124, 42, 43, 63]⟩ c W)
  go_enter Try.func7, Try.ntmps7
  go_wp2
  go_loopw [3, 7] (fun v i wr => ∃ k : Nat, k ≤ s.size ∧ i = .int .i64 k ∧ Hid (OwnB wr w.heap.size v (escS (s.data.toList.take k))) ∧ Hid (Gr w wr)) (fun _ i _ => s.size - (intOf i).toNat)
  case atStart => exact ⟨0, Nat.zero_le _, rfl, OwnB.nil _ _, Gr.refl _⟩
  case round =>
    obtain ⟨k, hk, rfl, HO, HG⟩ := hrel
    have hgs := HG.out.size
    by_cases hlt : k < s.size
    · have hst := escS_step (s := s.data.toList) (k := k) (by rw [HL.out]; exact hlt)
      have ge : s.data.toList[k]'(by rw [HL.out]; exact hlt) = s[k] := rfl
      rw [ge] at hst
      have hl := escS_len (s.data.toList.take k)
      have hl2 : (s.data.toList.take k).length ≤ s.size := by rw [List.length_take, HL.out]; omega
      obtain ⟨c, hc⟩ : ∃ c, s[k] = c := ⟨_, rfl⟩
      rw [hc] at hst
      have C1 := Lib.hid (fun W => CA.out c W)
      have n3 : (k : Int) < (s.size : Int) := by omega
      obtain ⟨a, ha⟩ : ∃ a, amongB spL c = a := ⟨_, rfl⟩
      have C2 : Hid (∀ W, Calls Try.prog 21 #[.string ⟨#[92, 46, 91, 93, 40, 41, 124, 42, 43, 63]⟩, .int .u8 c.toNat] W fun e w' => e = .returned (.bool a) ∧ W = w') := Lib.hid (by rw [← ha]; exact C1.out)
      have HST := Lib.hid hst
      obtain ⟨cur, hcur⟩ : ∃ cur, escS (s.data.toList.take k) = cur := ⟨_, rfl⟩
      rw [hcur] at HO HST hl
      unfold escB at HST
      rw [ha] at HST
      clear hst ha hcur ge C1
      cases a
      · have HST2 : Hid (escS (s.data.toList.take (k + 1)) = cur ++ [c]) := Lib.hid (by rw [HST.out]; rfl)
        go_wp2_with fail
        refine (C2.out _).mono ?_
        rintro e w1 ⟨rfl, rfl⟩
        go_wp2_with (at_builtin; refine wpList_appB rfl rfl (.tmp 17) (.tmp 21) (by rfl) (by rfl) (B := w.heap.size) (l := cur) (m := [c]) (HO.out.alloc _) (readsB_new _ _ [c] 1 rfl (by rfl)) (by simp) (by simp; omega) (by simp; omega) ?_; intro v2 W2 hown2 hbk2)
        go_roundw
        case rel => exact ⟨k + 1, by omega, by go_num, Lib.hid (by rw [HST2.out]; exact hown2), Lib.hid ⟨((HG.out.alloc _ _).b).trans (hbk2.b.mono (Nat.le_refl _))⟩⟩
        case measure => simp [intOf]; omega
      · have HST2 : Hid (escS (s.data.toList.take (k + 1)) = cur ++ [92] ++ [c]) := Lib.hid (by rw [HST.out]; simp)
        go_wp2_with fail
        refine (C2.out _).mono ?_
        rintro e w1 ⟨rfl, rfl⟩
        go_wp2_with (first
          | (have tok := hown2; clear tok; at_builtin; refine wpList_appB rfl rfl (.tmp 17) (.tmp 21) (by rfl) (by rfl) (B := w.heap.size) (l := cur ++ [92]) (m := [c]) (hown2.alloc _) (readsB_new _ _ [c] 1 rfl (by rfl)) (by simp) (by simp; omega) (by have := hbk2.b.size; simp at this ⊢; omega) ?_; intro v3 W3 hown3 hbk3)
          | (at_builtin; refine wpList_appB rfl rfl (.tmp 14) (.tmp 15) (by rfl) (by rfl) (B := w.heap.size) (l := cur) (m := [92]) (HO.out.alloc _) (readsB_new _ _ [92] 1 rfl (by rfl)) (by simp) (by simp; omega) (by simp; omega) ?_; intro v2 W2 hown2 hbk2))
        go_roundw
        case rel => exact ⟨k + 1, by omega, by go_num, Lib.hid (by rw [HST2.out]; exact hown3), Lib.hid ⟨((((HG.out.alloc _ _).b).trans hbk2.b).alloc (by have := hbk2.b.size; simp at this; omega) _).trans hbk3.b⟩⟩
        case measure => simp [intOf]; omega
    · obtain rfl : k = s.size := by omega
      have HE : Hid (OwnB wr w.heap.size u3 (escS s.data.toList)) := Lib.hid (by have := HO.out; rwa [List.take_of_length_le (by rw [HL.out]; exact Nat.le_refl _)] at this)
      have hcv := conv_own HE.out
      clear HO
      go_wp2
      go_ret
      exact ⟨rfl, HG.out⟩
end Go.Proofs.Ytnlfndhgdeapeaa
