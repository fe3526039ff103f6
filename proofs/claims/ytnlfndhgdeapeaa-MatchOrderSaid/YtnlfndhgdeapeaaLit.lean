/- Literal, the program's. -/
import Derived.Test.YtnlfndhgdeapeaaEsc
import Derived.Test.YtnlfndhgdeapeaaLetter
import Derived.Deep.LoopGhost
namespace Go.Proofs.Ytnlfndhgdeapeaa
open Go.RowKit
set_option maxRecDepth 100000
set_option maxHeartbeats 2000000

/-- the bytes that may stand behind a stroke -/
def bsL : List UInt8 := [92, 46, 91, 93, 40, 41, 124, 42, 43, 63, 94, 36, 123, 125, 47, 45]
def litF (s : List UInt8) : Nat → Nat → List UInt8 → Option (List UInt8)
  | 0, _, _ => none
  | f + 1, k, out => if k < s.length then (if (letterS s spL bsL k).1 then litF s f (letterS s spL bsL k).2.2 (out ++ [(letterS s spL bsL k).2.1]) else none) else some out
theorem litF_s (s : List UInt8) (f k : Nat) (out : List UInt8) : litF s (f + 1) k out = if k < s.length then (if (letterS s spL bsL k).1 then litF s f (letterS s spL bsL k).2.2 (out ++ [(letterS s spL bsL k).2.1]) else none) else some out := rfl
def literalS (s : List UInt8) : Option (List UInt8) := litF s (s.length + 1) 0 []
theorem letter_on {s a b : List UInt8} {k : Nat} (h : (letterS s a b k).1 = true) : k < (letterS s a b k).2.2 := by
  unfold letterS at h ⊢
  cases hst : isAt s k 92
  · rw [hst] at h
    simp only [Bool.false_eq_true, if_false] at h ⊢
    cases e : s[k]? with
    | none => rw [e] at h; cases h
    | some c =>
      rw [e] at h
      simp only at h ⊢
      split at h
      · rename_i g; rw [if_pos g]; show k < k + 1; omega
      · cases h
  · rw [hst] at h
    simp only [if_true] at h ⊢
    cases e : s[k + 1]? with
    | none => rw [e] at h; cases h
    | some c =>
      rw [e] at h
      simp only at h ⊢
      split at h
      · rename_i g; rw [if_pos g]; show k < k + 1 + 1; omega
      · cases h
def litV : Option (List UInt8) → Value
  | some t => .tuple #[.string ⟨t.toArray⟩, .bool true]
  | none => .tuple #[.string ⟨#[]⟩, .bool false]
theorem OwnB.only {W W' : World} {B b : Nat} {v : Value} {l : List UInt8} (h : OwnB W B v l) (g : Only W W' b) (hb : b < B) : OwnB W' B v l :=
  World.ownsRow.kept h (row := some b) g (.inr fun e => by have := (h.lt e).1; omega)
theorem literal_any (s : ByteArray) (w : World) (hs : s.size ≤ 1000000) :
    Calls Try.prog 9 #[.string s] w fun e w' => e = .returned (litV (literalS s.data.toList)) ∧ Gr w w' := by
  have hlen : s.data.toList.length = s.size := by simp
  have HL := Lib.hid hlen
  clear hlen
  have CL := Lib.hid (fun (b k : Nat) W (h : Rd W b s k) (hk : k ≤ s.size) => letter_any b s ⟨#[92, 46, 91, 93, 40, 41, 124, 42, 43, 63]⟩ ⟨#[92, 46, 91, 93, 40, 41, 124, 42, 43, 63, 94, 36, 123, 125, 47, 45]⟩ k W h hk hs)
  go_enter Try.func9, Try.ntmps9
  go_wp2
  go_loopg [4] (s.size + 1) (fun g v wx => ∃ (k : Nat) (out : List UInt8), k ≤ s.size ∧ s.size + 1 ≤ k + g ∧ Hid (Rd wx w.heap.size s k) ∧ Hid (OwnB wx (w.heap.size + 1) v out) ∧ Hid (literalS s.data.toList = litF s.data.toList g k out) ∧ out.length ≤ k ∧ Gr w wx ∧ w.heap.size + 1 ≤ wx.heap.size)
  case atStart => exact ⟨0, [], Nat.zero_le _, by omega, heap_alloc_new w _, OwnB.nil _ _, Lib.hid (by unfold literalS; rw [HL.out]), Nat.le_refl _, (Gr.refl w).alloc _ _, by simp⟩
  case round =>
    obtain ⟨k, out, hk, hf, HR, HO, HS, hol, hg, hsz⟩ := hrel
    cases gk with
    | zero => omega
    | succ f =>
      obtain ⟨c0, c1, f0, f1⟩ := HR.out.facts
      by_cases hlt : k < s.size
      · have n3 : (k : Int) < (s.size : Int) := by omega
        have C1 := Lib.hid (CL.out w.heap.size k wr HR.out hk)
        have hle := letterS_le s.data.toList spL bsL k (by rw [HL.out]; exact hk)
        have hon := letter_on (s := s.data.toList) (a := spL) (b := bsL) (k := k)
        have hS : literalS s.data.toList = if (letterS s.data.toList spL bsL k).1 then litF s.data.toList f (letterS s.data.toList spL bsL k).2.2 (out ++ [(letterS s.data.toList spL bsL k).2.1]) else none := by
          rw [HS.out, litF_s, if_pos (by rw [HL.out]; exact hlt)]
        obtain ⟨r, hr⟩ : ∃ r, letterS s.data.toList spL bsL k = r := ⟨_, rfl⟩
        rw [HL.out] at hle
        rw [hr] at hle hon hS
        have C2 : Hid (Calls Try.prog 25 #[.pointer (some ⟨w.heap.size, 0, none⟩), .string ⟨#[92, 46, 91, 93, 40, 41, 124, 42, 43, 63]⟩, .string ⟨#[92, 46, 91, 93, 40, 41, 124, 42, 43, 63, 94, 36, 123, 125, 47, 45]⟩] wr (LetterPost w.heap.size s r wr)) := Lib.hid (by rw [← hr]; exact C1.out)
        have HS2 := Lib.hid hS
        clear hr hS C1
        obtain ⟨ok, c, k'⟩ := r
        simp only at hle hon
        cases ok
        · have H : Hid (literalS s.data.toList = none) := Lib.hid (by rw [HS2.out]; rfl)
          clear hon
          go_wp2_with fail
          refine C2.out.mono ?_
          rintro e w1 ⟨rfl, hr1, ho1⟩
          go_wp2
          go_ret2
          exact ⟨by rw [H.out]; rfl, hg.only ho1 (Nat.le_refl _)⟩
        · have H : Hid (literalS s.data.toList = litF s.data.toList f k' (out ++ [c])) := Lib.hid (by rw [HS2.out]; rfl)
          have hon' := hon rfl
          clear hon
          go_wp2_with fail
          refine C2.out.mono ?_
          rintro e w1 ⟨rfl, hr1, ho1⟩
          have HR1 := Lib.hid hr1
          have HO1 := Lib.hid (HO.out.only ho1 (Nat.lt_succ_self _))
          have hg1 := hg.only ho1 (Nat.le_refl _)
          have hsz1 := ho1.size
          clear hr1 ho1 c0 c1 f0 f1
          go_wp2_with (at_builtin; refine wpList_appB rfl rfl (.tmp 21) (.tmp 23) (by rfl) (by rfl) (B := w.heap.size + 1) (l := out) (m := [c]) (HO1.out.alloc _) (readsB_new _ _ [c] 1 rfl (by rfl)) (by simp) (by simp; omega) (by simp; omega) ?_; intro v2 W2 hown2 hbk2)
          go_roundg f
          case measure => omega
          case rel => exact ⟨k', out ++ [c], hle.1, by omega, Lib.hid (by have h := (hbk2.b.block w.heap.size (by omega)).trans ((HR1.out.gr ((Gr.refl w1).alloc _ _))); exact h), Lib.hid hown2, H, by simp; omega, ⟨(hg1.alloc _ _).b.trans (hbk2.b.mono (by omega))⟩, by have := hbk2.b.size; simp at this; omega⟩
      · obtain rfl : k = s.size := by omega
        have H : Hid (literalS s.data.toList = some out) := Lib.hid (by rw [HS.out, litF_s, if_neg (by rw [HL.out]; omega)])
        have hcv := conv_own HO.out
        go_wp2
        go_ret2
        exact ⟨by rw [H.out]; rfl, hg⟩
end Go.Proofs.Ytnlfndhgdeapeaa
