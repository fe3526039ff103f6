/- Quote, the program's. -/
import Derived.Test.YtegbenbhiadnbaaDoorBytes
namespace Go.Proofs.YtegbenbhiadnbaaDoor
open Go.RowKit Go.Sort
set_option maxRecDepth 100000
set_option maxHeartbeats 4000000

def hexD (n : Nat) : UInt8 := UInt8.ofNat (if n < 10 then 48 + n else 87 + n)
def qB (c : UInt8) : List UInt8 := if c.toNat = 92 ∨ c.toNat = 34 then [92, c] else if prnI c.toNat then [c] else [92, 120, hexD (c.toNat / 16), hexD (c.toNat % 16)]
def quoteL (l : List UInt8) : List UInt8 := 34 :: (l.flatMap qB ++ [34])
theorem qB_len (c : UInt8) : 1 ≤ (qB c).length ∧ (qB c).length ≤ 4 := by
  unfold qB
  split
  · simp
  · split <;> simp
theorem qBs_len (l : List UInt8) : (l.flatMap qB).length ≤ 4 * l.length := by
  induction l with
  | nil => simp
  | cons c r ih => rw [List.flatMap_cons, List.length_append, List.length_cons]; have := qB_len c; omega
def hexT : ByteArray := ⟨#[48, 49, 50, 51, 52, 53, 54, 55, 56, 57, 97, 98, 99, 100, 101, 102]⟩
theorem hexT_at : ∀ q : Fin 16, hexT[q.val]'(by have := q.isLt; show q.val < 16; omega) = hexD q.val := by decide +kernel
theorem and15 : ∀ n : Fin 256, bits .and .u8 (n.val : Int) 15 = ((n.val % 16 : Nat) : Int) := by decide +kernel
theorem hex_cells (q r : Nat) (hq : q < hexT.size) (hr : r < hexT.size) (h1 : q < 16) (h2 : r < 16) : #[Value.int .u8 92, .int .u8 120, .int .u8 ((hexT[q]'hq).toNat : Int), .int .u8 ((hexT[r]'hr).toNat : Int)].toList = Lib.byteCells [92, 120, hexD q, hexD r] := by
  rw [hexT_at ⟨q, h1⟩, hexT_at ⟨r, h2⟩]; rfl
theorem take_byte (s : ByteArray) (k : Nat) (h : k < s.size) : s.data.toList.take (k + 1) = s.data.toList.take k ++ [s[k]] := by
  rw [List.take_succ_eq_append_getElem (by simpa using h)]; rfl
theorem appendQuoted_any (B : Nat) (v : Value) (bs : List UInt8) (s : ByteArray) (w : World) (h : OwnB w B v bs) (hB : B ≤ w.heap.size) (hn : bs.length + 4 * s.size + 2 ≤ 549755813888) :
    Calls Tryd.prog 49 #[v, .string s] w fun e w' => ∃ v', e = .returned v' ∧ OwnB w' B v' (bs ++ quoteL s.data.toList) ∧ Bk B w w' := by
  have HO := Lib.hid h
  clear h
  go_enter Tryd.func49, Tryd.ntmps49
  go_wp2_with (at_builtin; refine wpList_appB rfl rfl (.tmp 7) (.tmp 8) (by rfl) (by rfl) (B := B) (l := bs) (m := [34]) (HO.out.alloc _) (readsB_new w _ [34] 1 rfl (by rfl)) (by simp) (by simp; omega) (by simp; omega) ?_; intro v1 W1 hown1 hbk1)
  have HO1 := Lib.hid hown1
  have HK1 : Hid (Bk B w W1) := Lib.hid (((Bk.refl B w).alloc hB _ _).trans hbk1)
  have hB1 : B ≤ W1.heap.size := by have := HK1.out.b.size; omega
  clear hown1 hbk1 HO
  go_loopw [0, 12] (fun v i wr => ∃ k : Nat, k ≤ s.size ∧ i = .int .i64 k ∧ Hid (OwnB wr B v (bs ++ 34 :: (s.data.toList.take k).flatMap qB)) ∧ Bk B w wr) (fun _ i _ => s.size - (intOf i).toNat)
  case atStart => exact ⟨0, Nat.zero_le _, rfl, by simpa using HO1, HK1.out⟩
  case round =>
    clear HO1 HK1 hB1
    obtain ⟨k, hk, rfl, HO, hg⟩ := hrel
    have hBr : B ≤ wr.heap.size := by have := hg.b.size; omega
    by_cases hlt : k < s.size
    · have hts := take_byte s k hlt
      have HT : Hid (bs ++ 34 :: (s.data.toList.take (k + 1)).flatMap qB = bs ++ 34 :: (s.data.toList.take k).flatMap qB ++ qB s[k]) := Lib.hid (by rw [hts, List.flatMap_append]; simp)
      have hlen : (bs ++ 34 :: (s.data.toList.take k).flatMap qB).length ≤ 549755813888 := by
        have := qBs_len (s.data.toList.take k)
        simp at this ⊢
        omega
      clear hts
      generalize bs ++ 34 :: (s.data.toList.take k).flatMap qB = cur at *
      obtain ⟨c, hc⟩ : ∃ c, s[k] = c := ⟨_, rfl⟩
      rw [hc] at HT
      have hc256 := c.toNat_lt
      obtain ⟨n, hcn⟩ : ∃ n, c.toNat = n := ⟨_, rfl⟩
      have HC := Lib.hid hcn
      by_cases h1 : n = 92 ∨ n = 34
      · have HQB : Hid (qB c = [92, c]) := Lib.hid (by unfold qB; rw [hcn, if_pos h1])
        have key : ∀ m : Nat, n = m → ((m : Int) == 92) = true ∨ (((m : Int) == 92) = false ∧ ((m : Int) == 34) = true) := fun m hm => by
          simp; omega
        rcases key n rfl with g1 | ⟨g1, g2⟩
        all_goals
          clear h1 key
          go_wp2_with (at_builtin; refine wpList_appB rfl rfl (.tmp 34) (.tmp 36) (by rfl) (by rfl) (B := B) (l := cur) (m := [92, c]) (HO.out.alloc _) (readsB_new _ _ _ 2 rfl (by simp [Lib.byteCells, HC.out])) (by simp) (by simp; omega) (by simp; omega) ?_; intro v2 W2 hown2 hbk2)
          go_roundw
          case rel => exact ⟨k + 1, by omega, by go_num, Lib.hid (by rw [HT.out, HQB.out]; exact hown2), (hg.alloc hB _ _).trans hbk2⟩
          case measure => simp [intOf]; omega
      by_cases h2 : 32 ≤ n ∧ n < 127
      · have hp : prnI n = true := by unfold prnI; simp; omega
        have HQB : Hid (qB c = [c]) := Lib.hid (by unfold qB; rw [hcn, if_neg h1, hp]; rfl)
        have h92 : ((n : Int) == 92) = false := by simp; omega
        have h34 : ((n : Int) == 34) = false := by simp; omega
        clear h1 h2
        go_wp2_with (first | (go_at_call 62; refine (isPrinted_any _ _).mono ?_; rintro e w' ⟨rfl, rfl⟩) | (at_builtin; refine wpList_appB rfl rfl (.tmp 41) (.tmp 43) (by rfl) (by rfl) (B := B) (l := cur) (m := [c]) (HO.out.alloc _) (readsB_new _ _ _ 1 rfl (by simp [Lib.byteCells, HC.out])) (by simp) (by simp; omega) (by simp; omega) ?_; intro v2 W2 hown2 hbk2))
        go_roundw
        case rel => exact ⟨k + 1, by omega, by go_num, Lib.hid (by rw [HT.out, HQB.out]; exact hown2), (hg.alloc hB _ _).trans hbk2⟩
        case measure => simp [intOf]; omega
      · have hp : prnI n = false := by unfold prnI; simp; omega
        have h92 : ((n : Int) == 92) = false := by simp; omega
        have h34 : ((n : Int) == 34) = false := by simp; omega
        have HQB0 : Hid (qB c = [92, 120, hexD (n / 16), hexD (n % 16)]) := Lib.hid (by unfold qB; rw [hcn, if_neg h1, hp]; rfl)
        clear h1 h2
        go_wp2_with (go_at_call 62; refine (isPrinted_any _ _).mono ?_; rintro e w' ⟨rfl, rfl⟩)
        obtain ⟨q, hq⟩ : ∃ q, n / 16 = q := ⟨_, rfl⟩
        obtain ⟨r, hr⟩ : ∃ r, n % 16 = r := ⟨_, rfl⟩
        have hq1 : (n : Int) / 16 = (q : Int) := by omega
        have hr1 : bits .and .u8 (n : Int) 15 = (r : Int) := by rw [← hr]; exact and15 ⟨n, by omega⟩
        have q0 : (0 : Int) ≤ q := by omega
        have q1 : (q : Int) < 16 := by omega
        have r0 : (0 : Int) ≤ r := by omega
        have r1 : (r : Int) < 16 := by omega
        have HQ := Lib.hid hq; have HR := Lib.hid hr
        have HQB : Hid (qB c = [92, 120, hexD q, hexD r]) := Lib.hid (by rw [HQB0.out, hq, hr])
        clear hq hr
        go_region_law ((refine step_appB rfl (by rfl) (.tmp 18) (.tmp 25) (by rfl) (by rfl) (B := B) (l := cur) (m := [92, 120, hexD q, hexD r]) (HO.out.alloc _).drew (readsB_new _ _ _ 4 rfl ?_) (by simp) (by simp; omega) ?_ ?_
                        · exact hex_cells q r _ _ (by omega) (by omega)
                        · simp
                          omega
                        intro v2 W2 hown2 hbk2))
        all_goals
          go_wp2
          go_roundw
          case rel => exact ⟨k + 1, by omega, by go_num, Lib.hid (by rw [HT.out, HQB.out]; exact hown2), (hg.alloc hB _ _).drew.trans hbk2⟩
          case measure => simp [intOf]; omega
    · obtain rfl : k = s.size := by omega
      have hlen : (bs ++ 34 :: (s.data.toList.take s.size).flatMap qB).length ≤ 549755813888 := by
        have := qBs_len (s.data.toList.take s.size)
        simp at this ⊢
        omega
      have HT : Hid (bs ++ quoteL s.data.toList = bs ++ 34 :: (s.data.toList.take s.size).flatMap qB ++ [34]) := Lib.hid (by rw [List.take_of_length_le (by simp)]; simp [quoteL])
      generalize bs ++ 34 :: (s.data.toList.take s.size).flatMap qB = cur at *
      go_wp2_with (at_builtin; refine wpList_appB rfl rfl (.tmp 46) (.tmp 47) (by rfl) (by rfl) (B := B) (l := cur) (m := [34]) (HO.out.alloc _) (readsB_new _ _ _ 1 rfl (by rfl)) (by simp) (by simp; omega) (by simp; omega) ?_; intro v2 W2 hown2 hbk2)
      go_ret
      exact ⟨v2, rfl, by rw [HT.out]; exact hown2, (hg.alloc hB _ _).trans hbk2⟩

end Go.Proofs.YtegbenbhiadnbaaDoor
