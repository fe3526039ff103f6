/- Quote, Get, digit, the reference's. -/
import Derived.Test.YtnlfndhgdeapeaaBytes
import Derived.Test.YtnlfndhgdeapeaaLLabs
import Derived.Lib.IndexEntry
import Derived.Test.YtnlfndhgdeapeaaMMat
namespace Go.Proofs.Ytnlfndhgdeapeaa
open Go.RowKit Go.Sort
set_option maxRecDepth 100000
set_option maxHeartbeats 4000000

def hexD (n : Nat) : UInt8 := UInt8.ofNat (if n < 10 then 48 + n else 87 + n)
def qB (c : UInt8) : List UInt8 := if c.toNat = 92 ∨ c.toNat = 34 then [92, c] else if prnI c.toNat then [c] else [92, 120, hexD (c.toNat / 16), hexD (c.toNat % 16)]
def quoteL (l : List UInt8) : List UInt8 := 34 :: (l.flatMap qB ++ [34])
theorem qB_len (c : UInt8) : 1 ≤ (qB c).length ∧ (qB c).length ≤ 4 := by
  unfold qB
  split
  · simp
  · split <;> simp
theorem qBs_len (l : List UInt8) : (l.flatMap qB).length ≤ 4 * l.length := by
  induction l with
  | nil => simp
  | cons c r ih => rw [List.flatMap_cons, List.length_append, List.length_cons]; have := qB_len c; omega
def hexT : ByteArray := ⟨#[48, 49, 50, 51, 52, 53, 54, 55, 56, 57, 97, 98, 99, 100, 101, 102]⟩
theorem hexT_at : ∀ q : Fin 16, hexT[q.val]'(by have := q.isLt; show q.val < 16; omega) = hexD q.val := by decide +kernel
theorem and15 : ∀ n : Fin 256, bits .and .u8 (n.val : Int) 15 = ((n.val % 16 : Nat) : Int) := by decide +kernel
theorem hex_cells (q r : Nat) (hq : q < hexT.size) (hr : r < hexT.size) (h1 : q < 16) (h2 : r < 16) : #[Value.int .u8 92, .int .u8 120, .int .u8 ((hexT[q]'hq).toNat : Int), .int .u8 ((hexT[r]'hr).toNat : Int)].toList = Lib.byteCells [92, 120, hexD q, hexD r] := by
  rw [hexT_at ⟨q, h1⟩, hexT_at ⟨r, h2⟩]; rfl
theorem take_byte (s : ByteArray) (k : Nat) (h : k < s.size) : s.data.toList.take (k + 1) = s.data.toList.take k ++ [s[k]] := by
  rw [List.take_succ_eq_append_getElem (by simpa using h)]; rfl
theorem appendQuoted_any (B : Nat) (v : Value) (bs : List UInt8) (s : ByteArray) (w : World) (h : OwnB w B v bs) (hB : B ≤ w.heap.size) (hn : bs.length + 4 * s.size + 2 ≤ 549755813888) :
    Calls Try.prog 49 #[v, .string s] w fun e w' => ∃ v', e = .returned v' ∧ OwnB w' B v' (bs ++ quoteL s.data.toList) ∧ Bk B w w' := by
  have HO := Lib.hid h
  clear h
  go_enter Try.func49, Try.ntmps49
  go_wp2_with (at_builtin; refine wpList_appB rfl rfl (.tmp 7) (.tmp 8) (by rfl) (by rfl) (B := B) (l := bs) (m := [34]) (HO.out.alloc _) (readsB_new w _ [34] 1 rfl (by rfl)) (by simp) (by simp; omega) (by simp; omega) ?_; intro v1 W1 hown1 hbk1)
  have HO1 := Lib.hid hown1
  have HK1 : Hid (Bk B w W1) := Lib.hid (((Bk.refl B w).alloc hB _ _).trans hbk1)
  have hB1 : B ≤ W1.heap.size := by have := HK1.out.b.size; omega
  clear hown1 hbk1 HO
  go_loopw [0, 12] (fun v i wr => ∃ k : Nat, k ≤ s.size ∧ i = .int .i64 k ∧ Hid (OwnB wr B v (bs ++ 34 :: (s.data.toList.take k).flatMap qB)) ∧ Bk B w wr) (fun _ i _ => s.size - (intOf i).toNat)
  case atStart => exact ⟨0, Nat.zero_le _, rfl, by simpa using HO1, HK1.out⟩
  case round =>
    clear HO1 HK1 hB1
    obtain ⟨k, hk, rfl, HO, hg⟩ := hrel
    have hBr : B ≤ wr.heap.size := by have := hg.b.size; omega
    by_cases hlt : k < s.size
    · have hts := take_byte s k hlt
      have HT : Hid (bs ++ 34 :: (s.data.toList.take (k + 1)).flatMap qB = bs ++ 34 :: (s.data.toList.take k).flatMap qB ++ qB s[k]) := Lib.hid (by rw [hts, List.flatMap_append]; simp)
      have hlen : (bs ++ 34 :: (s.data.toList.take k).flatMap qB).length ≤ 549755813888 := by
        have := qBs_len (s.data.toList.take k)
        simp at this ⊢
        omega
      clear hts
      generalize bs ++ 34 :: (s.data.toList.take k).flatMap qB = cur at *
      obtain ⟨c, hc⟩ : ∃ c, s[k] = c := ⟨_, rfl⟩
      rw [hc] at HT
      have hc256 := c.toNat_lt
      obtain ⟨n, hcn⟩ : ∃ n, c.toNat = n := ⟨_, rfl⟩
      have HC := Lib.hid hcn
      by_cases h1 : n = 92 ∨ n = 34
      · have HQB : Hid (qB c = [92, c]) := Lib.hid (by unfold qB; rw [hcn, if_pos h1])
        have key : ∀ m : Nat, n = m → ((m : Int) == 92) = true ∨ (((m : Int) == 92) = false ∧ ((m : Int) == 34) = true) := fun m hm => by
          simp; omega
        rcases key n rfl with g1 | ⟨g1, g2⟩
        all_goals
          clear h1 key
          go_wp2_with (at_builtin; refine wpList_appB rfl rfl (.tmp 34) (.tmp 36) (by rfl) (by rfl) (B := B) (l := cur) (m := [92, c]) (HO.out.alloc _) (readsB_new _ _ _ 2 rfl (by simp [Lib.byteCells, HC.out])) (by simp) (by simp; omega) (by simp; omega) ?_; intro v2 W2 hown2 hbk2)
          go_roundw
          case rel => exact ⟨k + 1, by omega, by go_num, Lib.hid (by rw [HT.out, HQB.out]; exact hown2), (hg.alloc hB _ _).trans hbk2⟩
          case measure => simp [intOf]; omega
      by_cases h2 : 32 ≤ n ∧ n < 127
      · have hp : prnI n = true := by unfold prnI; simp; omega
        have HQB : Hid (qB c = [c]) := Lib.hid (by unfold qB; rw [hcn, if_neg h1, hp]; rfl)
        have h92 : ((n : Int) == 92) = false := by simp; omega
        have h34 : ((n : Int) == 34) = false := by simp; omega
        clear h1 h2
        go_wp2_with (first | (go_at_call 61; refine (isPrinted_any _ _).mono ?_; rintro e w' ⟨rfl, rfl⟩) | (at_builtin; refine wpList_appB rfl rfl (.tmp 41) (.tmp 43) (by rfl) (by rfl) (B := B) (l := cur) (m := [c]) (HO.out.alloc _) (readsB_new _ _ _ 1 rfl (by simp [Lib.byteCells, HC.out])) (by simp) (by simp; omega) (by simp; omega) ?_; intro v2 W2 hown2 hbk2))
        go_roundw
        case rel => exact ⟨k + 1, by omega, by go_num, Lib.hid (by rw [HT.out, HQB.out]; exact hown2), (hg.alloc hB _ _).trans hbk2⟩
        case measure => simp [intOf]; omega
      · have hp : prnI n = false := by unfold prnI; simp; omega
        have h92 : ((n : Int) == 92) = false := by simp; omega
        have h34 : ((n : Int) == 34) = false := by simp; omega
        have HQB0 : Hid (qB c = [92, 120, hexD (n / 16), hexD (n % 16)]) := Lib.hid (by unfold qB; rw [hcn, if_neg h1, hp]; rfl)
        clear h1 h2
        go_wp2_with (go_at_call 61; refine (isPrinted_any _ _).mono ?_; rintro e w' ⟨rfl, rfl⟩)
        obtain ⟨q, hq⟩ : ∃ q, n / 16 = q := ⟨_, rfl⟩
        obtain ⟨r, hr⟩ : ∃ r, n % 16 = r := ⟨_, rfl⟩
        have hq1 : (n : Int) / 16 = (q : Int) := by omega
        have hr1 : bits .and .u8 (n : Int) 15 = (r : Int) := by rw [← hr]; exact and15 ⟨n, by omega⟩
        have q0 : (0 : Int) ≤ q := by omega
        have q1 : (q : Int) < 16 := by omega
        have r0 : (0 : Int) ≤ r := by omega
        have r1 : (r : Int) < 16 := by omega
        have HQ := Lib.hid hq; have HR := Lib.hid hr
        have HQB : Hid (qB c = [92, 120, hexD q, hexD r]) := Lib.hid (by rw [HQB0.out, hq, hr])
        clear hq hr
        go_region_law ((refine step_appB rfl (by rfl) (.tmp 18) (.tmp 25) (by rfl) (by rfl) (B := B) (l := cur) (m := [92, 120, hexD q, hexD r]) (HO.out.alloc _).drew (readsB_new _ _ _ 4 rfl ?_) (by simp) (by simp; omega) ?_ ?_
                        · exact hex_cells q r _ _ (by omega) (by omega)
                        · simp
                          omega
                        intro v2 W2 hown2 hbk2))
        all_goals
          go_wp2
          go_roundw
          case rel => exact ⟨k + 1, by omega, by go_num, Lib.hid (by rw [HT.out, HQB.out]; exact hown2), (hg.alloc hB _ _).drew.trans hbk2⟩
          case measure => simp [intOf]; omega
    · obtain rfl : k = s.size := by omega
      have hlen : (bs ++ 34 :: (s.data.toList.take s.size).flatMap qB).length ≤ 549755813888 := by
        have := qBs_len (s.data.toList.take s.size)
        simp at this ⊢
        omega
      have HT : Hid (bs ++ quoteL s.data.toList = bs ++ 34 :: (s.data.toList.take s.size).flatMap qB ++ [34]) := Lib.hid (by rw [List.take_of_length_le (by simp)]; simp [quoteL])
      generalize bs ++ 34 :: (s.data.toList.take s.size).flatMap qB = cur at *
      go_wp2_with (at_builtin; refine wpList_appB rfl rfl (.tmp 46) (.tmp 47) (by rfl) (by rfl) (B := B) (l := cur) (m := [34]) (HO.out.alloc _) (readsB_new _ _ _ 1 rfl (by rfl)) (by simp) (by simp; omega) (by simp; omega) ?_; intro v2 W2 hown2 hbk2)
      go_ret
      exact ⟨v2, rfl, by rw [HT.out]; exact hown2, (hg.alloc hB _ _).trans hbk2⟩

theorem quote_any (s : ByteArray) (w : World) (hn : 4 * s.size + 2 ≤ 549755813888) :
    Calls Try.prog 33 #[.string s] w fun e w' => e = .returned (.string ⟨(quoteL s.data.toList).toArray⟩) ∧ Gr w w' := by
  have CQ := Lib.hid (appendQuoted_any w.heap.size (.slice none 0 0) [] s w (OwnB.nil _ _) (Nat.le_refl _) (by simpa using hn))
  go_enter Try.func33, Try.ntmps33
  go_wp2_with fail
  refine CQ.out.mono ?_
  rintro e w1 ⟨v1, rfl, hown, hbk⟩
  have hcv := conv_own hown
  rw [List.nil_append] at hcv
  clear hown
  go_wp2
  go_ret
  exact ⟨rfl, hbk.gr⟩
end Go.Proofs.Ytnlfndhgdeapeaa
namespace Go.Proofs.Ytnlfndhgdeapeaa
open Go.RowKit Go.Sort
set_option maxRecDepth 100000
set_option maxHeartbeats 2000000

def hexV (c : Nat) : Int := if 48 ≤ c ∧ c ≤ 57 then (c : Int) - 48 else if 97 ≤ c ∧ c ≤ 102 then (c : Int) - 87 else -1
def hexB (a b : UInt8) : Option UInt8 :=
  if hexV a.toNat < 0 ∨ hexV b.toNat < 0 then none else if prnI (16 * hexV a.toNat + hexV b.toNat) then none else some (UInt8.ofNat (16 * hexV a.toNat + hexV b.toNat).toNat)
def spellL : List UInt8 → Option (UInt8 × Nat)
  | [] => none
  | c :: r =>
    if c.toNat = 34 ∨ prnI c.toNat = false then none
    else if c.toNat ≠ 92 then some (c, 1)
    else match r with
      | [] => none
      | d :: r' => if d.toNat = 92 ∨ d.toNat = 34 then some (d, 2) else if d.toNat = 120 then (match r' with | a :: b :: _ => (hexB a b).map fun x => (x, 4) | _ => none) else none
def unqL : Nat → List UInt8 → List UInt8 → Nat → Option (List UInt8 × Nat)
  | 0, _, _, _ => none
  | f + 1, l, acc, k => match spellL l with
    | some (c, n) => unqL f (l.drop n) (acc ++ [c]) (k + n)
    | none => if l.head?.map (·.toNat) = some 34 then some (acc, k + 1) else none
def unquoteL (l : List UInt8) : Option (List UInt8 × Nat) := if l.head?.map (·.toNat) = some 34 then unqL (l.length + 1) (l.drop 1) [] 1 else none

theorem hexV_hexD : ∀ q : Fin 16, hexV (hexD q.val).toNat = (q.val : Int) := by decide +kernel
theorem toNat_eq {c : UInt8} {n : Nat} (h : c.toNat = n) : c = UInt8.ofNat n := by rw [← h]; simp
theorem spell_q (c : UInt8) (r : List UInt8) : spellL (qB c ++ r) = some (c, (qB c).length) := by
  unfold qB
  by_cases h1 : c.toNat = 92 ∨ c.toNat = 34
  · rw [if_pos h1]
    have e : prnI 92 = true := by decide
    simp only [List.cons_append, List.nil_append, spellL]
    rw [if_neg (by simp [e]), if_neg (by simp), if_pos h1]; rfl
  · rw [if_neg h1]
    cases h2 : prnI (c.toNat : Int)
    · have hc := c.toNat_lt
      have e : prnI 92 = true := by decide
      have g1 := hexV_hexD ⟨c.toNat / 16, by omega⟩
      have g2 := hexV_hexD ⟨c.toNat % 16, by omega⟩
      simp only at g1 g2
      have hs : 16 * ((c.toNat / 16 : Nat) : Int) + ((c.toNat % 16 : Nat) : Int) = (c.toNat : Int) := by omega
      have hx : hexB (hexD (c.toNat / 16)) (hexD (c.toNat % 16)) = some c := by
        unfold hexB
        rw [g1, g2, if_neg (by omega), hs, h2]
        simp
      simp only [Bool.false_eq_true, if_false, List.cons_append, List.nil_append, spellL]
      rw [if_neg (by simp [e]), if_neg (by simp), if_neg (by simp), if_pos (by simp), hx]; rfl
    · simp only [if_true, List.cons_append, List.nil_append, spellL]
      rw [if_neg (by simp [h2]; omega), if_pos (by omega)]; rfl
theorem unq_q : ∀ (s more acc : List UInt8) (f k : Nat), (s.flatMap qB ++ 34 :: more).length < f → unqL f (s.flatMap qB ++ 34 :: more) acc k = some (acc ++ s, k + (s.flatMap qB).length + 1)
  | [], more, acc, 0, k, h => absurd h (by omega)
  | [], more, acc, f + 1, k, h => by
    have : spellL (34 :: more) = none := by simp [spellL]
    simp [unqL, this]
  | c :: s, more, acc, 0, k, h => absurd h (by omega)
  | c :: s, more, acc, f + 1, k, h => by
    have e : (c :: s).flatMap qB ++ 34 :: more = qB c ++ (s.flatMap qB ++ 34 :: more) := by simp
    rw [e] at h ⊢
    have h1 := spell_q c (s.flatMap qB ++ 34 :: more)
    have h2 := qB_len c
    rw [List.length_append] at h
    simp only [unqL, h1]
    rw [List.drop_left, unq_q s more (acc ++ [c]) f (k + (qB c).length) (by omega)]
    simp [List.flatMap_cons]; omega
theorem unquote_quote (s more : List UInt8) : unquoteL (quoteL s ++ more) = some (s, (quoteL s).length) := by
  have e : quoteL s ++ more = 34 :: (s.flatMap qB ++ 34 :: more) := by simp [quoteL]
  unfold unquoteL
  rw [e, if_pos (by simp)]
  rw [show (34 :: (s.flatMap qB ++ 34 :: more)).drop 1 = s.flatMap qB ++ 34 :: more from rfl, unq_q s more [] _ 1 (by simp; omega)]
  simp [quoteL]; omega

/-! by places -/
section
variable (s : ByteArray) (k : Nat)
theorem dk (h : k < s.size) : s.data.toList.drop k = s[k] :: s.data.toList.drop (k + 1) := drop_byte s k h
theorem sp_end (h : s.size ≤ k) : spellL (s.data.toList.drop k) = none := by rw [List.drop_of_length_le (by simpa using h)]; rfl
theorem sp_no (h : k < s.size) (h1 : s[k].toNat = 34 ∨ prnI s[k].toNat = false) : spellL (s.data.toList.drop k) = none := by
  rw [dk s k h]; simp only [spellL]; rw [if_pos h1]
theorem sp_1 (h : k < s.size) (h1 : ¬ (s[k].toNat = 34 ∨ prnI s[k].toNat = false)) (h2 : s[k].toNat ≠ 92) : spellL (s.data.toList.drop k) = some (s[k], 1) := by
  rw [dk s k h]; simp only [spellL]; rw [if_neg h1, if_pos h2]
theorem bs_ok : ¬ ((92 : Nat) = 34 ∨ prnI ((92 : Nat) : Int) = false) := by decide
theorem sp_e1 (h : k < s.size) (h1 : s[k].toNat = 92) (h2 : s.size ≤ k + 1) : spellL (s.data.toList.drop k) = none := by
  rw [dk s k h, List.drop_of_length_le (by simpa using h2)]
  simp only [spellL, h1]; rw [if_neg bs_ok, if_neg (by simp)]
theorem sp_2 (h : k + 1 < s.size) (h1 : s[k].toNat = 92) (h2 : s[k + 1].toNat = 92 ∨ s[k + 1].toNat = 34) : spellL (s.data.toList.drop k) = some (s[k + 1], 2) := by
  rw [dk s k (by omega), dk s (k + 1) h]
  simp only [spellL, h1]; rw [if_neg bs_ok, if_neg (by simp), if_pos h2]
theorem sp_ex (h : k + 1 < s.size) (h1 : s[k].toNat = 92) (h2 : ¬ (s[k + 1].toNat = 92 ∨ s[k + 1].toNat = 34)) (h3 : s.size ≤ k + 3 ∨ s[k + 1].toNat ≠ 120) : spellL (s.data.toList.drop k) = none := by
  rw [dk s k (by omega), dk s (k + 1) h]
  simp only [spellL, h1]; rw [if_neg bs_ok, if_neg (by simp), if_neg h2]
  by_cases hx : s[k + 1].toNat = 120
  · rw [if_pos hx]
    have hs : s.size ≤ k + 3 := by rcases h3 with h3 | h3; exact h3; exact absurd hx h3
    by_cases h4 : k + 2 < s.size
    · rw [dk s (k + 1 + 1) (by omega), List.drop_of_length_le (by simp; omega)]
    · rw [List.drop_of_length_le (by simp; omega)]
  · rw [if_neg hx]
theorem sp_h (h : k + 3 < s.size) (h1 : s[k].toNat = 92) (h2 : s[k + 1].toNat = 120) : spellL (s.data.toList.drop k) = (hexB s[k + 2] s[k + 3]).map fun x => (x, 4) := by
  rw [dk s k (by omega), dk s (k + 1) (by omega), dk s (k + 1 + 1) (by omega), dk s (k + 1 + 1 + 1) (by omega)]
  simp only [spellL, h1, h2]; rw [if_neg bs_ok, if_neg (by simp), if_neg (by simp), if_pos (by simp)]
theorem unq_some {f : Nat} {acc : List UInt8} {c : UInt8} {n : Nat} (h : spellL (s.data.toList.drop k) = some (c, n)) : unqL (f + 1) (s.data.toList.drop k) acc k = unqL f (s.data.toList.drop (k + n)) (acc ++ [c]) (k + n) := by
  simp only [unqL, h, List.drop_drop]
theorem unq_none {f : Nat} {acc : List UInt8} (h : k < s.size) (h1 : spellL (s.data.toList.drop k) = none) : unqL (f + 1) (s.data.toList.drop k) acc k = if s[k].toNat = 34 then some (acc, k + 1) else none := by
  simp only [unqL, h1]
  rw [dk s k h]; simp
theorem unq_end {f : Nat} {acc : List UInt8} (h : s.size ≤ k) : unqL (f + 1) (s.data.toList.drop k) acc k = none := by
  simp only [unqL, sp_end s k h]
  rw [List.drop_of_length_le (by simpa using h)]; simp
end
end Go.Proofs.Ytnlfndhgdeapeaa
namespace Go.Proofs.Ytnlfndhgdeapeaa
open Go.RowKit Go.Sort
set_option maxRecDepth 100000
set_option maxHeartbeats 4000000

/-- a new row of bytes is the call's lb_own -/
theorem own_lit (w : World) (bs : List UInt8) (n : Nat) (cs : Array Value) (hn : n = bs.length) (h : cs = (Lib.byteCells bs).toArray) (hm : n ≤ maxLen) : Hid (OwnB (w.alloc (.cells cs 5)) w.heap.size (.slice (some ⟨w.heap.size, 0, none⟩) n n) bs) := by
  subst h hn
  refine Lib.hid ⟨by simp [Lib.byteCells], .inr ⟨w.heap.size, bs.length, _, rfl, Nat.le_refl _, heap_alloc_new w _, Nat.le_refl _, hm, by simp [Lib.byteCells], ?_⟩⟩
  rw [List.take_of_length_le (by simp [Lib.byteCells])]
theorem rQuote_any (s : ByteArray) (w : World) (hn : 4 * s.size + 2 ≤ 549755813888) :
    Calls Try.prog 34 #[.string s] w fun e w' => e = .returned (.string ⟨(quoteL s.data.toList).toArray⟩) ∧ Gr w w' := by
  go_enter Try.func34, Try.ntmps34
  go_wp2
  go_loopw [4, 5] (fun v i wr => ∃ k : Nat, k ≤ s.size ∧ i = .int .i64 k ∧ Hid (OwnB wr w.heap.size v (34 :: (s.data.toList.take k).flatMap qB)) ∧ Bk w.heap.size w wr) (fun _ i _ => s.size - (intOf i).toNat)
  case atStart => exact ⟨0, Nat.zero_le _, rfl, own_lit w [34] 1 _ rfl rfl (by unfold maxLen; omega), (Bk.refl _ _).alloc (Nat.le_refl _) _ _⟩
  case round =>
    obtain ⟨k, hk, rfl, HO, hg⟩ := hrel
    have hBr : w.heap.size ≤ wr.heap.size := hg.b.size
    by_cases hlt : k < s.size
    · have hts := take_byte s k hlt
      have HT : Hid (34 :: (s.data.toList.take (k + 1)).flatMap qB = 34 :: (s.data.toList.take k).flatMap qB ++ qB s[k]) := Lib.hid (by rw [hts, List.flatMap_append]; simp)
      have hlen : (34 :: (s.data.toList.take k).flatMap qB).length ≤ 549755813888 := by
        have := qBs_len (s.data.toList.take k)
        simp at this ⊢
        omega
      clear hts
      generalize 34 :: (s.data.toList.take k).flatMap qB = cur at *
      obtain ⟨c, hc⟩ : ∃ c, s[k] = c := ⟨_, rfl⟩
      rw [hc] at HT
      have hc256 := c.toNat_lt
      obtain ⟨n, hcn⟩ : ∃ n, c.toNat = n := ⟨_, rfl⟩
      have HC := Lib.hid hcn
      by_cases h1 : n = 92 ∨ n = 34
      · have HQB : Hid (qB c = [92, c]) := Lib.hid (by unfold qB; rw [hcn, if_pos h1])
        have key : ∀ m : Nat, n = m → ((m : Int) == 34) = true ∨ (((m : Int) == 34) = false ∧ ((m : Int) == 92) = true) := fun m hm => by
          simp; omega
        rcases key n rfl with g1 | ⟨g1, g2⟩
        all_goals
          clear h1 key
          go_wp2_with (at_builtin; refine wpList_appB rfl rfl (.tmp 28) (.tmp 30) (by rfl) (by rfl) (B := w.heap.size) (l := cur) (m := [92, c]) (HO.out.alloc _) (readsB_new _ _ _ 2 rfl (by simp [Lib.byteCells, HC.out])) (by simp) (by simp; omega) (by simp; omega) ?_; intro v2 W2 hown2 hbk2)
          go_roundw
          case rel => exact ⟨k + 1, by omega, by go_num, Lib.hid (by rw [HT.out, HQB.out]; exact hown2), (hg.alloc (Nat.le_refl _) _ _).trans hbk2⟩
          case measure => simp [intOf]; omega
      by_cases h2 : 32 ≤ n ∧ n < 127
      · have hp : prnI n = true := by unfold prnI; simp; omega
        have HQB : Hid (qB c = [c]) := Lib.hid (by unfold qB; rw [hcn, if_neg h1, hp]; rfl)
        have h92 : ((n : Int) == 92) = false := by simp; omega
        have h34 : ((n : Int) == 34) = false := by simp; omega
        have l1 : decide ((n : Int) < 32) = false := by simp; omega
        have l2 : decide ((127 : Int) ≤ (n : Int)) = false := by simp; omega
        clear h1 h2
        go_wp2_with (at_builtin; refine wpList_appB rfl rfl (.tmp 17) (.tmp 19) (by rfl) (by rfl) (B := w.heap.size) (l := cur) (m := [c]) (HO.out.alloc _) (readsB_new _ _ _ 1 rfl (by simp [Lib.byteCells, HC.out])) (by simp) (by simp; omega) (by simp; omega) ?_; intro v2 W2 hown2 hbk2)
        go_roundw
        case rel => exact ⟨k + 1, by omega, by go_num, Lib.hid (by rw [HT.out, HQB.out]; exact hown2), (hg.alloc (Nat.le_refl _) _ _).trans hbk2⟩
        case measure => simp [intOf]; omega
      · have hp : prnI n = false := by unfold prnI; simp; omega
        have h92 : ((n : Int) == 92) = false := by simp; omega
        have h34 : ((n : Int) == 34) = false := by simp; omega
        have HQB0 : Hid (qB c = [92, 120, hexD (n / 16), hexD (n % 16)]) := Lib.hid (by unfold qB; rw [hcn, if_neg h1, hp]; rfl)
        have key : decide ((n : Int) < 32) = true ∨ (decide ((n : Int) < 32) = false ∧ decide ((127 : Int) ≤ (n : Int)) = true) := by simp; omega
        clear h1 h2
        obtain ⟨q, hq⟩ : ∃ q, n / 16 = q := ⟨_, rfl⟩
        obtain ⟨r, hr⟩ : ∃ r, n % 16 = r := ⟨_, rfl⟩
        have hq1 : (n : Int) / 16 = (q : Int) := by omega
        have hr1 : (n : Int) % 16 = (r : Int) := by omega
        have hq2 : (n : Int).tdiv 16 = (q : Int) := by rw [Int.tdiv_eq_ediv_of_nonneg (by omega)]; exact hq1
        have hr2 : (n : Int).tmod 16 = (r : Int) := by rw [Int.tmod_eq_emod_of_nonneg (by omega)]; exact hr1
        have q0 : (0 : Int) ≤ q := by omega
        have q1 : (q : Int) < 16 := by omega
        have r0 : (0 : Int) ≤ r := by omega
        have r1 : (r : Int) < 16 := by omega
        have HQ := Lib.hid hq; have HR := Lib.hid hr
        have HQB : Hid (qB c = [92, 120, hexD q, hexD r]) := Lib.hid (by rw [HQB0.out, hq, hr])
        clear hq hr
        have hw1 : IntKind.u8.wrap (q : Int) = (q : Int) := IntWalk.u8_in _ (by omega)
        rcases key with g1 | ⟨g1, g2⟩
        all_goals
          go_wp2_with fail
          go_region_law ((refine step_appB rfl (by rfl) (.tmp 39) (.tmp 48) (by rfl) (by rfl) (B := w.heap.size) (l := cur) (m := [92, 120, hexD q, hexD r]) (HO.out.alloc _).drew (readsB_new _ _ _ 4 rfl ?_) (by simp) (by simp; omega) ?_ ?_
                          · exact hex_cells q r _ _ (by omega) (by omega)
                          · simp
                            omega
                          intro v2 W2 hown2 hbk2))
          all_goals
            go_wp2
            go_roundw
            case rel => exact ⟨k + 1, by omega, by go_num, Lib.hid (by rw [HT.out, HQB.out]; exact hown2), (hg.alloc (Nat.le_refl _) _ _).drew.trans hbk2⟩
            case measure => simp [intOf]; omega
    · obtain rfl : k = s.size := by omega
      have hlen : (34 :: (s.data.toList.take s.size).flatMap qB).length ≤ 549755813888 := by
        have := qBs_len (s.data.toList.take s.size)
        simp at this ⊢
        omega
      have HT : Hid (quoteL s.data.toList = 34 :: (s.data.toList.take s.size).flatMap qB ++ [34]) := Lib.hid (by rw [List.take_of_length_le (by simp)]; simp [quoteL])
      generalize 34 :: (s.data.toList.take s.size).flatMap qB = cur at *
      go_wp2_with (at_builtin; refine wpList_appB rfl rfl (.tmp 50) (.tmp 51) (by rfl) (by rfl) (B := w.heap.size) (l := cur) (m := [34]) (HO.out.alloc _) (readsB_new _ _ _ 1 rfl (by rfl)) (by simp) (by simp; omega) (by simp; omega) ?_; intro v2 W2 hown2 hbk2; have hcv := conv_own hown2)
      go_ret
      exact ⟨by rw [HT.out]; rfl, ((hg.alloc (Nat.le_refl _) _ _).trans hbk2).gr⟩

end Go.Proofs.Ytnlfndhgdeapeaa
