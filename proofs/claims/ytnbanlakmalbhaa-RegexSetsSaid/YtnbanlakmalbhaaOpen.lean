/- A set's text: the bytes that it names. No program in it. -/
import Derived.Test.YtnbanlakmalbhaaEscT
import Derived.Test.YtnbanlakmalbhaaLawRep
import Derived.Test.YtnbanlakmalbhaaLaid
import Derived.ChangeSlices
namespace Go.Proofs.Ytnbanlakmalbhaa
open Go.RowKit
set_option maxRecDepth 100000
set_option maxHeartbeats 1000000

/-- a byte as it stands in a set -/
def setB (c : UInt8) : List UInt8 := if amongB sbL c then [92, c] else [c]
def setT (l : List UInt8) : List UInt8 := l.flatMap setB
def setQ (p : Nat → Bool) : List UInt8 → Nat → Bool
  | [] => p
  | c :: r => setQ (fun x => p x || inR c.toNat c.toNat x) r
theorem setB_yes {c : UInt8} (h : amongB sbL c = true) : setB c = [92, c] := by unfold setB; rw [if_pos h]
theorem setB_no {c : UInt8} (h : amongB sbL c = false) : setB c = [c] := by unfold setB; rw [if_neg (by rw [h]; decide)]
theorem setT_cons (c : UInt8) (s : List UInt8) : setT (c :: s) = setB c ++ setT s := by unfold setT; rfl
theorem setT_len (l : List UInt8) : (setT l).length ≤ 2 * l.length := by
  induction l with
  | nil => simp [setT]
  | cons c r ih =>
    rw [setT_cons, List.length_append]
    have : (setB c).length ≤ 2 := by unfold setB; split <;> simp
    simp
    omega
theorem setT_ge (l : List UInt8) : l.length ≤ (setT l).length := by
  induction l with
  | nil => simp
  | cons c r ih =>
    rw [setT_cons, List.length_append]
    have : 1 ≤ (setB c).length := by unfold setB; split <;> simp
    simp
    omega
theorem sb_sq {c : UInt8} (h : amongB sbL c = true) : amongB sqL c = true := by
  unfold amongB at h ⊢
  have := of_decide_eq_true h
  refine decide_eq_true ?_
  simp only [sbL, List.mem_cons, List.not_mem_nil, or_false] at this
  rcases this with rfl | rfl | rfl | rfl <;> decide
theorem set_letter {t pre r : List UInt8} {c : UInt8} (ht : t = pre ++ (setB c ++ r)) : letterS t sbL sqL pre.length = (true, c, pre.length + (setB c).length) := by
  unfold letterS
  cases e : amongB sbL c
  · rw [setB_no e] at ht ⊢
    have h0 : t[pre.length]? = some c := by rw [ht]; simp
    have h1 : isAt t pre.length 92 = false := by
      rw [at_of h0]
      exact decide_eq_false (among_ne e (by decide))
    simp only [h1, Bool.false_eq_true, if_false, h0, e]
    rfl
  · rw [setB_yes e] at ht ⊢
    have h0 : t[pre.length]? = some 92 := by rw [ht]; simp
    have h1 : t[pre.length + 1]? = some c := by rw [ht, List.getElem?_append_right (by omega)]; simp
    have h2 : isAt t pre.length 92 = true := by rw [at_of h0]; decide
    simp only [h2, if_true, h1, sb_sq e]
    rfl
/-- what begins a set's byte: no closing bracket, no line, no hat -/
theorem set_first {t pre r : List UInt8} {c : UInt8} (ht : t = pre ++ (setB c ++ r)) : ∃ h, t[pre.length]? = some h ∧ h ≠ 93 ∧ h ≠ 45 ∧ h ≠ 94 := by
  cases e : amongB sbL c
  · rw [setB_no e] at ht
    exact ⟨c, by rw [ht]; simp, among_ne e (by decide), among_ne e (by decide), among_ne e (by decide)⟩
  · rw [setB_yes e] at ht
    exact ⟨92, by rw [ht]; simp, by decide, by decide, by decide⟩
theorem set_next {t pre : List UInt8} (r : List UInt8) (ht : t = pre ++ (setT r ++ [93])) : ∃ h, t[pre.length]? = some h ∧ h ≠ 45 := by
  cases r with
  | nil => exact ⟨93, by rw [ht]; simp [setT], by decide⟩
  | cons c r =>
    rw [setT_cons, List.append_assoc] at ht
    obtain ⟨h, h0, -, h1, -⟩ := set_first ht
    exact ⟨h, h0, h1⟩
theorem set_item {t pre r : List UInt8} {c : UInt8} (ht : t = pre ++ (setB c ++ (setT r ++ [93]))) : itemS t pre.length = (true, c, c, (pre ++ setB c).length) := by
  obtain ⟨h, h0, h1⟩ := set_next (t := t) (pre := pre ++ setB c) r (by rw [ht]; simp)
  rw [List.length_append] at h0
  unfold itemS
  simp only [set_letter ht, at_of h0, decide_eq_false h1, List.length_append]
  rfl
theorem set_run {t : List UInt8} : ∀ (r pre : List UInt8) (f : Nat) (p : Nat → Bool), t = pre ++ (setT r ++ [93]) → r.length < f → setF t f pre.length p = (true, setQ p r, t.length)
  | [], pre, f, p, ht, hf => by
    obtain ⟨f, rfl⟩ : ∃ g, f = g + 1 := ⟨f - 1, by omega⟩
    have h0 : t[pre.length]? = some 93 := by rw [ht]; simp [setT]
    rw [setF_s, at_of h0, decide_eq_true rfl, if_pos rfl]
    have : pre.length + 1 = t.length := by rw [ht]; simp [setT]
    rw [this]
    rfl
  | c :: r, pre, f, p, ht, hf => by
    obtain ⟨f, rfl⟩ : ∃ g, f = g + 1 := ⟨f - 1, by omega⟩
    rw [setT_cons, List.append_assoc] at ht
    obtain ⟨h, h0, h1, -⟩ := set_first ht
    have hi := set_item ht
    rw [setF_s, at_of h0, decide_eq_false h1, hi]
    simp only [Bool.false_eq_true, if_false, if_true]
    exact set_run r (pre ++ setB c) f _ (by rw [ht]; simp) (by simp at hf; omega)
theorem setQ_mem (l : List UInt8) (p : Nat → Bool) (b : UInt8) : setQ p l b.toNat = (p b.toNat || decide (b ∈ l)) := by
  induction l generalizing p with
  | nil => simp [setQ]
  | cons c r ih =>
    unfold setQ
    rw [ih]
    have h : inR c.toNat c.toNat b.toNat = decide (b = c) := by
      rw [Bool.eq_iff_iff, decide_eq_true_eq]
      have := leaf_eq c b
      rwa [Bool.false_or] at this
    simp only [h, List.mem_cons]
    cases p b.toNat <;> simp
def inN (l : List UInt8) : Nat → Bool := setQ (fun _ => false) l
/-- a set of bytes -/
theorem set_plain (c : UInt8) (r : List UInt8) : setS (91 :: (setT (c :: r) ++ [93])) 1 = (true, inN (c :: r), (91 :: (setT (c :: r) ++ [93])).length) := by
  obtain ⟨t, ht⟩ : ∃ t, 91 :: (setT (c :: r) ++ [93]) = t := ⟨_, rfl⟩
  have ht2 : t = [91] ++ (setB c ++ (setT r ++ [93])) := by rw [← ht, setT_cons]; simp
  rw [ht]
  obtain ⟨h, h0, -, -, h1⟩ := set_first ht2
  have hi := set_item ht2
  have hl : r.length < t.length + 1 := by
    have := setT_ge r
    rw [ht2]
    simp
    omega
  have hr := set_run (t := t) r ([91] ++ setB c) (t.length + 1) (fun x => false || inR c.toNat c.toNat x) (by rw [ht2]; simp) hl
  have h0' : t[1]? = some h := h0
  have hi' : itemS t 1 = (true, c, c, ([91] ++ setB c).length) := hi
  unfold setS
  rw [at_of h0', decide_eq_false h1]
  simp only [Bool.false_eq_true, if_false, hi', if_true, hr]
  rfl
theorem set_hat (c : UInt8) (r : List UInt8) : setS (91 :: 94 :: (setT (c :: r) ++ [93])) 1 = (true, fun x => !inN (c :: r) x, (91 :: 94 :: (setT (c :: r) ++ [93])).length) := by
  obtain ⟨t, ht⟩ : ∃ t, 91 :: 94 :: (setT (c :: r) ++ [93]) = t := ⟨_, rfl⟩
  have ht2 : t = [91, 94] ++ (setB c ++ (setT r ++ [93])) := by rw [← ht, setT_cons]; simp
  have h0' : t[1]? = some 94 := by rw [← ht]; rfl
  rw [ht]
  have hi := set_item ht2
  have hl : r.length < t.length + 1 := by
    have := setT_ge r
    rw [ht2]
    simp
    omega
  have hr := set_run (t := t) r ([91, 94] ++ setB c) (t.length + 1) (fun x => false || inR c.toNat c.toNat x) (by rw [ht2]; simp) hl
  have hi' : itemS t 2 = (true, c, c, ([91, 94] ++ setB c).length) := hi
  unfold setS
  rw [at_of h0', decide_eq_true rfl]
  simp only [if_true, hi', hr]
  rfl
def setN (p : Nat → Bool) : Nd := .op 2 [.op 1 [.one p]]
theorem read_set {t : List UInt8} {p : Nat → Bool} (h0 : t[0]? = some 91) (h : setS t 1 = (true, p, t.length)) : readS t = (true, setN p, t.length) := by
  refine read_piece (by rw [goes_of h0]; decide) (piece_plain ?_ (plain_end t))
  unfold atomS
  rw [at_of h0, at_of h0, at_of h0, decide_eq_false (by decide), decide_eq_false (by decide), decide_eq_true rfl]
  simp only [Bool.false_eq_true, if_false, if_true, Nat.zero_add, h]
theorem td_set (r : List UInt8) : ∀ (l : List UInt8) (k d : Nat), tdS (setT l ++ r) k d true = tdS r (k + (setT l).length) d true
  | [], k, d => rfl
  | c :: l, k, d => by
    rw [setT_cons, List.append_assoc]
    cases e : amongB sbL c
    · rw [setB_no e]
      show tdS (c :: (setT l ++ r)) k d true = _
      conv => lhs; unfold tdS
      rw [if_neg (among_ne e (by decide)), if_pos rfl, decide_eq_true (among_ne e (by decide)), td_set r l, List.length_append]
      simp only [List.length_cons, List.length_nil]
      rw [show k + 1 + (setT l).length = k + (0 + 1 + (setT l).length) by omega]
    · rw [setB_yes e]
      show tdS (92 :: c :: (setT l ++ r)) k d true = _
      conv => lhs; unfold tdS
      rw [if_pos rfl]
      show tdS (setT l ++ r) (k + 2) d true = _
      rw [td_set r l, List.length_append]
      simp only [List.length_cons, List.length_nil]
      rw [show k + 2 + (setT l).length = k + (0 + 1 + 1 + (setT l).length) by omega]
theorem set_tree (l : List UInt8) (h0 : l ≠ []) (hl : l.length ≤ 2000) : treeS (91 :: (setT l ++ [93])) = .inl (setN (inN l)) := by
  cases l with
  | nil => exact absurd rfl h0
  | cons c r =>
    refine treeS_inl (by have := setT_len (c :: r); simp at this hl ⊢; omega) ?_ (read_set rfl (set_plain c r))
    conv => lhs; unfold tdS
    rw [if_neg (by decide), if_neg (by decide), if_pos rfl, td_set]
    rfl
theorem hat_tree (l : List UInt8) (h0 : l ≠ []) (hl : l.length ≤ 2000) : treeS (91 :: 94 :: (setT l ++ [93])) = .inl (setN (fun x => !inN l x)) := by
  cases l with
  | nil => exact absurd rfl h0
  | cons c r =>
    refine treeS_inl (by have := setT_len (c :: r); simp at this hl ⊢; omega) ?_ (read_set rfl (set_hat c r))
    conv => lhs; unfold tdS
    rw [if_neg (by decide), if_neg (by decide), if_pos rfl]
    conv => lhs; unfold tdS
    rw [if_neg (by decide), if_pos rfl, decide_eq_true (by decide), td_set]
    rfl
theorem set_wf (p : Nat → Bool) : Wf (setN p) := by
  unfold setN Wf WfL WfL Wf WfL WfL Wf
  simp
theorem set_hits (p : Nat → Bool) (b : List UInt8) (x : Bool) (h : (∃ c : UInt8, b = [c] ∧ p c.toNat = true) ↔ x = true) : hits (setN p) b = x :=
  hits_eq (set_wf p) (by unfold setN; rw [lg_piece, lg_one]; exact h)
theorem set_one (p : Nat → Bool) (c : UInt8) : hits (setN p) [c] = p c.toNat := set_hits p _ _ (by
  constructor
  · rintro ⟨d, e, h⟩
    obtain rfl : c = d := by simpa using e
    exact h
  · exact fun h => ⟨c, rfl, h⟩)
theorem set_none (p : Nat → Bool) : hits (setN p) [] = false := set_hits p _ _ (by
  constructor
  · rintro ⟨d, e, -⟩
    simp at e
  · exact fun h => by simp at h)
theorem set_two (p : Nat → Bool) (c : UInt8) : hits (setN p) [c, c] = false := set_hits p _ _ (by
  constructor
  · rintro ⟨d, e, -⟩
    simp at e
  · exact fun h => by simp at h)
theorem inN_mem (l : List UInt8) (b : UInt8) : inN l b.toNat = decide (b ∈ l) := by
  unfold inN
  rw [setQ_mem]
  simp
end Go.Proofs.Ytnbanlakmalbhaa
/- The walk of RegexSets. -/
namespace Go.Proofs.Ytnbanlakmalbhaa
open Go.RowKit
set_option maxRecDepth 100000
set_option maxHeartbeats 8000000

/-- bytes that came in -/
def ArgAt (W : World) (A : Option Addr) (l : List UInt8) : Prop := l ≠ [] → ∃ b o, A = some ⟨b, o, none⟩ ∧ ∀ i x, l[i]? = some x → W.cell? ⟨b, o + i, none⟩ = some (.int .u8 x.toNat)
theorem convZ (W : World) (z : Int) (x : UInt8) (h : z = x.toNat) : (convert 33 9 (.slice (some ⟨W.heap.size, 0, none⟩) 1 1)).run Try.prog (W.alloc (.cells #[.int .u8 z] 5)) = .ok (.string ⟨#[x]⟩) (W.alloc (.cells #[.int .u8 z] 5)) := by
  subst h
  have := run_convert_bytes_back (P := Try.prog) (W.alloc (.cells #[.int .u8 x.toNat] 5)) 33 9 5 ⟨W.heap.size, 0, none⟩ 1 [x] Try.underlying33 Try.underlying5 Try.underlying9 (fun j hj => by
    obtain rfl : j = 0 := by simpa using hj
    go_simp)
  exact this
theorem lawSets_out (A : Option Addr) (n c : Nat) (b : UInt8) (w : World) (h : n = 0 ∨ 60 < n) :
    Calls Try.prog 5 #[.slice A n c, .int .u8 b.toNat] w fun e w' => e = .returned (.bool true) ∧ Gr w w' := by
  have CK := Lib.hid (fun W => known_any W)
  have key : ((n : Int) == 0) = true ∨ (((n : Int) == 0) = false ∧ decide ((60 : Int) < (n : Int)) = true) := by
    by_cases a0 : n = 0
    · exact .inl (beq_iff_eq.2 (by omega))
    · exact .inr ⟨beq_eq_false_iff_ne.2 (by omega), decide_eq_true (by omega)⟩
  clear h
  rcases key with h | ⟨h1, h2⟩
  all_goals
    go_enter Try.func5, Try.ntmps5
    go_wp2_with fail
    refine (CK.out _).mono ?_
    rintro e w1 ⟨rfl, hg1⟩
    go_wp2
    go_ret
    exact ⟨rfl, hg1⟩
theorem str_cat2 (t : List UInt8) (x : UInt8) : Value.string (⟨t.toArray⟩ ++ ⟨#[92]⟩ ++ ⟨#[x]⟩ : ByteArray) = .string ⟨(t ++ [92, x]).toArray⟩ := by
  have e : (⟨t.toArray⟩ ++ ⟨#[92]⟩ ++ ⟨#[x]⟩ : ByteArray) = ⟨(t ++ [92, x]).toArray⟩ := by
    apply ByteArray.ext
    simp [ByteArray.data_append]
  rw [e]
theorem setT_snoc (l : List UInt8) (c : UInt8) : setT (l ++ [c]) = setT l ++ setB c := by unfold setT; simp
theorem lawSets_in (A : Option Addr) (l : List UInt8) (c : Nat) (b : UInt8) (w : World) (h : ArgAt w A l) (h0 : l ≠ []) (h1 : l.length ≤ 60) :
    Calls Try.prog 5 #[.slice A l.length c, .int .u8 b.toNat] w fun e w' => e = .returned (.bool true) ∧ Gr w w' := by
  have CK := Lib.hid (fun W => known_any W)
  obtain ⟨pb, po, rfl, hcs⟩ := h h0
  have HC := Lib.hid hcs
  have hl0 : l.length ≠ 0 := fun e => h0 (List.eq_nil_of_length_eq_zero e)
  have n0 : ((l.length : Int) == 0) = false := beq_eq_false_iff_ne.2 (by omega)
  have n1 : ¬ (60 : Int) < (l.length : Int) := by omega
  have P1 := Lib.hid (set_tree l h0 (by omega))
  have P2 := Lib.hid (hat_tree l h0 (by omega))
  have HSL := Lib.hid (setT_len l)
  clear h hcs h0
  go_enter Try.func5, Try.ntmps5
  go_wp2_with fail
  refine (CK.out _).mono ?_
  rintro e w1 ⟨rfl, hg1⟩
  go_wp2
  go_loopw [5, 6, 7] (fun sv iv i wr => ∃ (k : Nat) (t : List UInt8) (x : Bool), i = .int .i64 k ∧ sv = .string ⟨t.toArray⟩ ∧ iv = .bool x ∧ k ≤ l.length ∧ Hid (t = setT (l.take k)) ∧ Hid (x = decide (b ∈ l.take k)) ∧ t.length ≤ 2 * k ∧ Gr w wr) (fun _ _ i _ => l.length - (intOf i).toNat)
  case atStart => exact ⟨0, [], false, rfl, rfl, rfl, Nat.zero_le _, Lib.hid rfl, Lib.hid (by simp), by simp, hg1⟩
  case round =>
    clear hg1
    obtain ⟨k, t, x, rfl, rfl, rfl, hk, HT, HX, ht, hg⟩ := hrel
    by_cases hlt : k < l.length
    · obtain ⟨d, hd⟩ : ∃ d, l[k]? = some d := ⟨_, List.getElem?_eq_getElem hlt⟩
      have hcell := hg.cell (HC.out k d hd)
      have htk : l.take (k + 1) = l.take k ++ [d] := by
        rw [List.take_add_one, hd]
        rfl
      have HT2 : Hid (setT (l.take (k + 1)) = t ++ setB d) := Lib.hid (by rw [htk, setT_snoc, ← HT.out])
      have HX2 : Hid (∀ y, y = (x || decide (d = b)) → y = decide (b ∈ l.take (k + 1))) := Lib.hid (by
        rintro y rfl
        rw [htk, HX.out, Bool.eq_iff_iff]
        simp only [Bool.or_eq_true, decide_eq_true_eq, List.mem_append, List.mem_singleton]
        exact ⟨fun h => h.imp id Eq.symm, fun h => h.imp id Eq.symm⟩)
      have b1 : (k : Int) < (l.length : Int) := by omega
      have b0 : (0 : Int) ≤ (k : Int) := by omega
      have z1 : ¬ 9223372036854775807 < t.length + 1 := by omega
      have z2 : ¬ 9223372036854775807 < t.length + 1 + 1 := by omega
      clear hd htk HT HX
      have key : d = 93 ∨ d = 92 ∨ d = 45 ∨ d = 94 ∨ amongB sbL d = false := by
        cases e : amongB sbL d
        · exact .inr (.inr (.inr (.inr rfl)))
        · unfold amongB at e
          have := of_decide_eq_true e
          simp only [sbL, List.mem_cons, List.not_mem_nil, or_false] at this
          rcases this with e | e | e | e
          · exact .inl e
          · exact .inr (.inl e)
          · exact .inr (.inr (.inl e))
          · exact .inr (.inr (.inr (.inl e)))
      rcases key with rfl | rfl | rfl | rfl | hns
      · have cv := fun W => convZ W 93 93 rfl
        have hc2 : ∀ W : World, W.cell? ⟨pb, po + k, none⟩ = some (.int .u8 ((93 : UInt8).toNat : Int)) → W.cell? ⟨pb, po + k, none⟩ = some (.int .u8 93) := fun _ h => h
        replace hcell := hc2 _ hcell
        clear hc2
        have HT3 : Hid (setT (l.take (k + 1)) = t ++ [92, 93]) := Lib.hid (by rw [HT2.out, setB_yes (by decide)])
        clear HT2
        cases x
        · by_cases hb : (93 : UInt8) = b
          · subst hb
            go_wp2
            go_roundw
            case rel => exact ⟨k + 1, _, _, by go_num, str_cat2 t 93, rfl, by omega, Lib.hid HT3.out.symm, Lib.hid (HX2.out true (by simp)), by simp; omega, hg.alloc _ _⟩
            case measure => simp [intOf]; omega
          · have nb : ¬ (93 : Int) = (b.toNat : Int) := fun e => hb (UInt8.toNat_inj.1 (by show _ = b.toNat; first | omega | (have e2 : (93 : Int) = (b.toNat : Int) := e; simp at e2 ⊢; omega)))
            have nb2 : ((93 : Int) == (b.toNat : Int)) = false := beq_eq_false_iff_ne.2 nb
            go_wp2
            go_roundw
            case rel => exact ⟨k + 1, _, _, by go_num, str_cat2 t 93, rfl, by omega, Lib.hid HT3.out.symm, Lib.hid (HX2.out false (by simp; exact hb)), by simp; omega, hg.alloc _ _⟩
            case measure => simp [intOf]; omega
        · go_wp2
          go_roundw
          case rel => exact ⟨k + 1, _, _, by go_num, str_cat2 t 93, rfl, by omega, Lib.hid HT3.out.symm, Lib.hid (HX2.out true (by simp)), by simp; omega, hg.alloc _ _⟩
          case measure => simp [intOf]; omega
      · have cv := fun W => convZ W 92 92 rfl
        have hc2 : ∀ W : World, W.cell? ⟨pb, po + k, none⟩ = some (.int .u8 ((92 : UInt8).toNat : Int)) → W.cell? ⟨pb, po + k, none⟩ = some (.int .u8 92) := fun _ h => h
        replace hcell := hc2 _ hcell
        clear hc2
        have HT3 : Hid (setT (l.take (k + 1)) = t ++ [92, 92]) := Lib.hid (by rw [HT2.out, setB_yes (by decide)])
        clear HT2
        cases x
        · by_cases hb : (92 : UInt8) = b
          · subst hb
            go_wp2
            go_roundw
            case rel => exact ⟨k + 1, _, _, by go_num, str_cat2 t 92, rfl, by omega, Lib.hid HT3.out.symm, Lib.hid (HX2.out true (by simp)), by simp; omega, hg.alloc _ _⟩
            case measure => simp [intOf]; omega
          · have nb : ¬ (92 : Int) = (b.toNat : Int) := fun e => hb (UInt8.toNat_inj.1 (by show _ = b.toNat; first | omega | (have e2 : (92 : Int) = (b.toNat : Int) := e; simp at e2 ⊢; omega)))
            have nb2 : ((92 : Int) == (b.toNat : Int)) = false := beq_eq_false_iff_ne.2 nb
            go_wp2
            go_roundw
            case rel => exact ⟨k + 1, _, _, by go_num, str_cat2 t 92, rfl, by omega, Lib.hid HT3.out.symm, Lib.hid (HX2.out false (by simp; exact hb)), by simp; omega, hg.alloc _ _⟩
            case measure => simp [intOf]; omega
        · go_wp2
          go_roundw
          case rel => exact ⟨k + 1, _, _, by go_num, str_cat2 t 92, rfl, by omega, Lib.hid HT3.out.symm, Lib.hid (HX2.out true (by simp)), by simp; omega, hg.alloc _ _⟩
          case measure => simp [intOf]; omega
      · have cv := fun W => convZ W 45 45 rfl
        have hc2 : ∀ W : World, W.cell? ⟨pb, po + k, none⟩ = some (.int .u8 ((45 : UInt8).toNat : Int)) → W.cell? ⟨pb, po + k, none⟩ = some (.int .u8 45) := fun _ h => h
        replace hcell := hc2 _ hcell
        clear hc2
        have HT3 : Hid (setT (l.take (k + 1)) = t ++ [92, 45]) := Lib.hid (by rw [HT2.out, setB_yes (by decide)])
        clear HT2
        cases x
        · by_cases hb : (45 : UInt8) = b
          · subst hb
            go_wp2
            go_roundw
            case rel => exact ⟨k + 1, _, _, by go_num, str_cat2 t 45, rfl, by omega, Lib.hid HT3.out.symm, Lib.hid (HX2.out true (by simp)), by simp; omega, hg.alloc _ _⟩
            case measure => simp [intOf]; omega
          · have nb : ¬ (45 : Int) = (b.toNat : Int) := fun e => hb (UInt8.toNat_inj.1 (by show _ = b.toNat; first | omega | (have e2 : (45 : Int) = (b.toNat : Int) := e; simp at e2 ⊢; omega)))
            have nb2 : ((45 : Int) == (b.toNat : Int)) = false := beq_eq_false_iff_ne.2 nb
            go_wp2
            go_roundw
            case rel => exact ⟨k + 1, _, _, by go_num, str_cat2 t 45, rfl, by omega, Lib.hid HT3.out.symm, Lib.hid (HX2.out false (by simp; exact hb)), by simp; omega, hg.alloc _ _⟩
            case measure => simp [intOf]; omega
        · go_wp2
          go_roundw
          case rel => exact ⟨k + 1, _, _, by go_num, str_cat2 t 45, rfl, by omega, Lib.hid HT3.out.symm, Lib.hid (HX2.out true (by simp)), by simp; omega, hg.alloc _ _⟩
          case measure => simp [intOf]; omega
      · have cv := fun W => convZ W 94 94 rfl
        have hc2 : ∀ W : World, W.cell? ⟨pb, po + k, none⟩ = some (.int .u8 ((94 : UInt8).toNat : Int)) → W.cell? ⟨pb, po + k, none⟩ = some (.int .u8 94) := fun _ h => h
        replace hcell := hc2 _ hcell
        clear hc2
        have HT3 : Hid (setT (l.take (k + 1)) = t ++ [92, 94]) := Lib.hid (by rw [HT2.out, setB_yes (by decide)])
        clear HT2
        cases x
        · by_cases hb : (94 : UInt8) = b
          · subst hb
            go_wp2
            go_roundw
            case rel => exact ⟨k + 1, _, _, by go_num, str_cat2 t 94, rfl, by omega, Lib.hid HT3.out.symm, Lib.hid (HX2.out true (by simp)), by simp; omega, hg.alloc _ _⟩
            case measure => simp [intOf]; omega
          · have nb : ¬ (94 : Int) = (b.toNat : Int) := fun e => hb (UInt8.toNat_inj.1 (by show _ = b.toNat; first | omega | (have e2 : (94 : Int) = (b.toNat : Int) := e; simp at e2 ⊢; omega)))
            have nb2 : ((94 : Int) == (b.toNat : Int)) = false := beq_eq_false_iff_ne.2 nb
            go_wp2
            go_roundw
            case rel => exact ⟨k + 1, _, _, by go_num, str_cat2 t 94, rfl, by omega, Lib.hid HT3.out.symm, Lib.hid (HX2.out false (by simp; exact hb)), by simp; omega, hg.alloc _ _⟩
            case measure => simp [intOf]; omega
        · go_wp2
          go_roundw
          case rel => exact ⟨k + 1, _, _, by go_num, str_cat2 t 94, rfl, by omega, Lib.hid HT3.out.symm, Lib.hid (HX2.out true (by simp)), by simp; omega, hg.alloc _ _⟩
          case measure => simp [intOf]; omega
      · have cv := fun W => convZ W d.toNat d rfl
        have m93 : ¬ (d.toNat : Int) = 93 := fun e => among_ne hns (show amongB sbL 93 = true by decide) (UInt8.toNat_inj.1 (by show d.toNat = 93; omega))
        have k93 : ¬ d.toNat = 93 := by omega
        have q93 : ((d.toNat : Int) == 93) = false := beq_eq_false_iff_ne.2 m93
        have m92 : ¬ (d.toNat : Int) = 92 := fun e => among_ne hns (show amongB sbL 92 = true by decide) (UInt8.toNat_inj.1 (by show d.toNat = 92; omega))
        have k92 : ¬ d.toNat = 92 := by omega
        have q92 : ((d.toNat : Int) == 92) = false := beq_eq_false_iff_ne.2 m92
        have m45 : ¬ (d.toNat : Int) = 45 := fun e => among_ne hns (show amongB sbL 45 = true by decide) (UInt8.toNat_inj.1 (by show d.toNat = 45; omega))
        have k45 : ¬ d.toNat = 45 := by omega
        have q45 : ((d.toNat : Int) == 45) = false := beq_eq_false_iff_ne.2 m45
        have m94 : ¬ (d.toNat : Int) = 94 := fun e => among_ne hns (show amongB sbL 94 = true by decide) (UInt8.toNat_inj.1 (by show d.toNat = 94; omega))
        have k94 : ¬ d.toNat = 94 := by omega
        have q94 : ((d.toNat : Int) == 94) = false := beq_eq_false_iff_ne.2 m94
        have HT3 : Hid (setT (l.take (k + 1)) = t ++ [d]) := Lib.hid (by rw [HT2.out, setB_no hns])
        clear HT2
        cases x
        · by_cases hb : d = b
          · subst hb
            go_wp2
            go_roundw
            case rel => exact ⟨k + 1, _, _, by go_num, str_catV t [d], rfl, by omega, Lib.hid HT3.out.symm, Lib.hid (HX2.out true (by simp)), by simp; omega, hg.alloc _ _⟩
            case measure => simp [intOf]; omega
          · have nb : ¬ (d.toNat : Int) = (b.toNat : Int) := fun e => hb (UInt8.toNat_inj.1 (by show _ = b.toNat; first | omega | (have e2 : (d.toNat : Int) = (b.toNat : Int) := e; simp at e2 ⊢; omega)))
            have nb2 : ((d.toNat : Int) == (b.toNat : Int)) = false := beq_eq_false_iff_ne.2 nb
            have nb3 : ¬ d.toNat = b.toNat := by omega
            go_wp2
            go_roundw
            case rel => exact ⟨k + 1, _, _, by go_num, str_catV t [d], rfl, by omega, Lib.hid HT3.out.symm, Lib.hid (HX2.out false (by simp; exact hb)), by simp; omega, hg.alloc _ _⟩
            case measure => simp [intOf]; omega
        · go_wp2
          go_roundw
          case rel => exact ⟨k + 1, _, _, by go_num, str_catV t [d], rfl, by omega, Lib.hid HT3.out.symm, Lib.hid (HX2.out true (by simp)), by simp; omega, hg.alloc _ _⟩
          case measure => simp [intOf]; omega
    · have b1 : ¬ (k : Int) < (l.length : Int) := by omega
      have hkl : l.take k = l := List.take_of_length_le (by omega)
      have HT2 : Hid (t = setT l) := Lib.hid (by rw [HT.out, hkl])
      have HX2 : Hid (x = decide (b ∈ l)) := Lib.hid (by rw [HX.out, hkl])
      have cv := fun W => convZ W b.toNat b rfl
      have z1 : ¬ 9223372036854775807 < 1 + t.length := by omega
      have z2 : ¬ 9223372036854775807 < 1 + t.length + 1 := by omega
      have z3 : ¬ 9223372036854775807 < 2 + t.length := by omega
      have z4 : ¬ 9223372036854775807 < 2 + t.length + 1 := by omega
      have e1 : (⟨#[91]⟩ ++ ⟨t.toArray⟩ ++ ⟨#[93]⟩ : ByteArray).data.toList = 91 :: (setT l ++ [93]) := by rw [← HT2.out]; simp [ByteArray.data_append]
      have e2 : (⟨#[91, 94]⟩ ++ ⟨t.toArray⟩ ++ ⟨#[93]⟩ : ByteArray).data.toList = 91 :: 94 :: (setT l ++ [93]) := by rw [← HT2.out]; simp [ByteArray.data_append]
      have C1 := Lib.hid (fun W => tree_yes (s := (⟨#[91]⟩ ++ ⟨t.toArray⟩ ++ ⟨#[93]⟩ : ByteArray)) (by rw [e1]; exact P1.out) (by simp only [ByteArray.size_append, lit_size]; show 1 + t.length + 1 ≤ _; omega) W)
      have C2 := Lib.hid (fun W => tree_yes (s := (⟨#[91, 94]⟩ ++ ⟨t.toArray⟩ ++ ⟨#[93]⟩ : ByteArray)) (by rw [e2]; exact P2.out) (by simp only [ByteArray.size_append, lit_size]; show 2 + t.length + 1 ≤ _; omega) W)
      have M1 := Lib.hid (fun (P : Nat) W (h : Pat W P (setN (inN l))) => pm (x := x) h (Gr.refl W) ⟨#[b]⟩ (by show 1 ≤ 1000000000000; omega) (by rw [HX2.out]; exact (set_one _ b).trans (inN_mem l b)))
      have M2 := Lib.hid (fun (P : Nat) W (h : Pat W P (setN (fun z => !inN l z))) => pm (x := !x) h (Gr.refl W) ⟨#[b]⟩ (by show 1 ≤ 1000000000000; omega) (by rw [HX2.out]; exact (set_one _ b).trans (congrArg (!·) (inN_mem l b))))
      have M3 := Lib.hid (fun (P : Nat) W (h : Pat W P (setN (inN l))) => pm (x := false) h (Gr.refl W) ⟨#[]⟩ (by decide) (set_none _))
      have M4 := Lib.hid (fun (P : Nat) W (h : Pat W P (setN (inN l))) => pm (x := false) h (Gr.refl W) (⟨#[b]⟩ ++ ⟨#[b]⟩) (by rw [ByteArray.size_append]; show 1 + 1 ≤ 1000000000000; omega) (set_two _ b))
      have HG := Lib.hid hg
      obtain ⟨N1, hN1⟩ : ∃ N, setN (inN l) = N := ⟨_, rfl⟩
      obtain ⟨N2, hN2⟩ : ∃ N, setN (fun z => !inN l z) = N := ⟨_, rfl⟩
      rw [hN1] at C1 M1 M3 M4
      rw [hN2] at C2 M2
      clear hg e1 e2 hkl HT HX HT2 HX2 P1 P2 hN1 hN2 HC
      go_wp2_with fail
      refine (C1.out _).mono ?_
      rintro e w2 ⟨g2, P, rfl, hP⟩
      have G2 := Lib.hid (HG.out.trans g2)
      have HP := Lib.hid hP
      clear g2 hP
      go_wp2_with fail
      refine (C2.out _).mono ?_
      rintro e w3 ⟨g3, Q, rfl, hQ⟩
      have G3 := Lib.hid (G2.out.trans g3)
      have HP3 := Lib.hid (HP.out.gr g3)
      have HQ := Lib.hid hQ
      clear g3 hQ
      have hga : Hid (Gr w3 (w3.alloc (.cells #[.int .u8 b.toNat] 5))) := Lib.hid ((Gr.refl w3).alloc _ _)
      cases x
      all_goals
        go_wp2_with fail
        refine (M1.out P _ (HP3.out.gr hga.out)).mono ?_
        rintro e w4 ⟨rfl, g4⟩
        have H4 := Lib.hid (hga.out.trans g4)
        clear g4
        go_wp2_with fail
        refine (M2.out Q _ (HQ.out.gr H4.out)).mono ?_
        rintro e w5 ⟨rfl, g5⟩
        have H5 := Lib.hid (H4.out.trans g5)
        clear g5
        go_wp2_with fail
        refine (M3.out P _ (HP3.out.gr H5.out)).mono ?_
        rintro e w6 ⟨rfl, g6⟩
        have H6 := Lib.hid (H5.out.trans g6)
        clear g6
        go_wp2_with fail
        refine (M4.out P _ (HP3.out.gr H6.out)).mono ?_
        rintro e w7 ⟨rfl, g7⟩
        have H7 := Lib.hid (H6.out.trans g7)
        clear g7
        go_wp2
        go_ret
        exact ⟨rfl, G3.out.trans H7.out⟩
theorem lawSets_any (A : Option Addr) (n c : Nat) (b : UInt8) (w : World) (h : n ≤ 60 → ∃ l : List UInt8, l.length = n ∧ ArgAt w A l) :
    Calls Try.prog 5 #[.slice A n c, .int .u8 b.toNat] w fun e w' => e = .returned (.bool true) ∧ Gr w w' := by
  by_cases h1 : n = 0 ∨ 60 < n
  · exact lawSets_out A n c b w h1
  · obtain ⟨l, rfl, hl⟩ := h (by omega)
    exact lawSets_in A l c b w hl (by rintro rfl; simp at h1) (by omega)
end Go.Proofs.Ytnbanlakmalbhaa
/- Bytes that come in. -/
namespace Go.Proofs.Ytnbanlakmalbhaa
open Go.RowKit Go.ChangeShapes
set_option maxRecDepth 100000

theorem u8_of {n : Int} (h : (Lit.int .u8 n).wf = true) : ∃ b : UInt8, n = b.toNat := by
  obtain ⟨h1, h2⟩ := bounds_u8 h
  refine ⟨n.toNat.toUInt8, ?_⟩
  have : (n.toNat.toUInt8).toNat = n.toNat := by simp; omega
  omega
theorem addr_plain {W : World} {a : Addr} {v : Value} (h : W.cell? (a.add 0) = some v) : ∃ b o, a = ⟨b, o, none⟩ := by
  obtain ⟨b, o, s⟩ := a
  have hs : s = none := by simpa [Addr.add] using World.cell?_spot h
  exact ⟨b, o, by rw [hs]⟩
section
variable {H : Type} {enc : TypeId × Value → H} {W : World} {base : Nat} {sp : Nat → Bool} {held : Bool}
theorem open_bytesA {v : Value} {d : DataW H} {p : List MemPlace} (h : DataW.Trod enc Try.prog W base sp held 33 v d p) (hv : ∃ a n c, v = .slice a n c) :
    ∃ A n c, v = .slice A n c ∧ ∃ l : List UInt8, l.length = n ∧ ArgAt W A l := by
  obtain ⟨fuel, hf⟩ := h
  obtain ⟨a0, n0, c0, rfl⟩ := hv
  rcases open_ints Try.underlying33 Try.underlying5 (by kernel_rfl) hf with ⟨hcs, _⟩ | ⟨a, len, cap, zs, hcs, _, hl, hm, hz, _, hcell, hwf⟩
  · simp [Value.cells] at hcs
    obtain ⟨rfl, rfl, rfl⟩ := hcs
    exact ⟨none, 0, 0, rfl, [], rfl, fun h => absurd rfl h⟩
  · simp [Value.cells] at hcs
    obtain ⟨rfl, rfl, rfl⟩ := hcs
    have hlen : n0 ≤ zs.length := by rw [hz]; split <;> omega
    refine ⟨_, _, _, rfl, (zs.take n0).map (fun z => z.toNat.toUInt8), by simp; omega, fun hne => ?_⟩
    have hz0 : 0 < zs.length := by
      rcases Nat.eq_zero_or_pos zs.length with e | e
      · exact absurd (by rw [List.eq_nil_of_length_eq_zero e]; simp) hne
      · exact e
    obtain ⟨b, o, rfl⟩ := addr_plain (hcell 0 hz0)
    refine ⟨b, o, rfl, fun i x hx => ?_⟩
    rw [List.getElem?_map, Option.map_eq_some_iff] at hx
    obtain ⟨z, hzi, rfl⟩ := hx
    have hi : i < n0 := by
      have := (List.getElem?_eq_some_iff.1 hzi).1
      simp at this
      omega
    rw [List.getElem?_take_of_lt hi] at hzi
    have hmem := List.mem_of_getElem? hzi
    obtain ⟨h1, h2⟩ := bounds_u8 (hwf z hmem)
    have hc := hcell i (by omega)
    have e : zs.getD i 0 = z := by rw [List.getD_eq_getElem?_getD, hzi]; rfl
    rw [e] at hc
    have e2 : (z.toNat.toUInt8).toNat = z.toNat := by simp; omega
    rw [e2, show ((z.toNat : Nat) : Int) = z by omega]
    have hadd : (⟨b, o, none⟩ : Addr).add i = ⟨b, o + i, none⟩ := by unfold Addr.add; split <;> simp_all
    rwa [hadd] at hc
end
end Go.Proofs.Ytnbanlakmalbhaa
