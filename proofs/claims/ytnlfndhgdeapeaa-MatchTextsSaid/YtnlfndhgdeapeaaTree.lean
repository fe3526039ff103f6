/- What is read is a tree that may be built, and no great one. -/
import Derived.Test.YtnlfndhgdeapeaaAddS
import Derived.Test.YtnlfndhgdeapeaaPLe
namespace Go.Proofs.Ytnlfndhgdeapeaa
open Go.RowKit
set_option maxRecDepth 100000
set_option maxHeartbeats 1000000

def mx (L : Nat) : Nat := (L + 2) * (L + 2) + 1
theorem mx_pos (L : Nat) : 2 * L + 5 ≤ mx L := by
  unfold mx
  have : (L + 2) * 2 ≤ (L + 2) * (L + 2) := Nat.mul_le_mul (Nat.le_refl _) (by omega)
  omega
theorem mx_of {L a b : Nat} (ha : a ≤ L) (hb : b ≤ L) : (a + 1) * (b + 1) + 1 ≤ mx L := by
  unfold mx
  have : (a + 1) * (b + 1) ≤ (L + 2) * (L + 2) := Nat.mul_le_mul (by omega) (by omega)
  omega
/-- read from k to k', of a text of L bytes -/
structure TreeOk (L k k' : Nat) (n : Nd) (more : Nat) : Prop where
  w : Wf n
  t : wt n + k ≤ k'
  b : bd n ≤ (k' - k + more) * mx L
structure ListOk (L k k' : Nat) (l : List Nd) (bars more : Nat) : Prop where
  w : WfL l
  t : wts l + bars + k ≤ k'
  b : bdm l ≤ (k' - k + more) * mx L
theorem WfL.snoc {l : List Nd} {n : Nd} (h : WfL l) (g : Wf n) : WfL (l ++ [n]) := by
  induction l with
  | nil => unfold WfL; exact ⟨g, by unfold WfL; trivial⟩
  | cons m r ih =>
    rw [List.cons_append]
    unfold WfL at h ⊢
    exact ⟨h.1, ih h.2⟩
theorem wts_snoc (l : List Nd) (n : Nd) : wts (l ++ [n]) = wts l + wt n := by
  induction l with
  | nil => simp [wts]
  | cons m r ih => rw [List.cons_append]; unfold wts; rw [ih]; omega
theorem bdm_snoc (l : List Nd) (n : Nd) : bdm (l ++ [n]) = max (bdm l) (bd n) := by
  induction l with
  | nil => simp [bdm]
  | cons m r ih => rw [List.cons_append]; unfold bdm; rw [ih]; omega
theorem mul_mono {a b m x : Nat} (h : x ≤ a * m) (hab : a ≤ b) : x ≤ b * m := Nat.le_trans h (Nat.mul_le_mul hab (Nat.le_refl _))
theorem mx_one {L a b : Nat} (h : a = b + 1) : a * mx L = b * mx L + mx L := by rw [h, Nat.add_mul, Nat.one_mul]
theorem one_ok {L k k' : Nat} (p : Nat → Bool) (h : k < k') : TreeOk L k k' (.one p) 0 := by
  refine ⟨by unfold Wf; trivial, by unfold wt; omega, ?_⟩
  have := mx_pos L
  unfold bd
  exact mul_mono (a := 1) (by omega) (by omega)
/-- a repeated one -/
theorem rep_ok {L k k' : Nat} {n : Nd} (j : Nat) (hj : j = 3 ∨ j = 4 ∨ j = 5) (h : TreeOk L k k' n 0) (hL : k' ≤ L) (hk : k < k') : TreeOk L k (k' + 1) (.op j [n]) 0 := by
  have ht := h.t
  have hb := h.b
  refine ⟨by unfold Wf WfL WfL; exact ⟨⟨h.w, trivial⟩, .inr (.inr ⟨hj, rfl⟩)⟩, ?_, ?_⟩
  · unfold wt wts wts
    rw [if_neg (by omega), if_neg (by omega)]
    omega
  · unfold bd wts wts bdm bdm
    have h1 := mx_of (L := L) (a := 1) (b := wt n + 0) (by omega) (by omega)
    simp only [List.length_cons, List.length_nil]
    have h2 : (k' + 1 - k + 0) * mx L = (k' - k + 0) * mx L + mx L := mx_one (by omega)
    rw [h2]
    simp only [Nat.zero_add] at h1 ⊢
    omega
theorem turn_ok {L k k' : Nat} {l : List Nd} (h : ListOk L k k' l 0 0) (hl : l.length + k ≤ k') (hL : k' ≤ L) : TreeOk L k k' (.op 1 l) 1 := by
  have ht := h.t
  have hb := h.b
  refine ⟨by unfold Wf; exact ⟨h.w, .inl rfl⟩, by unfold wt; rw [if_pos rfl]; omega, ?_⟩
  unfold bd
  have h1 := mx_of (L := L) (a := l.length) (b := wts l) (by omega) (by omega)
  rw [mx_one (L := L) (a := k' - k + 1) (b := k' - k + 0) (by omega)]
  omega
theorem alt_ok {L k k' : Nat} {l : List Nd} {m : Nat} (h : ListOk L k k' l (l.length - 1) 1) (h0 : l ≠ []) (hL : k' ≤ L) (hm : l.length ≤ L + 1) (hl : m = 2) : TreeOk L k k' (.op 2 l) m := by
  subst hl
  have ht := h.t
  have hb := h.b
  refine ⟨by unfold Wf; exact ⟨h.w, .inr (.inl ⟨rfl, h0⟩)⟩, by unfold wt; rw [if_neg (by omega), if_pos rfl]; omega, ?_⟩
  unfold bd
  have h1 : (l.length + 1) * (wts l + 1) + 1 ≤ mx L := by
    unfold mx
    have : (l.length + 1) * (wts l + 1) ≤ (L + 2) * (L + 2) := Nat.mul_le_mul (by omega) (by omega)
    omega
  rw [mx_one (L := L) (a := k' - k + 2) (b := k' - k + 1) (by omega)]
  omega
def BrOk (s : List UInt8) (br : Nat → Bool × Nd × Nat) : Prop := ∀ k, k ≤ s.length → (br k).1 = true → TreeOk s.length k (br k).2.2 (br k).2.1 2
theorem atom_ok {s : List UInt8} {br : Nat → Bool × Nd × Nat} {k : Nat} (hb : BrLe s br) (ho : BrOk s br) (hk : k ≤ s.length) (h : (atomS s br k).1 = true) : TreeOk s.length k (atomS s br k).2.2 (atomS s br k).2.1 0 := by
  have hle := atomS_le hb hk
  unfold atomS at h hle ⊢
  cases h1 : isAt s k 46
  · cases h2 : isAt s k 40
    · cases h3 : isAt s k 91
      · simp only [h1, h2, h3, Bool.false_eq_true, if_false] at h hle ⊢
        cases e : (letterS s spL bsL k).1
        · rw [e] at h; simp at h
        · rw [e] at hle
          simp only [if_true] at hle ⊢
          exact one_ok _ (hle.2.2 trivial)
      · simp only [h1, h2, h3, Bool.false_eq_true, if_false, if_true] at h hle ⊢
        exact one_ok _ (hle.2.2 h)
    · simp only [h1, h2, Bool.false_eq_true, if_false, if_true] at h hle ⊢
      cases e : (br (k + 1)).1
      · rw [e] at h; simp at h
      · rw [e] at h hle
        simp only [if_true] at h hle ⊢
        cases e2 : isAt s (br (k + 1)).2.2 41
        · rw [e2] at h; simp at h
        · have hk1 := isAt_len h2
          have hbk := hb (k + 1) (by omega)
          have o := ho (k + 1) (by omega) e
          have ht := o.t
          have hbb := o.b
          simp only [if_true]
          refine ⟨o.w, by omega, ?_⟩
          exact mul_mono hbb (by omega)
  · simp only [h1, if_true] at h hle ⊢
    exact one_ok _ (by omega)
theorem piece_ok {s : List UInt8} {br : Nat → Bool × Nd × Nat} {k : Nat} (hb : BrLe s br) (ho : BrOk s br) (hk : k ≤ s.length) (h : (pieceS s br k).1 = true) : TreeOk s.length k (pieceS s br k).2.2 (pieceS s br k).2.1 0 := by
  have ha := atomS_le hb hk
  have oa := atom_ok hb ho hk
  unfold pieceS at h ⊢
  obtain ⟨r, hr⟩ : ∃ r, atomS s br k = r := ⟨_, rfl⟩
  rw [hr] at ha oa h ⊢
  obtain ⟨ok, n, k1⟩ := r
  simp only at ha oa h ⊢
  cases ok
  · simp at h
  have o := oa rfl
  have hlt := ha.2.2 rfl
  simp only [if_true]
  cases e1 : isAt s k1 42
  · cases e2 : isAt s k1 43
    · cases e3 : isAt s k1 63
      · exact o
      · exact rep_ok 5 (.inr (.inr rfl)) o ha.1 hlt
    · exact rep_ok 4 (.inr (.inl rfl)) o ha.1 hlt
  · exact rep_ok 3 (.inl rfl) o ha.1 hlt
theorem pieces_ok {s : List UInt8} {br : Nat → Bool × Nd × Nat} (hb : BrLe s br) (ho : BrOk s br) (k0 : Nat) : ∀ (f k : Nat) (acc : List Nd), k ≤ s.length → ListOk s.length k0 k acc 0 0 → acc.length + k0 ≤ k → (piecesF s br f k acc).1 = true →
    ListOk s.length k0 (piecesF s br f k acc).2.2 (piecesF s br f k acc).2.1 0 0 ∧ (piecesF s br f k acc).2.1.length + k0 ≤ (piecesF s br f k acc).2.2
  | 0, k, acc, hk, h, hl, e => by simp [piecesF] at e
  | f + 1, k, acc, hk, h, hl, e => by
    have hp := pieceS_le hb hk
    have op := piece_ok hb ho hk
    unfold piecesF at e ⊢
    cases e1 : goesOn s k
    · exact ⟨h, hl⟩
    · rw [e1] at e
      simp only [if_true] at e ⊢
      cases e2 : (pieceS s br k).1
      · rw [e2] at e; simp at e
      · rw [e2] at e
        simp only [if_true] at e ⊢
        have o := op e2
        have hlt := hp.2.2 e2
        refine pieces_ok hb ho k0 f _ _ hp.1 ?_ (by simp; omega) e
        have h1 := h.t
        have h2 := o.t
        have h3 := h.b
        have h4 := o.b
        refine ⟨h.w.snoc o.w, by rw [wts_snoc]; omega, ?_⟩
        rw [bdm_snoc]
        have a1 := mul_mono h3 (b := (pieceS s br k).2.2 - k0 + 0) (by omega)
        have a2 := mul_mono h4 (b := (pieceS s br k).2.2 - k0 + 0) (by omega)
        omega
theorem alts_ok {s : List UInt8} {br : Nat → Bool × Nd × Nat} (hb : BrLe s br) (ho : BrOk s br) (k0 : Nat) : ∀ (f k : Nat) (acc : List Nd), k0 ≤ k → k ≤ s.length → ListOk s.length k0 k acc acc.length 1 → (altF s br f k acc).1 = true →
    TreeOk s.length k0 (altF s br f k acc).2.2 (.op 2 (altF s br f k acc).2.1) 2
  | 0, k, acc, h0, hk, h, e => by simp [altF] at e
  | f + 1, k, acc, h0, hk, h, e => by
    have hp := piecesF_le hb (s.length + 1) k [] hk
    have op := pieces_ok hb ho k (s.length + 1) k [] hk ⟨by unfold WfL; trivial, by simp [wts], by simp [bdm]⟩ (by simp)
    unfold altF at e ⊢
    simp only at e ⊢
    obtain ⟨r, hr⟩ : ∃ r, piecesF s br (s.length + 1) k [] = r := ⟨_, rfl⟩
    rw [hr] at hp op e ⊢
    obtain ⟨ok, ps, k1⟩ := r
    simp only at hp op e ⊢
    cases ok
    · simp at e
    obtain ⟨o1, o2⟩ := op rfl
    have o := turn_ok o1 o2 hp.1
    have h1 := h.t
    have h2 := o.t
    have h3 := h.b
    have h4 := o.b
    have a1 := mul_mono h3 (b := k1 - k0 + 1) (by omega)
    have a2 := mul_mono h4 (b := k1 - k0 + 1) (by omega)
    simp only [if_true] at e ⊢
    cases e2 : isAt s k1 124
    · simp only [e2, Bool.false_eq_true, if_false] at e ⊢
      refine alt_ok ⟨h.w.snoc o.w, by rw [wts_snoc]; simp; omega, by rw [bdm_snoc]; omega⟩ (by simp) hp.1 (by simp; omega) rfl
    · have hk1 := isAt_len e2
      simp only [e2, if_true] at e ⊢
      have a3 := mul_mono a1 (b := k1 + 1 - k0 + 1) (by omega)
      have a4 := mul_mono a2 (b := k1 + 1 - k0 + 1) (by omega)
      exact alts_ok hb ho k0 f (k1 + 1) _ (by omega) (by omega) ⟨h.w.snoc o.w, by rw [wts_snoc]; simp; omega, by rw [bdm_snoc]; omega⟩ e
theorem pat_ok (s : List UInt8) : ∀ d, BrOk s (patS s d)
  | 0 => fun k hk h => by simp [patS] at h
  | d + 1 => fun k hk h => alts_ok (patS_le s d) (pat_ok s d) k (s.length + 1) k [] (Nat.le_refl _) hk ⟨by unfold WfL; trivial, by simp [wts], by simp [bdm]⟩ h
/-- a pattern of no more than 4096 bytes may be built -/
theorem pat_room {s : List UInt8} {d k : Nat} (hs : s.length ≤ 4096) (hk : k ≤ s.length) (h : (patS s d k).1 = true) : Wf (patS s d k).2.1 ∧ 1 + bd (patS s d k).2.1 ≤ 1000000000000 := by
  have o := pat_ok s d k hk h
  have hle := (patS_le s d k hk).1
  refine ⟨o.w, ?_⟩
  have h1 := o.b
  have h2 : mx s.length ≤ 4098 * 4098 + 1 := by
    unfold mx
    have : (s.length + 2) * (s.length + 2) ≤ 4098 * 4098 := Nat.mul_le_mul (by omega) (by omega)
    omega
  have h3 : ((patS s d k).2.2 - k + 2) * mx s.length ≤ 4098 * (4098 * 4098 + 1) := Nat.mul_le_mul (by omega) h2
  omega
end Go.Proofs.Ytnlfndhgdeapeaa
