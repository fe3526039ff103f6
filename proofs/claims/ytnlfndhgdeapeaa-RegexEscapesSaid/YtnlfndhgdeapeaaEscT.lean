/- Escape's text as a pattern: it matches just the text. No program in it. -/
import Derived.Test.YtnlfndhgdeapeaaNest
namespace Go.Proofs.Ytnlfndhgdeapeaa
open Go.RowKit
set_option maxRecDepth 100000
set_option maxHeartbeats 1000000

def leafN (c : UInt8) : Nd := .one (fun x => false || inR c.toNat c.toNat x)
def escN (s : List UInt8) : Nd := .op 2 [.op 1 (s.map leafN)]
theorem among_ne {L : List UInt8} {c d : UInt8} (h : amongB L c = false) (hd : amongB L d = true) : c ≠ d := by
  rintro rfl
  rw [h] at hd
  cases hd
theorem escB_yes {c : UInt8} (h : amongB spL c = true) : escB c = [92, c] := by unfold escB; rw [if_pos h]
theorem escB_no {c : UInt8} (h : amongB spL c = false) : escB c = [c] := by unfold escB; rw [if_neg (by rw [h]; decide)]
theorem escS_cons (c : UInt8) (s : List UInt8) : escS (c :: s) = escB c ++ escS s := by unfold escS; rfl
/-- what an escaped text begins with -/
theorem escS_head (s : List UInt8) : escS s = [] ∨ ∃ h r, escS s = h :: r ∧ (h = 92 ∨ amongB spL h = false) := by
  cases s with
  | nil => exact .inl rfl
  | cons c r =>
    rw [escS_cons]
    cases e : amongB spL c
    · rw [escB_no e]
      exact .inr ⟨c, escS r, rfl, .inr e⟩
    · rw [escB_yes e]
      exact .inr ⟨92, c :: escS r, rfl, .inl rfl⟩
theorem sp_bs {c : UInt8} (h : amongB spL c = true) : amongB bsL c = true := by
  unfold amongB at h ⊢
  have := of_decide_eq_true h
  refine decide_eq_true ?_
  simp only [spL, List.mem_cons, List.not_mem_nil, or_false] at this
  rcases this with rfl | rfl | rfl | rfl | rfl | rfl | rfl | rfl | rfl | rfl <;> decide
theorem esc_letter {t pre r : List UInt8} {c : UInt8} (ht : t = pre ++ (escB c ++ r)) : letterS t spL bsL pre.length = (true, c, pre.length + (escB c).length) := by
  unfold letterS
  cases e : amongB spL c
  · rw [escB_no e] at ht ⊢
    have h0 : t[pre.length]? = some c := by rw [ht]; simp
    have h1 : isAt t pre.length 92 = false := by
      rw [at_of h0]
      exact decide_eq_false (among_ne e (by decide))
    simp only [h1, Bool.false_eq_true, if_false, h0, e]
    rfl
  · rw [escB_yes e] at ht ⊢
    have h0 : t[pre.length]? = some 92 := by rw [ht]; simp
    have h1 : t[pre.length + 1]? = some c := by rw [ht, List.getElem?_append_right (by omega)]; simp
    have h2 : isAt t pre.length 92 = true := by rw [at_of h0]; decide
    simp only [h2, if_true, h1, sp_bs e]
    rfl
theorem esc_first {t pre r : List UInt8} {c : UInt8} (ht : t = pre ++ (escB c ++ r)) : ∃ h, t[pre.length]? = some h ∧ (h = 92 ∨ amongB spL h = false) := by
  cases e : amongB spL c
  · rw [escB_no e] at ht
    exact ⟨c, by rw [ht]; simp, .inr e⟩
  · rw [escB_yes e] at ht
    exact ⟨92, by rw [ht]; simp, .inl rfl⟩
theorem calm_ne {h d : UInt8} (hh : h = 92 ∨ amongB spL h = false) (hd : amongB spL d = true) (h92 : d ≠ 92) : h ≠ d := by
  rcases hh with rfl | e
  · exact fun e => h92 e.symm
  · exact among_ne e hd
theorem esc_piece {t pre r : List UInt8} {c : UInt8} {br : Nat → Bool × Nd × Nat} (ht : t = pre ++ (escB c ++ escS r)) : goesOn t pre.length = true ∧ pieceS t br pre.length = (true, leafN c, (pre ++ escB c).length) := by
  obtain ⟨h, h0, hh⟩ := esc_first ht
  have hl := esc_letter ht
  refine ⟨?_, ?_⟩
  · rw [goes_of h0, decide_eq_false (calm_ne hh (by decide) (by decide)), decide_eq_false (calm_ne hh (by decide) (by decide))]
    rfl
  · have ha : atomS t br pre.length = (true, leafN c, (pre ++ escB c).length) := by
      unfold atomS
      rw [at_of h0, at_of h0, at_of h0, decide_eq_false (calm_ne hh (by decide) (by decide)), decide_eq_false (calm_ne hh (by decide) (by decide)), decide_eq_false (calm_ne hh (by decide) (by decide)), hl]
      simp only [Bool.false_eq_true, if_false, if_true, List.length_append]
      rfl
    refine piece_plain ha ?_
    rcases escS_head r with e | ⟨g, q, e, hg⟩
    · have : (pre ++ escB c).length = t.length := by rw [ht, e, List.append_nil]
      rw [this]
      exact plain_end t
    · have h1 : t[(pre ++ escB c).length]? = some g := by
        rw [ht, e, ← List.append_assoc, List.getElem?_append_right (Nat.le_refl _)]
        simp
      exact plain_of h1 (calm_ne hg (by decide) (by decide)) (calm_ne hg (by decide) (by decide)) (calm_ne hg (by decide) (by decide))
theorem esc_pieces {t : List UInt8} {br : Nat → Bool × Nd × Nat} : ∀ (r pre : List UInt8) (f : Nat) (acc : List Nd), t = pre ++ escS r → r.length < f → piecesF t br f pre.length acc = (true, acc ++ r.map leafN, t.length)
  | [], pre, f, acc, ht, hf => by
    obtain ⟨f, rfl⟩ : ∃ g, f = g + 1 := ⟨f - 1, by omega⟩
    have e : pre.length = t.length := by rw [ht]; simp [escS]
    rw [e, pieces_end goes_end]
    simp
  | c :: r, pre, f, acc, ht, hf => by
    obtain ⟨f, rfl⟩ : ∃ g, f = g + 1 := ⟨f - 1, by omega⟩
    rw [escS_cons] at ht
    obtain ⟨h1, h2⟩ := esc_piece (br := br) ht
    rw [pieces_one h1 h2, esc_pieces r (pre ++ escB c) f _ (by rw [ht]; simp) (by simp at hf; omega)]
    simp
theorem escS_ge (s : List UInt8) : s.length ≤ (escS s).length := by
  induction s with
  | nil => simp
  | cons c r ih =>
    rw [escS_cons, List.length_append]
    have : 1 ≤ (escB c).length := by unfold escB; split <;> simp
    simp
    omega
theorem esc_read (s : List UInt8) : readS (escS s) = (true, escN s, (escS s).length) := by
  refine read_of ?_
  have h := esc_pieces (t := escS s) (br := patS (escS s) (escS s).length) s [] ((escS s).length + 1) [] rfl (by have := escS_ge s; omega)
  rw [List.length_nil] at h
  rw [alt_last h (at_none (List.getElem?_eq_none (Nat.le_refl _)) _)]
  rfl
theorem leaf_lang (c : UInt8) (b : List UInt8) : Lg (leafN c) b ↔ b = [c] := by
  unfold leafN
  rw [lg_one]
  constructor
  · rintro ⟨d, rfl, h⟩
    rw [(leaf_eq c d).1 h]
  · rintro rfl
    exact ⟨c, rfl, (leaf_eq c c).2 rfl⟩
theorem turn_lang : ∀ (s b : List UInt8), LgTurn (s.map leafN) b ↔ b = s
  | [], b => by
    rw [List.map_nil]
    unfold LgTurn
    exact Iff.rfl
  | c :: r, b => by
    rw [List.map_cons]
    unfold LgTurn
    constructor
    · rintro ⟨x, y, rfl, hx, hy⟩
      rw [(leaf_lang c x).1 hx, (turn_lang r y).1 hy]
      rfl
    · rintro rfl
      exact ⟨[c], r, rfl, (leaf_lang c _).2 rfl, (turn_lang r r).2 rfl⟩
theorem esc_lang (s b : List UInt8) : Lg (escN s) b ↔ b = s := by
  unfold escN
  rw [lg_top, lgAlt_one, lg_turn]
  exact turn_lang s b
theorem td_esc (r : List UInt8) : ∀ (s : List UInt8) (k d : Nat), tdS (escS s ++ r) k d false = tdS r (k + (escS s).length) d false
  | [], k, d => rfl
  | c :: s, k, d => by
    rw [escS_cons, List.append_assoc]
    cases e : amongB spL c
    · rw [escB_no e]
      show tdS (c :: (escS s ++ r)) k d false = _
      conv => lhs; unfold tdS
      rw [if_neg (among_ne e (by decide)), if_neg (by decide), if_neg (among_ne e (by decide)), if_neg (among_ne e (by decide)), if_neg (among_ne e (by decide)), td_esc r s]
      rw [List.length_append]
      simp only [List.length_cons, List.length_nil]
      rw [show k + 1 + (escS s).length = k + (0 + 1 + (escS s).length) by omega]
    · rw [escB_yes e]
      show tdS (92 :: c :: (escS s ++ r)) k d false = _
      conv => lhs; unfold tdS
      rw [if_pos rfl]
      show tdS (escS s ++ r) (k + 2) d false = _
      rw [td_esc r s, List.length_append]
      simp only [List.length_cons, List.length_nil]
      rw [show k + 2 + (escS s).length = k + (0 + 1 + 1 + (escS s).length) by omega]
theorem esc_tree (s : List UInt8) (hs : s.length ≤ 2000) : treeS (escS s) = .inl (escN s) := by
  refine treeS_inl (by have := escS_len s; omega) ?_ (esc_read s)
  have := td_esc [] s 0 0
  rw [List.append_nil] at this
  rw [this]
  rfl
def repN (j : Nat) (s : List UInt8) : Nd := .op 2 [.op 1 [.op j [escN s]]]
theorem rep_tree (s : List UInt8) (hs : s.length ≤ 2000) (c : UInt8) (j : Nat) (hj : (c = 42 ∧ j = 3) ∨ (c = 43 ∧ j = 4) ∨ (c = 63 ∧ j = 5)) : treeS (40 :: (escS s ++ [41, c])) = .inl (repN j s) := by
  refine treeS_inl (by have := escS_len s; simp; omega) ?_ (read_rep (esc_read s) c j hj)
  conv => lhs; unfold tdS
  rw [if_neg (by decide), if_neg (by decide), if_neg (by decide), if_pos rfl, if_neg (by decide), td_esc]
  rcases hj with ⟨rfl, -⟩ | ⟨rfl, -⟩ | ⟨rfl, -⟩ <;> rfl
def timesT (n : Nat) (s : List UInt8) : List UInt8 := (List.replicate n s).flatten
theorem times_len (n : Nat) (s : List UInt8) : (timesT n s).length = n * s.length := by
  unfold timesT
  induction n with
  | zero => simp
  | succ n ih => rw [rep_flat, List.length_append, ih, Nat.succ_mul]
theorem times_star (n : Nat) (s : List UInt8) : Star (Lg (escN s)) (timesT n s) := by
  induction n with
  | zero => exact .nil
  | succ n ih =>
    unfold timesT
    rw [List.replicate_succ, List.flatten_cons]
    exact .cons ((esc_lang s s).2 rfl) ih
theorem rep_star (n : Nat) (s : List UInt8) (hw : Wf (repN 3 s)) : hits (repN 3 s) (timesT n s) = true := by
  refine hits_eq hw ?_
  unfold repN
  rw [lg_piece, lg_star]
  exact ⟨fun _ => rfl, fun _ => times_star n s⟩
theorem rep_plus (n : Nat) (s : List UInt8) (h0 : 0 < s.length) (hw : Wf (repN 4 s)) : hits (repN 4 s) (timesT n s) = decide (0 < n) := by
  refine hits_eq hw ?_
  unfold repN
  rw [lg_piece, lg_plus, decide_eq_true_eq]
  constructor
  · rintro ⟨x, y, e, hx, -⟩
    have := congrArg List.length e
    rw [times_len, List.length_append, (esc_lang s x).1 hx] at this
    rcases Nat.eq_zero_or_pos n with h | h
    · subst h; omega
    · exact h
  · intro h
    obtain ⟨m, rfl⟩ : ∃ m, n = m + 1 := ⟨n - 1, by omega⟩
    refine ⟨s, timesT m s, ?_, (esc_lang s s).2 rfl, times_star m s⟩
    unfold timesT
    rw [List.replicate_succ, List.flatten_cons]
theorem rep_opt (n : Nat) (s : List UInt8) (h0 : 0 < s.length) (hw : Wf (repN 5 s)) : hits (repN 5 s) (timesT n s) = decide (n ≤ 1) := by
  refine hits_eq hw ?_
  unfold repN
  rw [lg_piece, lg_opt, decide_eq_true_eq]
  constructor
  · intro h
    have hl := times_len n s
    have : (timesT n s).length = 0 ∨ (timesT n s).length = s.length := by
      rcases h with h | h
      · rw [h]; exact .inl rfl
      · rw [(esc_lang s _).1 h]; exact .inr rfl
    rcases Nat.lt_or_ge 1 n with h2 | h2
    · have : 2 * s.length ≤ n * s.length := Nat.mul_le_mul h2 (Nat.le_refl _)
      omega
    · exact h2
  · intro h
    have : n = 0 ∨ n = 1 := by omega
    rcases this with rfl | rfl
    · exact .inl rfl
    · refine .inr ((esc_lang s _).2 ?_)
      unfold timesT
      simp
end Go.Proofs.Ytnlfndhgdeapeaa
