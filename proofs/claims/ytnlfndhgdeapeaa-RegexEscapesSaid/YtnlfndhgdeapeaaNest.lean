/- Stars within stars: what they read, and what they match. No program in it. -/
import Derived.Test.YtnlfndhgdeapeaaText
namespace Go.Proofs.Ytnlfndhgdeapeaa
open Go.RowKit
set_option maxRecDepth 100000
set_option maxHeartbeats 1000000

/-- deep brackets about a -/
def nestT (d : Nat) : List UInt8 := List.replicate d 40 ++ ([97] ++ ((List.replicate d [42, 41]).flatten ++ [42]))
def nestN : Nat → Nd
  | 0 => .op 2 [.op 1 [.op 3 [.one (fun x => false || inR 97 97 x)]]]
  | d + 1 => .op 2 [.op 1 [.op 3 [nestN d]]]
theorem rep_flat (d : Nat) (l : List UInt8) : (List.replicate (d + 1) l).flatten = (List.replicate d l).flatten ++ l := by
  rw [List.replicate_succ', List.flatten_append]
  simp
theorem nestT_s (d : Nat) : nestT (d + 1) = 40 :: (nestT d ++ [41, 42]) := by
  unfold nestT
  rw [rep_flat, List.replicate_succ]
  simp
theorem flat2_len (d : Nat) : ((List.replicate d ([42, 41] : List UInt8)).flatten).length = 2 * d := by
  induction d with
  | zero => rfl
  | succ d ih => rw [rep_flat, List.length_append, ih]; simp; omega
theorem nestT_len (d : Nat) : (nestT d).length = 3 * d + 2 := by
  unfold nestT
  rw [List.length_append, List.length_append, List.length_append, flat2_len, List.length_replicate]
  simp
  omega
theorem nest_read : ∀ d, readS (nestT d) = (true, nestN d, (nestT d).length)
  | 0 => by kernel_rfl
  | d + 1 => by
    rw [nestT_s]
    exact read_rep (nest_read d) 42 3 (.inl ⟨rfl, rfl⟩)
theorem star_all {P : List UInt8 → Prop} {p : UInt8 → Prop} (hP : ∀ b, P b ↔ ∀ c ∈ b, p c) (b : List UInt8) : Star P b ↔ ∀ c ∈ b, p c := by
  constructor
  · intro h
    induction h with
    | nil => simp
    | cons hx _ ih =>
      intro c hc
      rcases List.mem_append.1 hc with e | e
      · exact (hP _).1 hx c e
      · exact ih c e
  · intro h
    exact star_one ((hP b).2 h)
theorem lg_one (p : Nat → Bool) (b : List UInt8) : Lg (.one p) b ↔ ∃ c : UInt8, b = [c] ∧ p c.toNat = true := by
  unfold Lg
  exact Iff.rfl
theorem star_leaf {p : Nat → Bool} (b : List UInt8) : Star (Lg (.one p)) b ↔ ∀ c ∈ b, p c.toNat = true := by
  constructor
  · intro h
    induction h with
    | nil => simp
    | cons hx _ ih =>
      obtain ⟨d, rfl, hd⟩ := (lg_one _ _).1 hx
      intro c hc
      rcases List.mem_cons.1 (by simpa using hc) with e | e
      · rw [e]; exact hd
      · exact ih c e
  · intro h
    induction b with
    | nil => exact .nil
    | cons c r ih =>
      have := Star.cons (P := Lg (.one p)) ((lg_one _ _).2 ⟨c, rfl, h c (by simp)⟩) (ih fun d hd => h d (by simp [hd]))
      simpa using this
theorem leaf_eq (a c : UInt8) : (false || inR a.toNat a.toNat c.toNat) = true ↔ c = a := by
  rw [Bool.false_or]
  unfold inR
  rw [← UInt8.toNat_inj]
  simp
  omega
theorem nest_lang : ∀ d b, Lg (nestN d) b ↔ ∀ c ∈ b, c = 97
  | 0, b => by
    unfold nestN
    rw [lg_piece, lg_star, star_leaf]
    have h : ∀ c : UInt8, (false || inR 97 97 c.toNat) = true ↔ c = 97 := leaf_eq 97
    simp only [h]
  | d + 1, b => by
    unfold nestN
    rw [lg_piece, lg_star]
    exact star_all (nest_lang d) b
theorem td_open (r : List UInt8) : ∀ (m k e : Nat), e ≤ 40 → tdS (List.replicate m 40 ++ r) k e false = if e + m ≤ 40 then tdS r (k + m) (e + m) false else some (k + (40 - e))
  | 0, k, e, he => by rw [if_pos (by omega)]; rfl
  | m + 1, k, e, he => by
    rw [List.replicate_succ, List.cons_append]
    conv => lhs; unfold tdS
    rw [if_neg (by decide), if_neg (by decide), if_neg (by decide), if_pos rfl]
    by_cases h : e = 40
    · rw [if_pos h, if_neg (by omega), h]
      simp
    · rw [if_neg h, td_open r m (k + 1) (e + 1) (by omega)]
      by_cases h2 : e + 1 + m ≤ 40
      · rw [if_pos h2, if_pos (by omega), show k + 1 + m = k + (m + 1) by omega, show e + 1 + m = e + (m + 1) by omega]
      · rw [if_neg h2, if_neg (by omega), show k + 1 + (40 - (e + 1)) = k + (40 - e) by omega]
theorem td_calm : ∀ (r : List UInt8) (k e : Nat), (∀ c ∈ r, c ≠ 92 ∧ c ≠ 91 ∧ c ≠ 40) → tdS r k e false = none
  | [], k, e, h => rfl
  | c :: r, k, e, h => by
    obtain ⟨h1, h2, h3⟩ := h c (by simp)
    have ih := fun k e => td_calm r k e fun d hd => h d (by simp [hd])
    unfold tdS
    rw [if_neg h1, if_neg (by decide), if_neg h2, if_neg h3]
    split
    · exact ih _ _
    · exact ih _ _
theorem nest_td (d : Nat) : tdS (nestT d) 0 0 false = if d ≤ 40 then none else some 40 := by
  unfold nestT
  rw [td_open _ _ _ _ (by omega)]
  by_cases h : d ≤ 40
  · rw [if_pos (by omega), if_pos h]
    refine td_calm _ _ _ fun c hc => ?_
    have : c = 97 ∨ c = 42 ∨ c = 41 := by
      rcases List.mem_append.1 hc with e | e
      · exact .inl (by simpa using e)
      · rcases List.mem_append.1 e with e | e
        · obtain ⟨l, hl, hcl⟩ := List.mem_flatten.1 e
          obtain rfl := List.eq_of_mem_replicate hl
          simp at hcl
          rcases hcl with e | e
          · exact .inr (.inl e)
          · exact .inr (.inr e)
        · exact .inr (.inl (by simpa using e))
    rcases this with rfl | rfl | rfl <;> decide
  · rw [if_neg (by omega), if_neg h]
theorem nest_tree (d : Nat) (hd : d ≤ 60) : treeS (nestT d) = if d ≤ 40 then .inl (nestN d) else .inr (40, 6) := by
  by_cases h : d ≤ 40
  · rw [if_pos h]
    exact treeS_inl (by rw [nestT_len]; omega) (by rw [nest_td, if_pos h]) (nest_read d)
  · rw [if_neg h]
    unfold treeS
    rw [if_neg (by rw [nestT_len]; omega), nest_td, if_neg h]
theorem nest_hits (d n : Nat) (e : Bool) (hw : Wf (nestN d)) : hits (nestN d) (List.replicate n 97 ++ (if e then [98] else [])) = !e := by
  refine hits_eq hw ?_
  rw [nest_lang]
  cases e
  · simp
  · simp
end Go.Proofs.Ytnlfndhgdeapeaa
