/- The mathematics of the reference's Duration, round by round. -/
import Derived.Test.YthjfmfacnknpfaaDoorRefDur
namespace Go.Proofs.YthjfmfacnknpfaaDoor

def partsE (l : List UInt8) (next : Nat) : Option Nat := if l = [] then some 0 else parts l next
theorem behind_E (C : Nat) (l : List UInt8) (j : Nat) : behind C l j = (partsE l (j + 1)).map (C * unitSize j + ·) := by
  unfold behind partsE
  by_cases h : l = []
  · rw [if_pos h, if_pos h]; rfl
  · rw [if_neg h, if_neg h]
theorem findU_none {nm : List UInt8} (h : ∀ j, j < 5 → unitName j ≠ nm) (next : Nat) : findU nm next = none := by
  unfold findU
  rw [List.find?_eq_none]
  intro j hj hh
  have h5 : j < 5 := by simp at hj; omega
  simp only [Bool.and_eq_true, beq_iff_eq] at hh
  exact h j h5 hh.2
theorem findU_name (j : Nat) (hj : j < 5) (next : Nat) : findU (unitName j) next = if next ≤ j then some j else none := by
  by_cases h : next ≤ j
  · rw [if_pos h]
    unfold findU
    rcases (by omega : j = 0 ∨ j = 1 ∨ j = 2 ∨ j = 3 ∨ j = 4) with rfl | rfl | rfl | rfl | rfl <;> simp [unitName, h]
  · rw [if_neg h]
    unfold findU
    rw [List.find?_eq_none]
    intro i hi hh
    simp only [Bool.and_eq_true, beq_iff_eq, decide_eq_true_eq] at hh
    have h5 : i < 5 := by simp at hi; omega
    have : i = j := by
      rcases (by omega : i = 0 ∨ i = 1 ∨ i = 2 ∨ i = 3 ∨ i = 4) with rfl | rfl | rfl | rfl | rfl <;> rcases (by omega : j = 0 ∨ j = 1 ∨ j = 2 ∨ j = 3 ∨ j = 4) with rfl | rfl | rfl | rfl | rfl <;> first | rfl | (have := hh.2; simp [unitName] at this)
    omega
/-- of a unit's name and what is behind it -/
theorem name_spec (C next j : Nat) (hj : j < 5) (t : List UInt8) (hl : ∀ x t', t = x :: t' → ndg x = true → ∀ i, i < 5 → unitName i ≠ unitName j ++ (x :: t'.takeWhile ndg)) :
    partsS C (unitName j ++ t.takeWhile ndg) (t.dropWhile ndg) next = if next ≤ j then (partsE t (j + 1)).map (C * unitSize j + ·) else none := by
  unfold partsS
  cases t with
  | nil =>
    simp only [List.takeWhile_nil, List.dropWhile_nil, List.append_nil]
    rw [findU_name j hj]
    by_cases h : next ≤ j
    · rw [if_pos h, if_pos h]; exact behind_E _ _ _
    · rw [if_neg h, if_neg h]
  | cons x t' =>
    cases hx : ndg x
    · rw [List.takeWhile_cons, List.dropWhile_cons, hx]
      simp only [Bool.false_eq_true, if_false, List.append_nil]
      rw [findU_name j hj]
      by_cases h : next ≤ j
      · rw [if_pos h, if_pos h]; exact behind_E _ _ _
      · rw [if_neg h, if_neg h]
    · rw [List.takeWhile_cons, List.dropWhile_cons, hx]
      simp only [if_true]
      rw [findU_none (hl x t' rfl hx)]
      have hd : dgt x = false := by simpa [ndg] using hx
      by_cases h : next ≤ j
      · rw [if_pos h]
        unfold partsE
        rw [if_neg (by simp), parts_not hd]; rfl
      · rw [if_neg h]
theorem none_spec (C next : Nat) (c : UInt8) (t : List UInt8) (h : ∀ q, ∀ i, i < 5 → unitName i ≠ c :: q) : partsS C ((c :: t).takeWhile ndg) ((c :: t).dropWhile ndg) next = none := by
  unfold partsS
  rw [List.takeWhile_cons]
  cases hx : ndg c
  · simp only [Bool.false_eq_true, if_false]
    rw [findU_none]
    intro j hj
    rcases (by omega : j = 0 ∨ j = 1 ∨ j = 2 ∨ j = 3 ∨ j = 4) with rfl | rfl | rfl | rfl | rfl <;> simp [unitName]
  · simp only [if_true]
    rw [findU_none (h _)]
theorem unitL_cons (c : UInt8) (t : List UInt8) : unitL (c :: t) = if c = 109 ∧ t.head? = some 115 then (4, 2) else if c = 100 then (0, 1) else if c = 104 then (1, 1) else if c = 109 then (2, 1) else if c = 115 then (3, 1) else (-1, 0) := rfl
theorem unit_spec (C next : Nat) (l : List UInt8) :
    (((unitL l).1 < next ∧ partsS C (l.takeWhile ndg) (l.dropWhile ndg) next = none) ∨
     ∃ j, j < 5 ∧ next ≤ j ∧ (unitL l).1 = (j : Nat) ∧ (unitL l).2 ≤ l.length ∧ partsS C (l.takeWhile ndg) (l.dropWhile ndg) next = (partsE (l.drop (unitL l).2) (j + 1)).map (C * unitSize j + ·)) := by
  cases l with
  | nil =>
    refine .inl ⟨by simp [unitL]; omega, ?_⟩
    unfold partsS
    rw [findU_none]
    · intro j hj
      rcases (by omega : j = 0 ∨ j = 1 ∨ j = 2 ∨ j = 3 ∨ j = 4) with rfl | rfl | rfl | rfl | rfl <;> simp [unitName]
  | cons c t =>
    have one : ∀ (k : UInt8) (j : Nat), j < 5 → c = k → unitName j = [k] → ndg k = true → unitL (c :: t) = (((j : Nat) : Int), 1) →
        (∀ x t', t = x :: t' → ndg x = true → ∀ i, i < 5 → unitName i ≠ unitName j ++ (x :: t'.takeWhile ndg)) →
        (((unitL (c :: t)).1 < next ∧ partsS C ((c :: t).takeWhile ndg) ((c :: t).dropWhile ndg) next = none) ∨
         ∃ j, j < 5 ∧ next ≤ j ∧ (unitL (c :: t)).1 = (j : Nat) ∧ (unitL (c :: t)).2 ≤ (c :: t).length ∧ partsS C ((c :: t).takeWhile ndg) ((c :: t).dropWhile ndg) next = (partsE ((c :: t).drop (unitL (c :: t)).2) (j + 1)).map (C * unitSize j + ·)) := by
      intro k j hj hc hn hk hu hl
      have h := name_spec C next j hj t hl
      rw [hn] at h
      have e1 : (c :: t).takeWhile ndg = [k] ++ t.takeWhile ndg := by rw [List.takeWhile_cons, hc, hk]; rfl
      have e2 : (c :: t).dropWhile ndg = t.dropWhile ndg := by rw [List.dropWhile_cons, hc, hk]; rfl
      rw [e1, e2, h, hu]
      by_cases hle : next ≤ j
      · exact .inr ⟨j, hj, hle, rfl, by simp, by rw [if_pos hle]; rfl⟩
      · exact .inl ⟨by simp; omega, by rw [if_neg hle]⟩
    by_cases h2 : c = 109 ∧ t.head? = some 115
    · obtain ⟨hc, ht⟩ := h2
      obtain ⟨t', rfl⟩ : ∃ t', t = 115 :: t' := by
        cases t with
        | nil => simp at ht
        | cons x t' => simp at ht; exact ⟨t', by rw [ht]⟩
      subst hc
      have hu : unitL (109 :: 115 :: t') = (4, 2) := by simp [unitL]
      have h := name_spec C next 4 (by decide) t' (by
        intro x t'' _ _ i hi
        rcases (by omega : i = 0 ∨ i = 1 ∨ i = 2 ∨ i = 3 ∨ i = 4) with rfl | rfl | rfl | rfl | rfl <;> simp [unitName])
      have e1 : (109 :: 115 :: t').takeWhile ndg = unitName 4 ++ t'.takeWhile ndg := by
        rw [List.takeWhile_cons, List.takeWhile_cons]; rfl
      have e2 : (109 :: 115 :: t').dropWhile ndg = t'.dropWhile ndg := by
        rw [List.dropWhile_cons, List.dropWhile_cons]; rfl
      rw [e1, e2, h, hu]
      by_cases hle : next ≤ 4
      · exact .inr ⟨4, by decide, hle, rfl, by simp, by rw [if_pos hle]; rfl⟩
      · exact .inl ⟨by simp; omega, by rw [if_neg hle]⟩
    · by_cases c1 : c = 100
      · exact one 100 0 (by decide) c1 rfl rfl (by simp [unitL, c1]) (by
          intro x t' _ _ i hi
          rcases (by omega : i = 0 ∨ i = 1 ∨ i = 2 ∨ i = 3 ∨ i = 4) with rfl | rfl | rfl | rfl | rfl <;> simp [unitName])
      · by_cases c2 : c = 104
        · exact one 104 1 (by decide) c2 rfl rfl (by simp [unitL, c2]) (by
            intro x t' _ _ i hi
            rcases (by omega : i = 0 ∨ i = 1 ∨ i = 2 ∨ i = 3 ∨ i = 4) with rfl | rfl | rfl | rfl | rfl <;> simp [unitName])
        · by_cases c3 : c = 109
          · exact one 109 2 (by decide) c3 rfl rfl (by rw [unitL_cons, if_neg h2, if_neg c1, if_neg c2, if_pos c3]; rfl) (by
              intro x t' hx _ i hi
              have hne : x ≠ 115 := by
                intro e
                apply h2
                rw [hx, e]
                exact ⟨c3, rfl⟩
              rcases (by omega : i = 0 ∨ i = 1 ∨ i = 2 ∨ i = 3 ∨ i = 4) with rfl | rfl | rfl | rfl | rfl <;> simp [unitName]
              intro e
              exact absurd e.symm hne)
          · by_cases c4 : c = 115
            · exact one 115 3 (by decide) c4 rfl rfl (by rw [unitL_cons, if_neg h2, if_neg c1, if_neg c2, if_neg c3, if_pos c4]; rfl) (by
                intro x t' _ _ i hi
                rcases (by omega : i = 0 ∨ i = 1 ∨ i = 2 ∨ i = 3 ∨ i = 4) with rfl | rfl | rfl | rfl | rfl <;> simp [unitName])
            · have hu : unitL (c :: t) = (-1, 0) := by rw [unitL_cons, if_neg h2, if_neg c1, if_neg c2, if_neg c3, if_neg c4]
              refine .inl ⟨by rw [hu]; simp; omega, none_spec C next c t ?_⟩
              intro q i hi
              rcases (by omega : i = 0 ∨ i = 1 ∨ i = 2 ∨ i = 3 ∨ i = 4) with rfl | rfl | rfl | rfl | rfl <;> simp [unitName] <;> intro e <;> simp_all

/-- the sum of the reference stands for T -/
def Sum2 (T : Nat) (b : Bool) (t : Nat) : Prop := (T ≤ 1125899906842624 → b = false ∧ t = T) ∧ (1125899906842624 < T → b = true) ∧ t ≤ 1125899906842624
/-- a number of the reference stands for C; b0: what was too great ahead of it -/
def Num2 (b0 : Bool) (C : Nat) (b : Bool) (n : Nat) : Prop := (C ≤ 1125899906842624 → b = b0 ∧ n = C) ∧ (1125899906842624 < C → 1125899906842624 < n) ∧ n ≤ 11258999068426249 ∧ (b0 = true → b = true)
theorem Num2.zero (b : Bool) : Num2 b 0 b 0 := ⟨fun _ => ⟨rfl, rfl⟩, fun h => by omega, by omega, fun h => h⟩
theorem Num2.big {b0 b : Bool} {C n d : Nat} (h : Num2 b0 C b n) (hn : 1125899906842624 < n) : Num2 b0 (10 * C + d) true n := by
  have : 1125899906842624 < C := by
    rcases Nat.lt_or_ge 1125899906842624 C with h1 | h1
    · exact h1
    · have := (h.1 h1).2; omega
  exact ⟨fun h => by omega, fun _ => hn, h.2.2.1, fun _ => rfl⟩
theorem Num2.step {b0 b : Bool} {C n d : Nat} (h : Num2 b0 C b n) (hn : n ≤ 1125899906842624) (hd : d ≤ 9) : Num2 b0 (10 * C + d) b (10 * n + d) := by
  have hC : C ≤ 1125899906842624 := by
    rcases Nat.lt_or_ge 1125899906842624 C with h1 | h1
    · have := h.2.1 h1; omega
    · exact h1
  obtain ⟨e1, e2⟩ := h.1 hC
  subst e2
  exact ⟨fun _ => ⟨e1, rfl⟩, fun h => h, by omega, h.2.2.2⟩
theorem sum_big {T C z t n : Nat} {b0 b : Bool} (hs : Sum2 T b0 t) (hn : Num2 b0 C b n) (hz : 1 ≤ z) (h : 1125899906842624 / z < n ∨ 1125899906842624 - n * z < t) : Sum2 (T + C * z) true t := by
  refine ⟨fun hle => ?_, fun _ => rfl, hs.2.2⟩
  exfalso
  have hC : C ≤ C * z := Nat.le_mul_of_pos_right C (by omega)
  have h1 := (hn.1 (by omega)).2
  have h2 := (hs.1 (by omega)).2
  subst h1 h2
  rcases h with h | h
  · have := (Nat.le_div_iff_mul_le (by omega : 0 < z)).2 (by omega : n * z ≤ 1125899906842624)
    omega
  · omega
theorem sum_ok {T C z t n : Nat} {b0 b : Bool} (hs : Sum2 T b0 t) (hn : Num2 b0 C b n) (hz : 1 ≤ z) (h1 : n ≤ 1125899906842624 / z) (h2 : t ≤ 1125899906842624 - n * z) : Sum2 (T + C * z) b (t + n * z) := by
  have hm : n * z ≤ 1125899906842624 := (Nat.le_div_iff_mul_le (by omega : 0 < z)).1 h1
  have hn2 : n ≤ n * z := Nat.le_mul_of_pos_right n (by omega)
  have hC : C ≤ 1125899906842624 := by
    rcases Nat.lt_or_ge 1125899906842624 C with h3 | h3
    · have := hn.2.1 h3; omega
    · exact h3
  obtain ⟨e1, e2⟩ := hn.1 hC
  subst e1 e2
  refine ⟨fun hle => ?_, fun hlt => ?_, by omega⟩
  · obtain ⟨e3, e4⟩ := hs.1 (by omega)
    exact ⟨e3, by omega⟩
  · rcases Nat.lt_or_ge 1125899906842624 T with h3 | h3
    · exact hs.2.1 h3
    · have := (hs.1 h3).2; omega
theorem res_big {T t : Nat} {b : Bool} (h : Sum2 T b t) (hb : b = true ∨ t = 0) : resV (some T) = 0 ∧ resE (some T) = 1 := by
  have : ¬ (1 ≤ T ∧ T ≤ 1125899906842624) := by
    rintro ⟨h1, h2⟩
    obtain ⟨e1, e2⟩ := h.1 h2
    rcases hb with hb | hb
    · rw [hb] at e1; cases e1
    · omega
  simp only [resV, resE]
  rw [if_neg this, if_neg this]
  exact ⟨rfl, rfl⟩
theorem res_ok {T t : Nat} (h : Sum2 T false t) (hb : t ≠ 0) : resV (some T) = t ∧ resE (some T) = 0 := by
  have hT : T ≤ 1125899906842624 := by
    rcases Nat.lt_or_ge 1125899906842624 T with h1 | h1
    · have := h.2.1 h1; cases this
    · exact h1
  have := (h.1 hT).2
  subst this
  simp only [resV, resE]
  rw [if_pos (by omega), if_pos (by omega)]
  exact ⟨rfl, rfl⟩
end Go.Proofs.YthjfmfacnknpfaaDoor
