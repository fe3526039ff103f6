/- Blocks of a list; insertion sort keeps those of one time in their order. -/
import Derived.Test.YtllhkegefinlbaaGreatDoorGSymG
namespace Go.Proofs.YtllhkegefinlbaaGreatDoor.Gs
open Go.RowKit Go.Sort
set_option maxRecDepth 100000
variable {tp : Bool} {ca : Nat}

/-- the i-th block of s -/
def blk (s i : Nat) (l : List (Po tp)) : List (Po tp) := (l.drop (i * s)).take s
theorem blk_get (s i : Nat) (l : List (Po tp)) (t : Nat) : (blk s i l)[t]? = if t < s then l[i * s + t]? else none := by
  unfold blk; rw [List.getElem?_take]; split
  · rw [List.getElem?_drop]
  · rfl
theorem AscT.sub {a b : List (Po tp)} (h : AscT b) (g : a.Sublist b) : AscT a := List.Pairwise.sublist g h
theorem blk_out {s i : Nat} {P U R S : List (Po tp)} (hR : R.length = U.length) (h : i * s + s ≤ P.length ∨ P.length + U.length ≤ i * s) : blk s i (P ++ (R ++ S)) = blk s i (P ++ (U ++ S)) := by
  apply List.ext_getElem?
  intro t
  rw [blk_get, blk_get]
  by_cases ht : t < s
  · rw [if_pos ht, if_pos ht]
    simp only [List.getElem?_append]
    rcases h with h | h
    · rw [if_pos (by omega), if_pos (by omega)]
    · rw [if_neg (by omega), if_neg (by omega), if_neg (by omega), if_neg (by omega), hR]
  · rw [if_neg ht, if_neg ht]
theorem blk_in {s i : Nat} {P R S : List (Po tp)} (h1 : P.length ≤ i * s) (h2 : i * s + s ≤ P.length + R.length ∨ S = []) : blk s i (P ++ (R ++ S)) = (R.drop (i * s - P.length)).take s := by
  apply List.ext_getElem?
  intro t
  rw [blk_get, List.getElem?_take]
  by_cases ht : t < s
  · rw [if_pos ht, if_pos ht, List.getElem?_drop, List.getElem?_append_right (by omega)]
    rcases h2 with h | rfl
    · rw [List.getElem?_append_left (by omega)]; congr 1; omega
    · rw [List.append_nil]; congr 1; omega
  · rw [if_neg ht, if_neg ht]
theorem blk_in_asc {s i : Nat} {P R S : List (Po tp)} (hR : AscT R) (h1 : P.length ≤ i * s) (h2 : i * s + s ≤ P.length + R.length ∨ S = []) : AscT (blk s i (P ++ (R ++ S))) := by
  rw [blk_in h1 h2]
  exact hR.sub ((List.take_sublist _ _).trans (List.drop_sublist _ _))
theorem blk_end {s i : Nat} {l : List (Po tp)} (h : l.length ≤ i * s) : blk s i l = [] := by
  unfold blk; rw [List.drop_eq_nil_of_le h, List.take_nil]
theorem asc_nil : AscT ([] : List (Po tp)) := List.Pairwise.nil
/-- a list in three -/
theorem cut3 (l : List (Po tp)) {p q : Nat} (h : p + q ≤ l.length) : ∃ P U S, l = P ++ (U ++ S) ∧ P.length = p ∧ U.length = q ∧ U = (l.drop p).take q := by
  refine ⟨l.take p, (l.drop p).take q, (l.drop p).drop q, ?_, by simp; omega, by simp; omega, rfl⟩
  rw [List.take_append_drop, List.take_append_drop]

/-! insertion sort -/
def cfT (x y : Po tp) : Int := cmpI x.k y.k
theorem ltT (x y : Po tp) : ltOf cfT x y = decide (x.k < y.k) := by
  unfold ltOf cfT
  rw [decide_eq_decide]
  exact cmpI_lt
theorem swoT : SWO (ltOf (cfT (tp := tp))) where
  irrefl x := by rw [ltT]; simp
  trans x y z h1 h2 := by rw [ltT, decide_eq_true_eq] at *; omega
  ntrans x y z h1 h2 := by rw [ltT, decide_eq_false_iff_not] at *; omega
theorem swp_list {d : Array (Po tp)} {i j : Nat} (hi : i < d.size) (hj : j < d.size) : (swp d i j).toList = swp2 d.toList i j := by
  rw [swp2_eq (by simpa using hi) (by simpa using hj)]
  unfold swp
  simp [getElem!_pos, hi, hj]
theorem eqT_swp {l : List (Po tp)} {j : Nat} (h : j + 1 < l.length) (hne : (l[j + 1]).k ≠ (l[j]).k) : EqT l (swp2 l (j + 1) j) := by
  have e : l = l.take j ++ l[j] :: l[j + 1] :: l.drop (j + 2) := by
    conv => lhs; rw [← List.take_append_drop j l, List.drop_eq_getElem_cons (show j < l.length by omega), List.drop_eq_getElem_cons h]
  obtain ⟨A, hA⟩ : ∃ A, l.take j = A := ⟨_, rfl⟩
  obtain ⟨C, hC⟩ : ∃ C, l.drop (j + 2) = C := ⟨_, rfl⟩
  obtain ⟨x, hx⟩ : ∃ x, l[j] = x := ⟨_, rfl⟩
  obtain ⟨y, hy⟩ : ∃ y, l[j + 1] = y := ⟨_, rfl⟩
  have hAl : A.length = j := by rw [← hA]; simp; omega
  rw [hA, hC, hx, hy] at e
  rw [hx, hy] at hne
  have hs : swp2 l (j + 1) j = A ++ y :: x :: C := by
    rw [e, ← hAl]; exact swp2_back A x y C
  rw [hs, e]
  refine (EqT.refl A).app ?_
  have := (EqT.turn (a := [x]) (b := [y]) (by simp; exact fun h => hne h.symm)).app (EqT.refl C)
  simpa using this
theorem insInner_eqT (a : Nat) : ∀ (j : Nat) (d : Array (Po tp)), j < d.size → EqT d.toList (insInner (ltOf cfT) a j d).toList
  | 0, d, _ => by unfold insInner; exact EqT.refl _
  | j + 1, d, hj => by
    unfold insInner
    split
    · rename_i h
      simp only [Bool.and_eq_true, decide_eq_true_eq] at h
      have h2 := h.2
      rw [ltT, decide_eq_true_eq, getElem!_pos d (j + 1) hj, getElem!_pos d j (by omega)] at h2
      have e1 : EqT d.toList (swp d (j + 1) j).toList := by
        rw [swp_list hj (by omega)]
        exact eqT_swp (by simpa using hj) (by simp only [Array.getElem_toList]; omega)
      exact e1.trans (insInner_eqT a j _ (by rw [size_swp]; omega))
    · exact EqT.refl _
theorem insInner_size (a : Nat) : ∀ (j : Nat) (d : Array (Po tp)), (insInner (ltOf cfT) a j d).size = d.size
  | 0, d => by unfold insInner; rfl
  | j + 1, d => by
    unfold insInner
    split
    · rw [insInner_size a j, size_swp]
    · rfl
theorem insOuter_eqT (a b : Nat) : ∀ (n i : Nat) (d : Array (Po tp)), b - i = n → b ≤ d.size → EqT d.toList (insOuter (ltOf cfT) a b i d).toList
  | 0, i, d, hn, _ => by
    rw [insOuter, if_neg (by omega)]; exact EqT.refl _
  | n + 1, i, d, hn, hb => by
    rw [insOuter, if_pos (by omega)]
    exact (insInner_eqT a i d (by omega)).trans (insOuter_eqT a b n (i + 1) _ (by omega) (by rw [insInner_size]; exact hb))
/-- a segment's insertion sort -/
theorem ins_list (P U S : List (Po tp)) : ∃ R, AscT R ∧ EqT U R ∧ (Sort.insertionSort (ltOf cfT) (P ++ (U ++ S)).toArray P.length (P.length + U.length)).toList = P ++ (R ++ S) := by
  obtain ⟨⟨hsz, hout, -⟩, hsort⟩ := insertionSort_holds (lt := ltOf cfT) swoT (P ++ (U ++ S)).toArray P.length (P.length + U.length) (by omega) (by simp)
  have heq := insOuter_eqT P.length (P.length + U.length) _ (P.length + 1) (P ++ (U ++ S)).toArray rfl (by simp)
  change EqT _ (Sort.insertionSort (ltOf cfT) (P ++ (U ++ S)).toArray P.length (P.length + U.length)).toList at heq
  generalize Sort.insertionSort (ltOf cfT) (P ++ (U ++ S)).toArray P.length (P.length + U.length) = d at *
  have hl : d.toList.length = P.length + (U.length + S.length) := by
    have : d.size = (P ++ (U ++ S)).toArray.size := hsz
    simpa using this
  have hget : ∀ i, i < P.length ∨ P.length + U.length ≤ i → d.toList[i]? = (P ++ (U ++ S))[i]? := fun i hi => by
    have := hout i hi
    by_cases h : i < d.size
    · have h' : i < (P ++ (U ++ S)).toArray.size := by rw [← hsz]; exact h
      rw [getElem!_pos d i h, getElem!_pos _ i h'] at this
      rw [List.getElem?_eq_getElem (by simpa using h), List.getElem?_eq_getElem (by simpa using h')]
      simpa using this
    · rw [List.getElem?_eq_none (by simpa using h), List.getElem?_eq_none (by have : (P ++ (U ++ S)).toArray.size ≤ i := by rw [← hsz]; omega
                                                                              simpa using this)]
  obtain ⟨R, hR⟩ : ∃ R, (d.toList.drop P.length).take U.length = R := ⟨_, rfl⟩
  have hRl : R.length = U.length := by rw [← hR]; simp only [List.length_take, List.length_drop]; omega
  have e : d.toList = P ++ (R ++ S) := by
    apply List.ext_getElem?
    intro t
    by_cases h1 : t < P.length
    · rw [hget t (.inl h1), List.getElem?_append_left h1, List.getElem?_append_left h1]
    · by_cases h2 : t < P.length + U.length
      · rw [List.getElem?_append_right (by omega), List.getElem?_append_left (by omega), ← hR, List.getElem?_take, if_pos (by omega), List.getElem?_drop]
        congr 1; omega
      · rw [hget t (.inr (by omega)), List.getElem?_append_right (by omega), List.getElem?_append_right (by omega), List.getElem?_append_right (by omega), List.getElem?_append_right (by omega), hRl]
  refine ⟨R, ?_, fun t => ?_, e⟩
  · refine List.pairwise_iff_getElem.2 fun i j hi hj hij => ?_
    have := hsort (P.length + i) (P.length + j) (by omega) (by omega) (by omega)
    have hd : ∀ k (hk : k < R.length), d[P.length + k]! = R[k] := fun k hk => by
      have h : P.length + k < d.size := by
        have : d.toList.length = d.size := by simp
        omega
      rw [getElem!_pos d _ h, ← Array.getElem_toList]
      simp only [e]
      rw [List.getElem_append_right (by omega)]
      simp only [show P.length + k - P.length = k by omega]
      rw [List.getElem_append_left hk]
    rw [ltT, decide_eq_false_iff_not, hd i hi, hd j hj] at this
    omega
  · have := heq t
    rw [e] at this
    simp only [atT_app] at this
    exact List.append_cancel_right (List.append_cancel_left this)
end Go.Proofs.YtllhkegefinlbaaGreatDoor.Gs
