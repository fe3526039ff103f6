/- slices.Insert over labels: one label into a row of the call's own. -/
import Derived.Test.YtoooaipbkkiefaaDoorApp
import Derived.Shelf.Spec.SlicesInsert
import Derived.Lib.AppendZerosOnto
namespace Go.Proofs.YtoooaipbkkiefaaDoor
open Go.RowKit Go.Sort Go.Lib
set_option maxRecDepth 100000
set_option maxHeartbeats 4000000

theorem flat_take : ∀ (l : List Lb) (k : Nat), (l.take k).flatMap encL = (l.flatMap encL).take (k * 2)
  | [], k => by simp
  | x :: l, 0 => by simp
  | x :: l, k + 1 => by
    rw [List.take_succ_cons, List.flatMap_cons, List.flatMap_cons, flat_take l k, show (k + 1) * 2 = 2 + k * 2 by omega, List.take_append, List.take_of_length_le (l := encL x) (by simp [encL])]
    simp [encL]
theorem flat_drop : ∀ (l : List Lb) (k : Nat), (l.drop k).flatMap encL = (l.flatMap encL).drop (k * 2)
  | [], k => by simp
  | x :: l, 0 => by simp
  | x :: l, k + 1 => by
    rw [List.drop_succ_cons, List.flatMap_cons, flat_drop l k, show (k + 1) * 2 = 2 + k * 2 by omega, List.drop_append, List.drop_of_length_le (l := encL x) (by simp [encL])]
    simp [encL]
theorem labs_of_flat {W : World} {b : Nat} {l : List Lb} (h : ∀ j u, (l.flatMap encL)[j]? = some u → W.cell? ⟨b, j, none⟩ = some u) : LabsAt W (some ⟨b, 0, none⟩) l := fun _ =>
  ⟨b, 0, rfl, fun i x hx => by
    obtain ⟨c1, c2⟩ := flat_cells l i x hx
    rw [Nat.zero_add]
    exact ⟨h _ _ c1, h _ _ c2⟩⟩

/-- ALL IS READ BEFORE ANYTHING IS WRITTEN: 'cs' is what the source held before the call. -/
theorem run_copy2 (w : World) (ty : TypeId) (b o dLen dCap : Nat) (a : Addr) (sLen sCap : Nat) (cs : List Value) (hn : cs.length = Nat.min sLen dLen * 2)
    (hsrc : ∀ j v, cs[j]? = some v → w.cell? (a.add j) = some v) (hc : ∀ j, j < cs.length → (w.cell? ⟨b, o + j, none⟩).isSome = true) (hf : ∀ j, j < cs.length → w.frozen? ⟨b, o + j, none⟩ = false) (h1 : ∀ v ∈ cs, v.oneCell' = true) :
    (Builtin.copy_ #[40, 40] ty #[.slice (some ⟨b, o, none⟩) dLen dCap, .slice (some a) sLen sCap]).run Tryd.prog w = .ok (goInt (Nat.min sLen dLen)) (w.setCells b o cs) := by
  have hl := run_loadCells_list (P := Tryd.prog) w a cs hsrc
  have hst := run_storeCells_cells (P := Tryd.prog) b o cs 0 w (by simpa using hc) (by simpa using hf) h1
  obtain ⟨i0, hi, hz0, hz1, hz2⟩ := info_parts lab_info
  simp [Builtin.copy_, run_underlying Tryd.underlying40, Builtin.lenOf, Builtin.firstCells, sizeOf, typeInfo, hi, hz1, ← hn, hl, hst]

/-- the cells behind both copies -/
theorem ins_cells {W : World} {b k : Nat} {cs vs : List Value} (hk : k * 2 ≤ cs.length) (hv : vs.length = 2) (h0 : ∀ j u, j < k * 2 → cs[j]? = some u → W.cell? ⟨b, j, none⟩ = some u) (hs : ∀ j, j < cs.length + 2 → (W.cell? ⟨b, j, none⟩).isSome = true) :
    ∀ j u, (cs.take (k * 2) ++ vs ++ cs.drop (k * 2))[j]? = some u → ((W.setCells b (k * 2 + 2) (cs.drop (k * 2))).setCells b (k * 2) vs).cell? ⟨b, j, none⟩ = some u := by
  intro j u hu
  have hl : (cs.take (k * 2)).length = k * 2 := by simp; omega
  have hd : (cs.drop (k * 2)).length = cs.length - k * 2 := by simp
  rw [List.append_assoc] at hu
  by_cases h1 : j < k * 2
  · rw [World.cell?_setCells_out _ _ _ _ _ (fun _ _ => .inl h1), World.cell?_setCells_out _ _ _ _ _ (fun _ _ => .inl (by show j < _; omega))]
    rw [List.getElem?_append_left (by omega), List.getElem?_take, if_pos h1] at hu
    exact h0 j u h1 hu
  rw [List.getElem?_append_right (by omega), hl] at hu
  by_cases h2 : j < k * 2 + 2
  · have hin := World.cell?_setCells_in b vs (k * 2) (W.setCells b (k * 2 + 2) (cs.drop (k * 2))) (fun t ht => by
      rw [World.cell?_setCells_out _ _ _ _ _ (fun _ _ => .inl (by show k * 2 + t < _; omega))]
      exact hs _ (by omega)) (j - k * 2) (by omega)
    rw [show k * 2 + (j - k * 2) = j by omega] at hin
    rw [hin]
    rw [List.getElem?_append_left (by omega), List.getElem?_eq_getElem (by omega)] at hu
    exact hu
  · rw [World.cell?_setCells_out _ _ _ _ _ (fun _ _ => .inr (by show _ ≤ j; omega))]
    rw [List.getElem?_append_right (by omega), hv] at hu
    have hj : j - k * 2 - 2 < (cs.drop (k * 2)).length := (List.getElem?_eq_some_iff.1 hu).1
    have hin := World.cell?_setCells_in b (cs.drop (k * 2)) (k * 2 + 2) W (fun t ht => hs _ (by omega)) (j - k * 2 - 2) hj
    rw [show k * 2 + 2 + (j - k * 2 - 2) = j by omega] at hin
    rw [hin, ← hu, List.getElem?_eq_getElem hj]
/-- the same, copied the other way round -/
theorem ins_cells2 {W : World} {b k : Nat} {cs vs : List Value} (hk : k * 2 ≤ cs.length) (hv : vs.length = 2) (h0 : ∀ j u, j < k * 2 → cs[j]? = some u → W.cell? ⟨b, j, none⟩ = some u) (hs : ∀ j, j < cs.length + 2 → (W.cell? ⟨b, j, none⟩).isSome = true) :
    ∀ j u, (cs.take (k * 2) ++ vs ++ cs.drop (k * 2))[j]? = some u → ((W.setCells b (k * 2) vs).setCells b (k * 2 + 2) (cs.drop (k * 2))).cell? ⟨b, j, none⟩ = some u := by
  intro j u hu
  have hl : (cs.take (k * 2)).length = k * 2 := by simp; omega
  have hd : (cs.drop (k * 2)).length = cs.length - k * 2 := by simp
  rw [List.append_assoc] at hu
  by_cases h1 : j < k * 2
  · rw [World.cell?_setCells_out _ _ _ _ _ (fun _ _ => .inl (by show j < _; omega)), World.cell?_setCells_out _ _ _ _ _ (fun _ _ => .inl h1)]
    rw [List.getElem?_append_left (by omega), List.getElem?_take, if_pos h1] at hu
    exact h0 j u h1 hu
  rw [List.getElem?_append_right (by omega), hl] at hu
  by_cases h2 : j < k * 2 + 2
  · rw [World.cell?_setCells_out _ _ _ _ _ (fun _ _ => .inl (by show j < _; omega))]
    have hin := World.cell?_setCells_in b vs (k * 2) W (fun t ht => hs _ (by omega)) (j - k * 2) (by omega)
    rw [show k * 2 + (j - k * 2) = j by omega] at hin
    rw [hin]
    rw [List.getElem?_append_left (by omega), List.getElem?_eq_getElem (by omega)] at hu
    exact hu
  · rw [List.getElem?_append_right (by omega), hv] at hu
    have hj : j - k * 2 - 2 < (cs.drop (k * 2)).length := (List.getElem?_eq_some_iff.1 hu).1
    have hin := World.cell?_setCells_in b (cs.drop (k * 2)) (k * 2 + 2) (W.setCells b (k * 2) vs) (fun t ht => isSome_setCells _ _ _ _ (fun q hq => hs _ (by omega)) _ (hs _ (by omega))) (j - k * 2 - 2) hj
    rw [show k * 2 + 2 + (j - k * 2 - 2) = j by omega] at hin
    rw [hin, ← hu, List.getElem?_eq_getElem hj]

def InsPost (B : Nat) (l : List Lb) (k : Nat) (x : Lb) (w : World) (e : Ending) (w' : World) : Prop :=
  ∃ A c, e = .returned (.slice A (l.length + 1) c) ∧ LabsAt w' A (l.take k ++ [x] ++ l.drop k) ∧ Below B w w' ∧ ∀ q, (Value.slice A (l.length + 1) c).ownBlock = some q → B ≤ q
/-- at the end: append -/
theorem insert_end (B : Nat) (v : Value) (l : List Lb) (x : Lb) (w : World) (g : Nat) (h : Own w B v l) (hl : l.length ≤ 549755813887) (hB : B ≤ w.heap.size)
    (hg : Reads w (.slice (some ⟨g, 0, none⟩) 1 1) [x]) :
    Calls Tryd.prog 79 #[v, .int .i64 l.length, .slice (some ⟨g, 0, none⟩) 1 1] w (InsPost B l l.length x w) := by
  have HO := Lib.hid h; have HG := Lib.hid hg
  obtain ⟨A, c, rfl, -, hlc, hcm⟩ := h.form
  unfold maxLen at hcm
  clear h hg
  by_cases hcn : c = l.length
  all_goals
    try subst hcn
    go_enter Tryd.func79, Tryd.ntmps79
    go_wp2_with (at_builtin; refine wpList_app rfl rfl (.tmp 23) (.tmp 24) (by rfl) (by rfl) (B := B) (l := l) (m := [x]) HO.out HG.out (by simp; omega) hB ?_; intro v3 W3 hown3 hbel3 hgrow3 hat3)
    go_ret
    obtain ⟨A3, c3, rfl, hl3, -, -⟩ := hown3.form
    exact ⟨A3, c3, by simp, by rw [List.take_length, List.drop_length, List.append_nil]; exact hl3, hbel3, fun q hq => (hown3.lt (k := q) (by rw [List.length_append, List.length_singleton]; exact hq)).1⟩

/-- what a row of the call's own gives, its spare room too -/
theorem own_room {W : World} {B : Nat} {v : Value} {l : List Lb} (h : Own W B v l) (h0 : 0 < l.length) :
    ∃ b c, v = .slice (some ⟨b, 0, none⟩) l.length c ∧ B ≤ b ∧ b < W.heap.size ∧ l.length ≤ c ∧ c ≤ maxLen ∧ (∀ j u, (l.flatMap encL)[j]? = some u → W.cell? ⟨b, j, none⟩ = some u) ∧ (∀ j, j < c * 2 → (W.cell? ⟨b, j, none⟩).isSome = true) ∧ (∀ j, W.frozen? ⟨b, j, none⟩ = false) ∧ W.shape? b = some (49, c * 2) := by
  rcases h.2 with ⟨_, e0⟩ | ⟨b, c, cur, rfl, hb, hg, hnc, hm, hs, ht⟩
  · omega
  · have hlt : b < W.heap.size := by
      rcases Nat.lt_or_ge b W.heap.size with e | e
      · exact e
      · rw [Array.getElem?_eq_none e] at hg; cases hg
    have hcell : ∀ j, W.cell? ⟨b, j, none⟩ = cur[j]? := fun j => cell_of_row W b j cur _ (0, 0) hg
    refine ⟨b, c, rfl, hb, hlt, hnc, hm, fun j u hu => ?_, fun j hj => ?_, fun j => by simp [World.frozen?, hg], by simp [World.shape?, hg, hs]⟩
    · have hj : j < l.length * 2 := by have := (List.getElem?_eq_some_iff.1 hu).1; rwa [flat_len] at this
      rw [hcell, ← hu, ← ht, List.getElem?_take, if_pos hj]; simp
    · rw [hcell, Array.getElem?_eq_getElem (by omega)]; rfl
theorem flat_ins (l : List Lb) (k : Nat) (x : Lb) : (l.take k ++ [x] ++ l.drop k).flatMap encL = (l.flatMap encL).take (k * 2) ++ encL x ++ (l.flatMap encL).drop (k * 2) := by
  rw [List.flatMap_append, List.flatMap_append, flat_take, flat_drop]; simp
/-- there is room: in place -/
theorem insert_shift (B : Nat) (b c : Nat) (l : List Lb) (x : Lb) (k : Nat) (w : World) (g : Nat) (hk : k < l.length) (hl : l.length ≤ 549755813887) (hB : B ≤ b) (hbw : b < w.heap.size) (hlc : l.length < c) (_hcm : c ≤ maxLen)
    (hcs : ∀ j u, (l.flatMap encL)[j]? = some u → w.cell? ⟨b, j, none⟩ = some u) (hsp : ∀ j, j < c * 2 → (w.cell? ⟨b, j, none⟩).isSome = true) (hfz : ∀ j, w.frozen? ⟨b, j, none⟩ = false) (hsh : w.shape? b = some (49, c * 2))
    (hgb : g ≠ b) (hg : w.heap[g]? = some (.cells #[.string x.1, .string x.2] 49 (0, 0))) :
    Calls Tryd.prog 79 #[.slice (some ⟨b, 0, none⟩) l.length c, .int .i64 k, .slice (some ⟨g, 0, none⟩) 1 1] w (InsPost B l k x w) := by
  obtain ⟨cs, hcsE⟩ : ∃ cs, l.flatMap encL = cs := ⟨_, rfl⟩
  have hcl : cs.length = l.length * 2 := by rw [← hcsE, flat_len]
  have h1c : ∀ v ∈ cs, v.oneCell' = true := by rw [← hcsE]; exact flat_one l
  have hfin : ∀ W : World, (∀ j u, (cs.take (k * 2) ++ encL x ++ cs.drop (k * 2))[j]? = some u → W.cell? ⟨b, j, none⟩ = some u) → LabsAt W (some ⟨b, 0, none⟩) (l.take k ++ [x] ++ l.drop k) := fun W hW => labs_of_flat (by rw [flat_ins, hcsE]; exact hW)
  have HF := Lib.hid hfin
  rw [hcsE] at hcs
  clear hfin hcsE
  unfold maxLen at _hcm
  obtain ⟨n, hn⟩ : ∃ n, l.length = n := ⟨_, rfl⟩
  rw [hn] at hk hl hlc hcl ⊢
  have HN := Lib.hid hn
  clear hn
  have hsa : w.shape? g = some (49, 2) := by simp [World.shape?, hg]
  have hfa : ∀ j, w.frozen? ⟨g, j, none⟩ = false := fun j => by simp [World.frozen?, hg]
  have hgc : ∀ j u, (encL x)[j]? = some u → w.cell? ⟨g, j, none⟩ = some u := fun j u hu => by
    rw [cell_of_row w g j _ _ (0, 0) hg]
    match j, hu with
    | 0, hu => simpa [encL] using hu
    | 1, hu => simpa [encL] using hu
    | j + 2, hu => simp [encL] at hu
  have hov : ∀ lb cb, (callFunc 98 #[.slice (some ⟨g, 0, none⟩) 1 1, .slice (some ⟨b, (k + 1) * 2, none⟩) lb cb]).run Tryd.prog w = .ok (.value (.bool false)) w := fun lb cb => by
    rw [run_callFunc_extern Tryd.func98 (by kernel_rfl) (by kernel_rfl) (by kernel_rfl) (e := Extern.SlicesOverlaps.overlaps #[40, 40] #[4]) (by kernel_rfl),
      Lib.run_overlaps_apart w 40 4 49 Tryd.underlying40 2 Tryd.sizeOf49 ⟨g, 0, none⟩ ⟨b, (k + 1) * 2, none⟩ 1 1 lb cb hgb _ _ 2 (c * 2) hsa hsh (by omega) (hfa _) (hfa _)]
    rfl
  have hdl : (cs.drop (k * 2)).length = (n - k) * 2 := by rw [List.length_drop, hcl]; omega
  have hw1 : IntKind.i64.wrap ((k : Int) + 1) = (k : Int) + 1 := by rw [IntKind.wrap_i64]; omega
  have hcp1 : ∀ ty dc sc, (Builtin.copy_ #[40, 40] ty #[.slice (some ⟨b, (k + 1) * 2, none⟩) (n - k) dc, .slice (some ⟨b, k * 2, none⟩) (n + 1 - k) sc]).run Tryd.prog w.drew = .ok (goInt ((n - k : Nat) : Int)) (w.drew.setCells b (k * 2 + 2) (cs.drop (k * 2))) := fun ty dc sc => by
    have h := run_copy2 w.drew ty b ((k + 1) * 2) (n - k) dc ⟨b, k * 2, none⟩ (n + 1 - k) sc (cs.drop (k * 2)) (by rw [hdl]; simp only [Nat.min_def]; split <;> omega)
      (fun j v hj => by rw [Addr.add_lit]; exact hcs (k * 2 + j) v (by rwa [List.getElem?_drop] at hj))
      (fun j hj => hsp _ (by omega)) (fun j hj => hfz _) (fun v hv => h1c v (List.mem_of_mem_drop hv))
    rw [show Nat.min (n + 1 - k) (n - k) = n - k by simp only [Nat.min_def]; split <;> omega, show (k + 1) * 2 = k * 2 + 2 by omega] at h
    rw [show (k + 1) * 2 = k * 2 + 2 by omega]
    exact h
  obtain ⟨W1, hW1⟩ : ∃ W1, W1 = w.drew.setCells b (k * 2 + 2) (cs.drop (k * 2)) := ⟨_, rfl⟩
  have hsp1 : ∀ j, j < c * 2 → (W1.cell? ⟨b, j, none⟩).isSome = true := fun j hj => by
    rw [hW1]
    exact isSome_setCells b (cs.drop (k * 2)) (k * 2 + 2) w.drew (fun t ht => hsp (k * 2 + 2 + t) (by omega)) j (hsp j hj)
  have hcp2 : ∀ (W : World), (∀ y, W.cell? y = W1.cell? y) → (∀ y, W.frozen? y = W1.frozen? y) → ∀ ty dc, (Builtin.copy_ #[40, 40] ty #[.slice (some ⟨b, k * 2, none⟩) (n + 1 - k) dc, .slice (some ⟨g, 0, none⟩) 1 1]).run Tryd.prog W = .ok (goInt 1) (W.setCells b (k * 2) (encL x)) := fun W hWc hWf ty dc => by
    have h := run_copy2 W ty b (k * 2) (n + 1 - k) dc ⟨g, 0, none⟩ 1 1 (encL x) (by simp only [encL, List.length_cons, List.length_nil, Nat.min_def]; split <;> omega)
      (fun j v hj => by
        rw [Addr.add_lit, hWc, hW1, World.cell?_setCells_out b _ _ _ _ (fun h _ => absurd h hgb), Nat.zero_add]
        exact hgc j v hj)
      (fun j hj => by rw [hWc]; exact hsp1 _ (by simp [encL] at hj; omega)) (fun j hj => by rw [hWf, hW1, World.frozen?_setCells]; exact hfz _) (fun v hv => by simp [encL] at hv; rcases hv with rfl | rfl <;> rfl)
    rw [show Nat.min 1 (n + 1 - k) = 1 by simp only [Nat.min_def]; split <;> omega] at h
    exact h
  rw [← hW1] at hcp1
  have HE : Hid (LabsAt (W1.setCells b (k * 2) (encL x)) (some ⟨b, 0, none⟩) (l.take k ++ [x] ++ l.drop k) ∧ Below B w (W1.setCells b (k * 2) (encL x))) := Lib.hid (by
    rw [hW1]
    refine ⟨HF.out _ (ins_cells (by omega) rfl (fun j u _ hu => hcs j u hu) (fun j hj => hsp _ (by omega))), ?_⟩
    have g1 := only_setCells (only_setCells (only_drewN (only_refl w (some b)) 1) (k * 2 + 2) (cs.drop (k * 2))) (k * 2) (encL x)
    exact (Below.refl B w).grown g1 (by omega) (fun j hj => by cases hj; exact hB))
  clear hsp hsp1 hcs hgc h1c hsh hsa hg HF hfa hfz
  subst hW1
  have mixed : Tryd.prog.follows Departure.mixedOrders = true := by kernel_rfl
  have hb1 : (0 : Int) ≤ (k : Int) + 1 := by omega
  have hin : k ≤ n := by omega
  have htn : ((k : Int) + 1).toNat = k + 1 := by omega
  have hb2 : ¬ (c = k + 1) := by omega
  have hb3 : (k : Int) ≤ (n : Int) + 1 := by omega
  have hb5 : (k : Int) ≤ (n : Int) := by omega
  have hb4 : ¬ (c = k) := by omega
  go_enter Tryd.func79, Tryd.ntmps79
  go_wp2_with (simp only [hov])
  go_region_law_o (refine step_copy_runI rfl _ _ 40 40 rfl _ _ (by simp [Act.eval, Act.put]) (by simp [Act.eval, Act.put]) (hcp1 _ _ _) ?_)
  go_wp2_with (at_builtin; refine wpList_copy_runI _ rfl _ _ 40 40 rfl _ _ rfl rfl (hcp2 _ (fun _ => rfl) (fun _ => rfl) _ _) ?_)
  go_ret
  exact ⟨some ⟨b, 0, none⟩, c, by rw [HN.out]; rfl, HE.out.1, HE.out.2, fun q hq => by
    have h : some b = some q := hq
    injection h with h
    omega⟩
/-- there is no room: a new row -/
theorem insert_grow (B : Nat) (b : Nat) (l : List Lb) (x : Lb) (k : Nat) (w : World) (g : Nat) (hk : k < l.length) (hl : l.length ≤ 549755813887) (hB : B ≤ w.heap.size) (hbw : b < w.heap.size)
    (hcs : ∀ j u, (l.flatMap encL)[j]? = some u → w.cell? ⟨b, j, none⟩ = some u)
    (hg : w.heap[g]? = some (.cells #[.string x.1, .string x.2] 49 (0, 0))) :
    Calls Tryd.prog 79 #[.slice (some ⟨b, 0, none⟩) l.length l.length, .int .i64 k, .slice (some ⟨g, 0, none⟩) 1 1] w (InsPost B l k x w) := by
  obtain ⟨cs, hcsE⟩ : ∃ cs, l.flatMap encL = cs := ⟨_, rfl⟩
  have hcl : cs.length = l.length * 2 := by rw [← hcsE, flat_len]
  have h1c : ∀ v ∈ cs, v.oneCell' = true := by rw [← hcsE]; exact flat_one l
  have hfin : ∀ (W : World) (b : Nat), (∀ j u, (cs.take (k * 2) ++ encL x ++ cs.drop (k * 2))[j]? = some u → W.cell? ⟨b, j, none⟩ = some u) → LabsAt W (some ⟨b, 0, none⟩) (l.take k ++ [x] ++ l.drop k) := fun W b hW => labs_of_flat (by rw [flat_ins, hcsE]; exact hW)
  have HF := Lib.hid hfin
  rw [hcsE] at hcs
  clear hfin hcsE
  obtain ⟨n, hn⟩ : ∃ n, l.length = n := ⟨_, rfl⟩
  rw [hn] at hk hl hcl ⊢
  have HN := Lib.hid hn
  clear hn
  have hgw : g < w.heap.size := by
    rcases Nat.lt_or_ge g w.heap.size with e | e
    · exact e
    · rw [Array.getElem?_eq_none e] at hg; cases hg
  have hgc : ∀ j u, (encL x)[j]? = some u → w.cell? ⟨g, j, none⟩ = some u := fun j u hu => by
    rw [cell_of_row w g j _ _ (0, 0) hg]
    match j, hu with
    | 0, hu => simpa [encL] using hu
    | 1, hu => simpa [encL] using hu
    | j + 2, hu => simp [encL] at hu
  obtain ⟨i0, hi0, hz0, hzs, hzb⟩ := info_parts lab_info
  have hkk : (n : Int) + 1 - (k : Int) = ((n + 1 - k : Nat) : Int) := by omega
  have hik : k + (n + 1 - k) = n + 1 := by omega
  have hold : (Builtin.firstCells i0.size k (.slice (some ⟨b, 0, none⟩) k n)).run Tryd.prog w.drew = .ok (cs.take (k * 2)).toArray w.drew := by
    rw [hzs]
    exact run_firstCells_some w.drew 2 k ⟨b, 0, none⟩ k n (cs.take (k * 2)) (by rw [List.length_take]; omega) (fun j v hj => by
      rw [Addr.add_lit, Nat.zero_add]
      rw [List.getElem?_take] at hj
      split at hj
      · exact hcs j v hj
      · cases hj)
  have hrz : ∀ ty, (Builtin.append_ #[40, 3] ty #[.slice (some ⟨b, 0, none⟩) k n, .int .i64 ((n : Int) + 1 - (k : Int))]).run Tryd.prog w =
      .ok (.slice (some ⟨w.heap.size, 0, none⟩) (n + 1) (grownCap w (n + 1) n 49)) (w.drew.alloc (.cells ((cs.take (k * 2)).toArray ++ Builtin.zeroCells (Value.agg #[.string ⟨#[]⟩, .string ⟨#[]⟩]).cells (n + 1 - k) ++ Builtin.zeroCells (Value.agg #[.string ⟨#[]⟩, .string ⟨#[]⟩]).cells (grownCap w (n + 1) n 49 - (n + 1))) 49)) := fun ty => by
    have h := Lib.run_append_grow_zeros w 40 3 ty 49 i0 _ .i64 .i64 Tryd.underlying40 Tryd.underlying3 hi0 hz0 (some ⟨b, 0, none⟩) k n (cs.take (k * 2)) hold (n + 1 - k) (by omega) (by omega) (by omega) (by omega) (by rw [hzb]; omega) (by rw [hzb, hik]; exact growslice_fits (by omega) (by omega))
    rw [hik] at h
    rw [hkk]
    exact h
  obtain ⟨G, hG⟩ : ∃ G, G = grownCap w (n + 1) n 49 := ⟨_, rfl⟩
  obtain ⟨ROW, hROW⟩ : ∃ ROW : Array Value, ROW = (cs.take (k * 2)).toArray ++ Builtin.zeroCells (Value.agg #[.string ⟨#[]⟩, .string ⟨#[]⟩]).cells (n + 1 - k) ++ Builtin.zeroCells (Value.agg #[.string ⟨#[]⟩, .string ⟨#[]⟩]).cells (G - (n + 1)) := ⟨_, rfl⟩
  rw [← hG] at hrz
  rw [← hROW] at hrz
  have hGn : n + 1 ≤ G := by rw [hG]; exact grownCap_ge w _ _ _
  have hRl : n * 2 + 2 ≤ ROW.size := by
    rw [hROW]
    simp [Builtin.zeroCells, Value.cells]
    omega
  have hR0 : ∀ j u, j < k * 2 → cs[j]? = some u → ROW[j]? = some u := fun j u hj hu => by
    rw [hROW, Array.append_assoc, Array.getElem?_append_left (by simp; omega)]
    simp [hj, hu]
  obtain ⟨W1, hW1⟩ : ∃ W1, W1 = w.drew.alloc (.cells ROW 49) := ⟨_, rfl⟩
  rw [← hW1] at hrz
  have hNc : ∀ j, W1.cell? ⟨w.heap.size, j, none⟩ = ROW[j]? := fun j => by rw [hW1, World.cell?_alloc_at (w := w.drew) ROW _ w.heap.size j rfl]
  have hN : ∀ j, j < n * 2 + 2 → (W1.cell? ⟨w.heap.size, j, none⟩).isSome = true := fun j hj => by
    rw [hNc, Array.getElem?_eq_getElem (by omega)]; rfl
  have hNf : ∀ j, W1.frozen? ⟨w.heap.size, j, none⟩ = false := fun j => by rw [hW1]; exact World.frozen?_alloc_at (w := w.drew) ROW _ w.heap.size j rfl
  have hOb : ∀ j v, w.cell? ⟨b, j, none⟩ = some v → W1.cell? ⟨b, j, none⟩ = some v := fun j v h => by rw [hW1, World.cell?_alloc_past (w := w.drew) _ b j hbw]; exact h
  have hOv : ∀ j v, w.cell? ⟨g, j, none⟩ = some v → W1.cell? ⟨g, j, none⟩ = some v := fun j v h => by rw [hW1, World.cell?_alloc_past (w := w.drew) _ g j hgw]; exact h
  have hcpA : ∀ (W : World), (∀ x, W.cell? x = W1.cell? x) → (∀ x, W.frozen? x = W1.frozen? x) → ∀ ty dc, (Builtin.copy_ #[40, 40] ty #[.slice (some ⟨w.heap.size, k * 2, none⟩) (n + 1 - k) dc, .slice (some ⟨g, 0, none⟩) 1 1]).run Tryd.prog W = .ok (goInt 1) (W.setCells w.heap.size (k * 2) (encL x)) := fun W hWc hWf ty dc => by
    have h := run_copy2 W ty w.heap.size (k * 2) (n + 1 - k) dc ⟨g, 0, none⟩ 1 1 (encL x) (by simp only [encL, List.length_cons, List.length_nil, Nat.min_def]; split <;> omega)
      (fun j v hj => by rw [Addr.add_lit, hWc, Nat.zero_add]; exact hOv _ v (hgc j v hj))
      (fun j hj => by rw [hWc]; exact hN _ (by simp [encL] at hj; omega)) (fun j hj => by rw [hWf]; exact hNf _) (fun v hv => by simp [encL] at hv; rcases hv with rfl | rfl <;> rfl)
    rw [show Nat.min 1 (n + 1 - k) = 1 by simp only [Nat.min_def]; split <;> omega] at h
    exact h
  have hG63 : G ≤ 9223372036854775807 := by
    have := grownCap_le_maxLen w (n + 1) n 49 (by unfold maxLen; omega)
    rw [← hG] at this
    unfold maxLen at this
    omega
  have hGi : ¬ (G = k) := by omega
  have hGim : ¬ (G = k + 1) := by omega
  have hci : ¬ (n = k) := by omega
  have hbN : b ≠ w.heap.size := by omega
  have hdl : (cs.drop (k * 2)).length = (n - k) * 2 := by rw [List.length_drop, hcl]; omega
  have hcpB : ∀ (W : World), (∀ y, W.cell? y = (W1.setCells w.heap.size (k * 2) (encL x)).cell? y) → (∀ y, W.frozen? y = (W1.setCells w.heap.size (k * 2) (encL x)).frozen? y) → ∀ ty dc sc, (Builtin.copy_ #[40, 40] ty #[.slice (some ⟨w.heap.size, (k + 1) * 2, none⟩) (n - k) dc, .slice (some ⟨b, k * 2, none⟩) (n - k) sc]).run Tryd.prog W = .ok (goInt ((n - k : Nat) : Int)) (W.setCells w.heap.size (k * 2 + 2) (cs.drop (k * 2))) := fun W hWc hWf ty dc sc => by
    have h := run_copy2 W ty w.heap.size ((k + 1) * 2) (n - k) dc ⟨b, k * 2, none⟩ (n - k) sc (cs.drop (k * 2)) (by rw [hdl]; simp only [Nat.min_def]; split <;> omega)
      (fun j v hj => by
        rw [Addr.add_lit, hWc, World.cell?_setCells_out _ _ _ _ _ (fun h _ => absurd h hbN)]
        exact hOb _ v (hcs (k * 2 + j) v (by rwa [List.getElem?_drop] at hj)))
      (fun j hj => by rw [hWc]; exact isSome_setCells _ _ _ _ (fun t ht => hN _ (by simp [encL] at ht; omega)) _ (hN _ (by omega)))
      (fun j hj => by rw [hWf, World.frozen?_setCells]; exact hNf _) (fun v hv => h1c v (List.mem_of_mem_drop hv))
    rw [show Nat.min (n - k) (n - k) = n - k by simp only [Nat.min_def]; split <;> omega, show (k + 1) * 2 = k * 2 + 2 by omega] at h
    rw [show (k + 1) * 2 = k * 2 + 2 by omega]
    exact h
  have HE : Hid (LabsAt ((W1.setCells w.heap.size (k * 2) (encL x)).setCells w.heap.size (k * 2 + 2) (cs.drop (k * 2))).drew (some ⟨w.heap.size, 0, none⟩) (l.take k ++ [x] ++ l.drop k) ∧ Below B w ((W1.setCells w.heap.size (k * 2) (encL x)).setCells w.heap.size (k * 2 + 2) (cs.drop (k * 2))).drew) := Lib.hid (by
    refine ⟨HF.out _ _ fun j u hj => ins_cells2 (W := W1) (by omega) rfl (fun j u hj hu => by rw [hNc]; exact hR0 j u hj hu) (fun j hj => hN _ (by omega)) j u hj, ?_⟩
    have hs : W1.heap.size = w.heap.size + 1 := by rw [hW1]; exact (by simp : (w.drew.alloc (.cells ROW 49)).heap.size = w.drew.heap.size + 1)
    obtain ⟨o1, t1, u1, s1⟩ := setCells_rest w.heap.size (encL x) (k * 2) W1
    obtain ⟨o2, t2, u2, s2⟩ := setCells_rest w.heap.size (cs.drop (k * 2)) (k * 2 + 2) (W1.setCells w.heap.size (k * 2) (encL x))
    refine ⟨(o2.trans o1).trans (by rw [hW1]; rfl), (t2.trans t1).trans (by rw [hW1]; rfl), (u2.trans u1).trans (by rw [hW1]; rfl), ?_, fun j hj => ?_⟩
    · show w.heap.size ≤ ((W1.setCells w.heap.size (k * 2) (encL x)).setCells w.heap.size (k * 2 + 2) (cs.drop (k * 2))).heap.size
      rw [s2, s1, hs]; omega
    · show ((W1.setCells w.heap.size (k * 2) (encL x)).setCells w.heap.size (k * 2 + 2) (cs.drop (k * 2))).heap[j]? = _
      rw [setCells_block _ _ _ _ _ (by omega), setCells_block _ _ _ _ _ (by omega), hW1]
      exact Below.heap_alloc w.drew _ j (by show j < w.heap.size; omega))
  have HEH := HE
  clear HE hR0 hNc
  subst hW1
  have hE1 : ∀ x, ((w.alloc (.cells ROW 49)).drew).cell? x = (w.drew.alloc (.cells ROW 49)).cell? x := fun x => rfl
  have hE2 : ∀ x, ((w.alloc (.cells ROW 49)).drew).frozen? x = (w.drew.alloc (.cells ROW 49)).frozen? x := fun x => rfl
  have hF1 : ∀ y, (((w.alloc (.cells ROW 49)).drew.setCells w.heap.size (k * 2) (encL x)).drew).cell? y = ((w.drew.alloc (.cells ROW 49)).setCells w.heap.size (k * 2) (encL x)).cell? y := fun y => rfl
  have hF2 : ∀ y, (((w.alloc (.cells ROW 49)).drew.setCells w.heap.size (k * 2) (encL x)).drew).frozen? y = ((w.drew.alloc (.cells ROW 49)).setCells w.heap.size (k * 2) (encL x)).frozen? y := fun y => rfl
  have mixed : Tryd.prog.follows Departure.mixedOrders = true := by kernel_rfl
  have hb1 : (0 : Int) ≤ (k : Int) + 1 := by omega
  have hin : k ≤ n := by omega
  have htn : ((k : Int) + 1).toNat = k + 1 := by omega
  have hb3 : (k : Int) ≤ (n : Int) := by omega
  have hb4 : (k : Int) + 1 ≤ (n : Int) + 1 := by omega
  have hw1 : IntKind.i64.wrap ((k : Int) + 1) = (k : Int) + 1 := by rw [IntKind.wrap_i64]; omega
  clear hkk hik hold hROW hG hRl hN hNf hOb hOv h1c hgc hg hcs
  go_enter Tryd.func79, Tryd.ntmps79
  go_wp2_with (first
    | (at_builtin; refine Lib.wpList_append_run _ rfl _ _ _ _ rfl _ _ rfl rfl _ _ (hrz _) ?_)
    | (at_builtin; refine wpList_copy_runI _ rfl _ _ 40 40 rfl _ _ rfl rfl (hcpA _ hE1 hE2 _ _) ?_))
  go_region_law_o (refine step_copy_runI rfl _ _ 40 40 rfl (.slice (some ⟨w.heap.size, (k + 1) * 2, none⟩) (n - k) (G - (k + 1))) (.slice (some ⟨b, k * 2, none⟩) (n - k) (n - k)) (by simp [Act.eval, Act.put]) (by simp [Act.eval, Act.put]) (hcpB _ hF1 hF2 3 (G - (k + 1)) (n - k)) ?_)
  go_wp2
  go_ret
  have HEE := HEH.out
  rw [drew_setCells] at HEE
  exact ⟨_, _, by rw [HN.out]; rfl, HEE.1, HEE.2, fun q hq => by
    have h : some w.heap.size = some q := hq
    injection h with h
    omega⟩
theorem insert_any (B : Nat) (v : Value) (l : List Lb) (x : Lb) (k : Nat) (w : World) (g : Nat) (h : Own w B v l) (hk : k ≤ l.length) (hl : l.length ≤ 549755813887) (hB : B ≤ w.heap.size)
    (hg : w.heap[g]? = some (.cells #[.string x.1, .string x.2] 49 (0, 0))) (hv : v.ownBlock ≠ some g) :
    Calls Tryd.prog 79 #[v, .int .i64 k, .slice (some ⟨g, 0, none⟩) 1 1] w (InsPost B l k x w) := by
  by_cases e : k = l.length
  · subst e
    exact insert_end B v l x w g h hl hB (reads_one w g x (cell_of_row w g 0 _ _ (0, 0) hg) (cell_of_row w g 1 _ _ (0, 0) hg))
  · obtain ⟨b, c, rfl, hb, hbw, hlc, hcm, hcs, hsp, hfz, hsh⟩ := own_room h (by omega)
    by_cases e2 : l.length < c
    · exact insert_shift B b c l x k w g (by omega) hl hb hbw e2 hcm hcs hsp hfz hsh (fun e => hv (by rw [e]; rfl)) hg
    · obtain rfl : c = l.length := by omega
      exact insert_grow B b l x k w g (by omega) hl hB hbw hcs hg
end Go.Proofs.YtoooaipbkkiefaaDoor
