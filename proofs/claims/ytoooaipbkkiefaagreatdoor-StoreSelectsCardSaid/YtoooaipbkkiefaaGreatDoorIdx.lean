/- The index: a map of maps of rows of numbers; its state on the way. -/
import Derived.Test.YtoooaipbkkiefaaGreatDoorSortS
namespace Go.Proofs.YtoooaipbkkiefaaGreatDoor
open Go.RowKit Go.Maps Go.WideMaps
set_option maxRecDepth 100000
set_option maxHeartbeats 2000000

def kS (s : ByteArray) : Lit := .string s.data.toList
theorem kS_inj {s t : ByteArray} (h : kS s = kS t) : s = t := by
  unfold kS at h
  injection h with h
  exact bytes_ext h
theorem kS_key (s : ByteArray) (h : s.size ≤ maxLen) : keyOf Tryz.prog 9 (.string s) = some (kS s) := keyOf_string_mk Tryz.underlying9 h
theorem kS_is (s : ByteArray) : WideAt.IsKeyLit (kS s) := trivial
/-- an inner map, by its block's number -/
def mapD : Option Nat → DataW Unit
  | none => .lit (.int .i64 (-1))
  | some b => .lit (.int .i64 b)
def mapElem (v : Value) : Option (DataW Unit × List MemPlace) := match v with
  | .map o => some (mapD o, [])
  | _ => none
theorem mapD_inj {o p : Option Nat} (h : mapD o = mapD p) : o = p := by
  cases o <;> cases p <;> simp [mapD] at h ⊢ <;> omega
theorem mapElem_inv {v : Value} {o : Option Nat} {ps : List MemPlace} (h : mapElem v = some (mapD o, ps)) : v = .map o := by
  unfold mapElem at h
  split at h
  · rename_i p
    simp at h
    rw [mapD_inj h.1]
  · cases h
/-- a row of numbers, by its block's number, its length, its room -/
inductive Nr where
  | nil
  | at_ (b n c : Nat)
def Nr.v : Nr → Value
  | .nil => .slice none 0 0
  | .at_ b n c => .slice (some ⟨b, 0, none⟩) n c
def nrD : Nr → DataW Unit
  | .nil => .agg []
  | .at_ b n c => .agg [.lit (.int .i64 b), .lit (.int .i64 n), .lit (.int .i64 c)]
def nrElem (v : Value) : Option (DataW Unit × List MemPlace) := match v with
  | .slice none 0 0 => some (nrD .nil, [])
  | .slice (some ⟨b, 0, none⟩) n c => some (nrD (.at_ b n c), [])
  | _ => none
theorem nrElem_mk (s : Nr) : nrElem s.v = some (nrD s, []) := by cases s <;> rfl
theorem nrElem_inv {v : Value} {s : Nr} {ps : List MemPlace} (h : nrElem v = some (nrD s, ps)) : v = s.v := by
  unfold nrElem at h
  split at h
  · cases s
    · rfl
    · simp [nrD] at h
  · cases s
    · simp [nrD] at h
    · simp [nrD] at h
      obtain ⟨⟨h1, h2, h3⟩, -⟩ := h
      simp only [Nr.v]
      rw [Int.ofNat_inj.1 h1, Int.ofNat_inj.1 h2, Int.ofNat_inj.1 h3]
  · cases h
def intsV (l : List Nat) : List Value := l.map fun (i : Nat) => Value.int .i64 (i : Int)
/-- a row of numbers of the call's own -/
def OwnI (W : World) (B : Nat) (v : Value) (l : List Nat) : Prop := W.ownsRow B 3 1 v l.length (intsV l)
/-- the index on the way: M the outer map, mb the inner ones, sv the rows, ix what they hold; at most K of each -/
structure Idx (W : World) (B M K : Nat) (mb : ByteArray → Option Nat) (sv : ByteArray → ByteArray → Nr) (ix : ByteArray → ByteArray → List Nat) : Prop where
  outer : ∃ D, W.ownsMap Tryz.prog 9 mapElem M K D ∧ ∀ n, D.atKey (kS n) (mapD none) = mapD (mb n)
  inner : ∀ n b, mb n = some b → ∃ D, W.ownsMap Tryz.prog 9 nrElem b K D ∧ ∀ v, D.atKey (kS v) (nrD .nil) = nrD (sv n v)
  none_ : ∀ n, mb n = none → ∀ v, sv n v = .nil ∧ ix n v = []
  rows : ∀ n v, OwnI W B (sv n v).v (ix n v) ∧ (ix n v).length ≤ K
  injM : ∀ n n' b, mb n = some b → mb n' = some b → n = n'
  injR : ∀ n v n' v' b, (sv n v).v.ownBlock = some b → (sv n' v').v.ownBlock = some b → n = n' ∧ v = v'
  hM : B ≤ M ∧ ∀ n b, mb n = some b → B ≤ b ∧ b ≠ M
theorem zeroMap (w : World) : (zeroValue 104).run Tryz.prog w = .ok (.map none) w := by kernel_rfl
theorem zeroInts (w : World) : (zeroValue 35).run Tryz.prog w = .ok (.slice none 0 0) w := by kernel_rfl
theorem map_obj {P : Program} {k : TypeId} {R : Value → Option (DataW Unit × List MemPlace)} {W : World} {b n : Nat} {D : DataW Unit} (h : W.ownsMap P k R b n D) : ∃ es ck, W.heap[b]? = some (.map es ck) := by
  obtain ⟨es, ck, h1, -⟩ := h
  exact ⟨es, ck, h1⟩
theorem OwnI.obj {W : World} {B b : Nat} {v : Value} {l : List Nat} (h : OwnI W B v l) (hb : v.ownBlock = some b) : ∃ cur, W.heap[b]? = some (.cells cur 3 (0, 0)) := by
  rcases h.2 with ⟨rfl, -⟩ | ⟨g, cap, cur, rfl, -, hg, -⟩
  · simp [Value.ownBlock] at hb
  · simp [Value.ownBlock] at hb
    subst hb
    exact ⟨cur, hg⟩
section
variable {W W' : World} {B M K : Nat} {mb : ByteArray → Option Nat} {sv : ByteArray → ByteArray → Nr} {ix : ByteArray → ByteArray → List Nat}
theorem Idx.gr (h : Idx W B M K mb sv ix) (g : Gr W W') : Idx W' B M K mb sv ix := by
  refine ⟨?_, fun n b hb => ?_, h.none_, fun n v => ⟨World.ownsRow.kept (h.rows n v).1 g.gb (by cases (sv n v).v.ownBlock <;> simp), (h.rows n v).2⟩, h.injM, h.injR, h.hM⟩
  · obtain ⟨D, h1, h2⟩ := h.outer
    exact ⟨D, h1.kept g.gb (by simp), h2⟩
  · obtain ⟨D, h1, h2⟩ := h.inner n b hb
    exact ⟨D, h1.kept g.gb (by simp), h2⟩
theorem Idx.look (h : Idx W B M K mb sv ix) (n : ByteArray) (hn : n.size ≤ maxLen) : (Instr.lookup 89 (.map (some M)) (.string n) false).run Tryz.prog W = .ok (.map (mb n)) W := by
  obtain ⟨D, ho, hD⟩ := h.outer
  obtain ⟨v, ps, hr, hv⟩ := ho.lookup strKey Tryz.underlying89 (zeroMap W) (zd := mapD none) (zp := []) rfl (kS_key n hn)
  rw [hD] at hv
  rw [hr, mapElem_inv hv]
theorem Idx.look2 (h : Idx W B M K mb sv ix) {n : ByteArray} {b : Nat} (hb : mb n = some b) (v : ByteArray) (hv : v.size ≤ maxLen) : (Instr.lookup 104 (.map (some b)) (.string v) false).run Tryz.prog W = .ok (sv n v).v W := by
  obtain ⟨D, ho, hD⟩ := h.inner n b hb
  obtain ⟨u, ps, hr, hu⟩ := ho.lookup strKey Tryz.underlying104 (zeroInts W) (zd := nrD .nil) (zp := []) rfl (kS_key v hv)
  rw [hD] at hu
  rw [hr, nrElem_inv hu]
/-- a new inner map enters: W is the world behind its making -/
theorem Idx.put (h : Idx W B M K mb sv ix) {n : ByteArray} (hn : n.size ≤ maxLen) (hm : mb n = none) (hK : K < 1099511627776) (hM : M < W.heap.size) (hB : B ≤ W.heap.size) :
    ∃ W', (Instr.mapUpdate 89 (.map (some M)) (.string n) (.map (some W.heap.size))).run Tryz.prog (W.alloc (.map #[] 0)) = .ok () W' ∧ Idx W' B M (K + 1) (fun m => if m = n then some W.heap.size else mb m) sv ix ∧ (W.alloc (.map #[] 0)).grownBy W' (some M) := by
  have g0 : Gr W (W.alloc (.map #[] 0)) := own_of_none (World.grownBy_alloc W _ none)
  obtain ⟨D, ho, hD⟩ := (h.gr g0).outer
  obtain ⟨W', hr, ho', hg⟩ := ho.update (val := .map (some W.heap.size)) strKey Tryz.underlying89 (by unfold maxLen; omega) (kS_key n hn) (show mapElem (.map (some W.heap.size)) = some (mapD (some W.heap.size), []) from rfl)
  have hI := ho.isMap
  obtain ⟨esM, ckM, hobj⟩ := map_obj ho
  have hlt : ∀ m b, mb m = some b → b < W.heap.size := fun m b hb => by
    obtain ⟨D, h1, -⟩ := h.inner m b hb
    exact h1.lt
  refine ⟨W', hr, ⟨⟨_, ho', fun m => ?_⟩, fun m b hb => ?_, fun m hmn => ?_, fun m v => ⟨World.ownsRow.kept (((h.gr g0).rows m v).1) hg ?_, Nat.le_succ_of_le (h.rows m v).2⟩, fun m m' b h1 h2 => ?_, h.injR, ⟨h.hM.1, fun m b hb => ?_⟩⟩, hg⟩
  · by_cases e : m = n
    · subst e
      rw [if_pos rfl, atKey_put_same hI (kS_is _)]
    · rw [if_neg e, atKey_put_other (fun h => e (kS_inj h))]; exact hD m
  · by_cases e : m = n
    · subst e
      rw [if_pos rfl] at hb
      injection hb with hb
      subst hb
      refine ⟨.map [], ((World.ownsMap_made W Tryz.prog 9 nrElem).kept hg (by simp; omega)).mono (by omega), fun v => ?_⟩
      rw [(h.none_ m hm v).1]; rfl
    · rw [if_neg e] at hb
      obtain ⟨D2, h1, h2⟩ := (h.gr g0).inner m b hb
      exact ⟨D2, (h1.kept hg (by have := (h.hM.2 m b hb).2; simp; omega)).mono (by omega), h2⟩
  · by_cases e : m = n
    · rw [if_pos e] at hmn; cases hmn
    · rw [if_neg e] at hmn; exact h.none_ m hmn
  · by_cases e : (sv m v).v.ownBlock = none
    · exact .inl e
    · refine .inr fun e2 => ?_
      obtain ⟨cur, hc⟩ := ((h.gr g0).rows m v).1.obj e2
      rw [hobj] at hc; cases hc
  · by_cases e1 : m = n
    · by_cases e2 : m' = n
      · rw [e1, e2]
      · rw [if_pos e1] at h1
        rw [if_neg e2] at h2
        injection h1 with h1
        have := hlt _ _ h2; omega
    · by_cases e2 : m' = n
      · rw [if_neg e1] at h1
        rw [if_pos e2] at h2
        injection h2 with h2
        have := hlt _ _ h1; omega
      · rw [if_neg e1] at h1
        rw [if_neg e2] at h2
        exact h.injM m m' b h1 h2
  · by_cases e : m = n
    · rw [if_pos e] at hb; injection hb with hb; subst hb; exact ⟨hB, by omega⟩
    · rw [if_neg e] at hb; exact h.hM.2 m b hb
/-- a number more at n, v: behind the append, the store -/
theorem Idx.add (h : Idx W B M K mb sv ix) {n v : ByteArray} {b i : Nat} (hb : mb n = some b) (hv : v.size ≤ maxLen) (hK : K < 1099511627776) {s' : Value} (ho : OwnI W' B s' (ix n v ++ [i])) (hg : W.grownBy W' (sv n v).v.ownBlock) (hs : s'.ownBlock = (sv n v).v.ownBlock ∨ s'.ownBlock = some W.heap.size) :
    ∃ W2 nr, s' = nr.v ∧ (Instr.mapUpdate 104 (.map (some b)) (.string v) s').run Tryz.prog W' = .ok () W2 ∧ W'.grownBy W2 (some b) ∧
      Idx W2 B M (K + 1) mb (fun m u => if m = n ∧ u = v then nr else sv m u) (fun m u => if m = n ∧ u = v then ix n v ++ [i] else ix m u) := by
  obtain ⟨nr, rfl⟩ : ∃ nr : Nr, s' = nr.v := by
    rcases ho.2 with ⟨rfl, -⟩ | ⟨g, cap, cur, rfl, -⟩
    · exact ⟨.nil, rfl⟩
    · exact ⟨.at_ g _ cap, rfl⟩
  -- maps are no rows
  have hmap : ∀ {c : Nat} {R : Value → Option (DataW Unit × List MemPlace)} {k : Nat} {D : DataW Unit}, W.ownsMap Tryz.prog 9 R c k D → W'.ownsMap Tryz.prog 9 R c k D := fun {c R k D} hc => by
    refine hc.kept hg fun e => ?_
    obtain ⟨es, ck, h1⟩ := map_obj hc
    obtain ⟨cur, h2⟩ := (h.rows n v).1.obj e.symm
    rw [h1] at h2; cases h2
  have hrow : ∀ m u, ¬ (m = n ∧ u = v) → OwnI W' B (sv m u).v (ix m u) := fun m u hne => by
    refine World.ownsRow.kept (h.rows m u).1 hg ?_
    by_cases e : (sv m u).v.ownBlock = none
    · exact .inl e
    · refine .inr fun e2 => ?_
      obtain ⟨c, hc⟩ := Option.ne_none_iff_exists'.1 e
      exact hne (h.injR m u n v c hc (by rw [← e2]; exact hc))
  obtain ⟨Db, hob, hDb⟩ := h.inner n b hb
  have hob' := hmap hob
  obtain ⟨W2, hr, ho2, hg2⟩ := hob'.update strKey Tryz.underlying104 (by unfold maxLen; omega) (kS_key v hv) (nrElem_mk nr)
  have hI := hob'.isMap
  obtain ⟨esb, ckb, hobjb⟩ := map_obj hob'
  have hrow2 : ∀ {s : Value} {l : List Nat}, OwnI W' B s l → OwnI W2 B s l := fun {s l} hs => by
    refine World.ownsRow.kept hs hg2 ?_
    by_cases e : s.ownBlock = none
    · exact .inl e
    · refine .inr fun e2 => ?_
      obtain ⟨cur, hc⟩ := OwnI.obj hs e2
      rw [hobjb] at hc; cases hc
  refine ⟨W2, nr, rfl, hr, hg2, ⟨?_, fun m c hc => ?_, fun m hm u => ?_, fun m u => ?_, h.injM, fun m u m' u' c h1 h2 => ?_, h.hM⟩⟩
  · obtain ⟨D, h1, h2⟩ := h.outer
    exact ⟨D, ((hmap h1).kept hg2 (by have := (h.hM.2 n b hb).2; simp; omega)).mono (by omega), h2⟩
  · by_cases e : m = n
    · subst e
      obtain rfl : b = c := by rw [hb] at hc; exact Option.some.inj hc
      refine ⟨_, ho2, fun u => ?_⟩
      by_cases e : u = v
      · subst e
        rw [if_pos ⟨rfl, rfl⟩, atKey_put_same hI (kS_is _)]
      · rw [if_neg (fun h => e h.2), atKey_put_other (fun h => e (kS_inj h))]; exact hDb u
    · obtain ⟨D, h1, h2⟩ := h.inner m c hc
      refine ⟨D, ((hmap h1).kept hg2 (fun e2 => e ?_)).mono (by omega), fun u => by rw [if_neg (fun h => e h.1)]; exact h2 u⟩
      injection e2 with e2
      subst e2
      exact h.injM m n c hc hb
  · have hne : ¬ (m = n ∧ u = v) := fun e => by rw [e.1, hb] at hm; cases hm
    rw [if_neg hne, if_neg hne]
    exact h.none_ m hm u
  · by_cases e : m = n ∧ u = v
    · rw [if_pos e, if_pos e]
      exact ⟨hrow2 ho, by have := (h.rows n v).2; simp; omega⟩
    · rw [if_neg e, if_neg e]
      exact ⟨hrow2 (hrow m u e), Nat.le_succ_of_le (h.rows m u).2⟩
  · have old : ∀ m u c, ¬ (m = n ∧ u = v) → (sv m u).v.ownBlock = some c → nr.v.ownBlock ≠ some c := fun m u c hne hc e => by
      have hlt := (World.ownsRow.lt (h.rows m u).1 c hc).2
      rcases hs with e2 | e2
      · exact hne (h.injR m u n v c hc (by rw [← e2]; exact e))
      · rw [e2] at e; injection e with e; omega
    by_cases e1 : m = n ∧ u = v
    · by_cases e2 : m' = n ∧ u' = v
      · exact ⟨e1.1.trans e2.1.symm, e1.2.trans e2.2.symm⟩
      · rw [if_pos e1] at h1
        rw [if_neg e2] at h2
        exact absurd h1 (old m' u' c e2 h2)
    · by_cases e2 : m' = n ∧ u' = v
      · rw [if_neg e1] at h1
        rw [if_pos e2] at h2
        exact absurd h2 (old m u c e1 h1)
      · rw [if_neg e1] at h1
        rw [if_neg e2] at h2
        exact h.injR m u m' u' c h1 h2
end
end Go.Proofs.YtoooaipbkkiefaaGreatDoor
