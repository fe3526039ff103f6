/- each, nameless, the program's. -/
import Derived.Test.YtihiklmomhhdbaaGreatDoorGGatW
import Derived.Test.YtihiklmomhhdbaaGreatDoorGChk
import Derived.Test.YtihiklmomhhdbaaGreatDoorPNorm
import Derived.Laws.Rows
import Derived.Laws.EntriesVeiled
namespace Go.Proofs.YtihiklmomhhdbaaGreatDoor.Pt
open Go.RowKit
set_option maxRecDepth 100000

theorem flatMap_two {α β : Type} (l : List α) (f g : α → List β) : (l.flatMap f ++ l.flatMap g).Perm (l.flatMap fun x => f x ++ g x) := by
  induction l with
  | nil => exact List.Perm.refl _
  | cons x r ih =>
    rw [List.flatMap_cons, List.flatMap_cons, List.flatMap_cons]
    have h1 : ((f x ++ r.flatMap f) ++ (g x ++ r.flatMap g)).Perm ((f x ++ g x) ++ (r.flatMap f ++ r.flatMap g)) := by
      rw [List.append_assoc, List.append_assoc]
      refine List.Perm.append_left _ ?_
      rw [← List.append_assoc, ← List.append_assoc]
      exact List.Perm.append_right _ List.perm_append_comm
    exact h1.trans (List.Perm.append_left _ ih)
theorem flatMap_perm {α β : Type} (l : List α) {f g : α → List β} (h : ∀ x ∈ l, (f x).Perm (g x)) : (l.flatMap f).Perm (l.flatMap g) := by
  induction l with
  | nil => exact List.Perm.refl _
  | cons x r ih =>
    rw [List.flatMap_cons, List.flatMap_cons]
    exact (h x (by simp)).append (ih fun y hy => h y (by simp [hy]))
theorem flat_one {f : Pt → List Lb} (p : Pt) (r : List Pt) : ∀ {ks : List (List Lb)}, ks.Nodup → f p ∈ ks → (ks.flatMap fun x => memG f x (p :: r)).Perm (p :: ks.flatMap fun x => memG f x r)
  | [], _, h => absurd h (by simp)
  | y :: ks, hn, h => by
    obtain ⟨hy, hk⟩ := List.nodup_cons.1 hn
    rw [List.flatMap_cons, List.flatMap_cons]
    by_cases e : f p = y
    · subst e
      have e1 : memG f (f p) (p :: r) = p :: memG f (f p) r := by unfold memG; rw [List.filter_cons]; simp
      have e2 : (ks.flatMap fun x => memG f x (p :: r)) = ks.flatMap fun x => memG f x r := by
        unfold List.flatMap
        congr 1
        refine List.map_congr_left fun x hx => ?_
        have : f p ≠ x := fun e => hy (by rw [e]; exact hx)
        unfold memG; rw [List.filter_cons]; simp [this]
      rw [e1, e2]
      exact List.Perm.refl _
    · have e1 : memG f y (p :: r) = memG f y r := by unfold memG; rw [List.filter_cons]; simp [e]
      have h2 : f p ∈ ks := by
        rcases List.mem_cons.1 h with h | h
        · exact absurd h e
        · exact h
      rw [e1]
      exact (List.Perm.append_left _ (flat_one p r hk h2)).trans List.perm_middle
theorem flat_all {f : Pt → List Lb} {ks : List (List Lb)} (hn : ks.Nodup) : ∀ {l : List Pt}, (∀ p ∈ l, f p ∈ ks) → (ks.flatMap fun x => memG f x l).Perm l
  | [], _ => by
    have : (ks.flatMap fun x => memG f x []) = [] := by
      rw [List.flatMap_eq_nil_iff]; intro x _; rfl
    rw [this]
  | p :: r, h => (flat_one p r hn (h p (by simp))).trans ((flat_all hn fun q hq => h q (by simp [hq])).cons p)
/-- the groups together are all points -/
theorem grps_perm (f : Pt → List Lb) (l : List Pt) : ((grpsP f l).flatMap (·.2)).Perm l := by
  unfold grpsP
  rw [List.flatMap_map]
  exact flat_all (keys_nodup f l) fun p hp => mem_keys.2 ⟨p, hp, rfl⟩
/-- what is chosen, and the others, are all points -/
theorem agg_takes_perm {op : Int} (ho : tksB op = true) (f : Pt → List Lb) (k : Nat) (l : List Pt) : ∃ rest, (aggP op f k l ++ rest).Perm l := by
  refine ⟨(grpsP f l).flatMap fun s => (srtK (kP (op == 6)) s.2).drop (cutN k s.2.length), ?_⟩
  have e : aggP op f k l = (grpsP f l).flatMap fun s => (srtK (kP (op == 6)) s.2).take (cutN k s.2.length) := by
    unfold aggP outG
    rw [ho]; rfl
  rw [e]
  refine (flatMap_two _ _ _).trans ((flatMap_perm _ fun s _ => ?_).trans (grps_perm f l))
  rw [List.take_append_drop]
  exact srtK_perm _ _
theorem agg_ones {op : Int} (ho : tksB op = false) (f : Pt → List Lb) (k : Nat) (l : List Pt) : aggP op f k l = (keysP f l).map fun x => (x, oneV op ((memG f x l).map (·.2))) := by
  unfold aggP outG grpsP
  rw [ho]
  simp only [Bool.false_eq_true, if_false]
  rw [List.flatMap_map]
  induction keysP f l with
  | nil => rfl
  | cons x r ih => rw [List.flatMap_cons, ih]; rfl
theorem agg_len (op : Int) (f : Pt → List Lb) (k : Nat) (l : List Pt) : (aggP op f k l).length ≤ l.length := by
  cases ho : tksB op
  · rw [agg_ones ho, List.length_map]; exact keys_len f l
  · obtain ⟨rest, h⟩ := agg_takes_perm ho f k l
    have := h.length_eq
    rw [List.length_append] at this
    omega
theorem SmL.group {x : List Lb} (h : SmL x) (how : Int) (ns : List ByteArray) : SmL (groupL x how ns) := by
  have pk : ∀ ns am, SmL (pickL x ns am) := fun ns am => ⟨by have := pickL_len x ns am; have := h.1; omega, pickL_wd h.2 ns am⟩
  unfold groupL
  split
  · exact pk _ _
  · split
    · exact pk _ _
    · exact ⟨by simp, fun y hy => by simp at hy⟩
theorem agg_sm {l : List Pt} (h : SmP l) (op : Int) (how : Int) (ns : List ByteArray) (k : Nat) : SmP (aggP op (grpF how ns) k l) := by
  refine ⟨Nat.le_trans (agg_len _ _ _ _) h.1, fun p hp => ?_⟩
  cases ho : tksB op
  · rw [agg_ones ho] at hp
    obtain ⟨x, hx, rfl⟩ := List.mem_map.1 hp
    obtain ⟨q, hq, rfl⟩ := mem_keys.1 hx
    exact (h.2 q hq).group how ns
  · obtain ⟨rest, hr⟩ := agg_takes_perm ho (grpF how ns) k l
    exact h.2 p (hr.mem_iff.1 (List.mem_append_left _ hp))
theorem agg_ok {l : List Pt} (h : okP l = true) (op : Int) (how : Int) (ns : List ByteArray) (k : Nat) : okP (aggP op (grpF how ns) k l) = true := by
  unfold okP at h ⊢
  rw [List.all_eq_true] at h ⊢
  intro p hp
  cases ho : tksB op
  · rw [agg_ones ho] at hp
    obtain ⟨x, hx, rfl⟩ := List.mem_map.1 hp
    obtain ⟨q, hq, rfl⟩ := mem_keys.1 hx
    exact group_right (h q hq) how ns
  · obtain ⟨rest, hr⟩ := agg_takes_perm ho (grpF how ns) k l
    exact h p (hr.mem_iff.1 (List.mem_append_left _ hp))
theorem agg_nodup {l : List Pt} (h : (l.map (·.1)).Nodup) (op : Int) (f : Pt → List Lb) (k : Nat) : ((aggP op f k l).map (·.1)).Nodup := by
  cases ho : tksB op
  · rw [agg_ones ho, List.map_map]
    have : ((fun p : Pt => p.1) ∘ fun x => (x, oneV op ((memG f x l).map (·.2)))) = id := rfl
    rw [this, List.map_id]
    exact keys_nodup f l
  · obtain ⟨rest, hr⟩ := agg_takes_perm ho f k l
    have := (hr.map (·.1)).nodup_iff.2 h
    rw [List.map_append] at this
    exact (List.nodup_append.1 this).1
/-- of a vector there is no error -/
theorem agg_nor {l : List Pt} (h1 : okP l = true) (h2 : risP l) (op how : Int) (ns : List ByteArray) (k : Nat) : norE (aggP op (grpF how ns) k l) = 0 ∧ norV (aggP op (grpF how ns) k l) = ordP (aggP op (grpF how ns) k l) :=
  norE_0 (agg_ok h1 op how ns k) (by unfold nodB; exact decide_eq_true (agg_nodup h2.nodup op _ k))
/-! ### Agg -/
def agE (op how : Int) (ns : List ByteArray) (k : Nat) (l : List Pt) : Int := if isA op && chkG how ns then norE (aggP op (grpF how ns) k l) else 1
def agV (op how : Int) (ns : List ByteArray) (k : Nat) (l : List Pt) : List Pt := if isA op && chkG how ns then norV (aggP op (grpF how ns) k l) else []
end Go.Proofs.YtihiklmomhhdbaaGreatDoor.Pt
namespace Go.Proofs.YtihiklmomhhdbaaGreatDoor.Pt
open Go.RowKit Go.Sort
set_option maxRecDepth 100000
set_option maxHeartbeats 4000000
attribute [local irreducible] wpQuiet

/-- a function of values, as a closure -/
def ValC (W0 : World) (G : FuncId) (cb : Array Value) (f : Nat → Nat) : Prop := ∀ (W : World) (x : Nat), Gr W0 W → Calls Tryz.prog G (#[.float .f64 x] ++ cb) W fun e w' => e = .returned (.float .f64 (f x)) ∧ Gr W w'
/-- a point in fresh memory -/
def PtPost (p : Pt) (w : World) (e : Ending) (w' : World) : Prop :=
  ∃ A c, e = .returned (.agg #[.slice A p.1.length c, .float .f64 p.2]) ∧ LabsAt w' A p.1 ∧ Gr w w' ∧ (0 < p.1.length → ∀ b, (Value.slice A p.1.length c).ownBlock = some b → w.heap.size ≤ b)
/-- a function of points, as a closure -/
def Chg (W0 : World) (F : FuncId) (cb : Array Value) (f : Pt → Pt) : Prop := ∀ (W : World) (A : Option Addr) (c : Nat) (p : Pt), Gr W0 W → LabsAt W A p.1 → SmL p.1 → Calls Tryz.prog F (#[.agg #[.slice A p.1.length c, .float .f64 p.2]] ++ cb) W (PtPost (f p) W)
/-- without the metric's name -/
def nmP (g : Nat → Nat) (p : Pt) : Pt := (pickL p.1 [nmB] false, g p.2)
theorem pt_size : (Tryz.prog.info? 64).map (·.size) = some 2 := by kernel_rfl

theorem box2 {W : World} {b : Nat} {u v : Value} {T : TypeId} (h : W.heap[b]? = some (.cells #[u, v] T (0, 0))) (u' v' : Value) : ((W.setCell ⟨b, 0, none⟩ u').setCell ⟨b, 1, none⟩ v').heap[b]? = some (.cells #[u', v'] T (0, 0)) := by
  have h1 := heap_setCell_same W b 0 _ _ u' h
  have h2 := heap_setCell_same _ b 1 _ _ v' h1
  simpa using h2
theorem gset (W : World) (b i j : Nat) (u v : Value) : W.grownBy ((W.setCell ⟨b, i, none⟩ u).setCell ⟨b, j, none⟩ v) (some b) :=
  ⟨rfl, rfl, rfl, by simp [World.setCell], fun k _ hne => (Below.heap_setCell _ _ v k (by
    rintro rfl
    exact hne rfl)).trans (Below.heap_setCell W _ u k (by
    rintro rfl
    exact hne rfl))⟩
theorem labs_only {W W' : World} {A : Option Addr} {l : List Lb} {r : Nat} (h : LabsAt W A l) (g : W.grownBy W' (some r)) (hne : 0 < l.length → ∀ b o, A = some ⟨b, o, none⟩ → b ≠ r) : LabsAt W' A l := fun h0 => by
  obtain ⟨b, o, e, hc⟩ := h h0
  have := hne h0 b o e
  exact ⟨b, o, e, fun i y hy => ⟨g.cell (hc i y hy).1 (fun e => this (by injection e)), g.cell (hc i y hy).2 (fun e => this (by injection e))⟩⟩
/-- a point built in a block of the call's own -/
theorem pt_end {W W2 w4 w5 : World} {N : Nat} {A : Option Addr} {l : List Lb} {c : Nat} {y : Nat} (hN : W.heap.size = N) (hG : Gr W W2) (h4 : LabsAt w4 A l) (g4 : Gr W2 w4) (g5 : Gr w4 w5) (hz : N + 1 < W2.heap.size) (hf : 0 < l.length → ∀ b, (Value.slice A l.length c).ownBlock = some b → W2.heap.size ≤ b) :
    PtPost (l, y) W (.returned (.agg #[.slice A l.length c, .float .f64 y])) ((w5.setCell ⟨N + 1, 0, none⟩ (.slice A l.length c)).setCell ⟨N + 1, 1, none⟩ (.float .f64 y)) := by
  have gs := gset w5 (N + 1) 0 1 (.slice A l.length c) (.float .f64 y)
  refine ⟨A, c, rfl, labs_only (h4.gr g5) gs (fun h0 b o hb => ?_), ((hG.trans g4).trans g5).grown gs (fun k hk => by injection hk; omega), fun h0 b hb => ?_⟩
  · have := hf h0 b (by rw [hb]; rfl)
    omega
  · have := hf h0 b hb
    have := hG.size
    omega
end Go.Proofs.YtihiklmomhhdbaaGreatDoor.Pt
namespace Go.Proofs.YtihiklmomhhdbaaGreatDoor.Pt
open Go.RowKit Go.Sort
set_option maxRecDepth 100000
set_option maxHeartbeats 4000000
attribute [local irreducible] wpQuiet

end Go.Proofs.YtihiklmomhhdbaaGreatDoor.Pt
/- nameless, Map, Label, the program's. -/
namespace Go.Proofs.YtihiklmomhhdbaaGreatDoor.Pt
open Go.RowKit Go.Sort
set_option maxRecDepth 100000
set_option maxHeartbeats 4000000
attribute [local irreducible] wpQuiet

theorem SmL.pick {x : List Lb} (h : SmL x) (ns : List ByteArray) (am : Bool) : SmL (pickL x ns am) := ⟨by have := pickL_len x ns am; have := h.1; omega, pickL_wd h.2 ns am⟩
theorem SmP.map {l : List Pt} {f : Pt → Pt} (h : SmP l) (hf : ∀ p ∈ l, SmL (f p).1) : SmP (l.map f) := ⟨by have := h.1; simpa using this, fun p hp => by obtain ⟨q, hq, rfl⟩ := List.mem_map.1 hp; exact hf q hq⟩
theorem SmP.nm {l : List Pt} (h : SmP l) (g : Nat → Nat) : SmP (l.map (nmP g)) := h.map fun p hp => (h.2 p hp).pick _ _
/-! ### Map -/
end Go.Proofs.YtihiklmomhhdbaaGreatDoor.Pt
/- Label, the program's. -/
namespace Go.Proofs.YtihiklmomhhdbaaGreatDoor.Pt
open Go.RowKit Go.Sort
set_option maxRecDepth 100000
set_option maxHeartbeats 4000000
attribute [local irreducible] wpQuiet

/-- with another value of a label -/
def labP (nm vl : ByteArray) (p : Pt) : Pt := (withL p.1 nm vl, p.2)
theorem SmL.with_ {x : List Lb} (h : SmL x) {nm vl : ByteArray} (h1 : nm.size ≤ maxLen) (h2 : vl.size ≤ maxLen) : SmL (withL x nm vl) := by
  unfold withL
  split
  · rename_i hr
    have := (rightB_t.1 hr).1
    exact ⟨by omega, outL_wd h.2 h1 h2⟩
  · exact h
/-- may a label be so? -/
def lokB (nm vl : ByteArray) : Bool := nameB nm && decide (vl.size ≤ 256)
end Go.Proofs.YtihiklmomhhdbaaGreatDoor.Pt
/- where, Scaled, the program's. -/
namespace Go.Proofs.YtihiklmomhhdbaaGreatDoor.Pt
open Go.RowKit Go.Sort
set_option maxRecDepth 100000
set_option maxHeartbeats 4000000
attribute [local irreducible] wpQuiet

/-- a test of values, as a closure -/
def TstC (W0 : World) (G : FuncId) (cb : Array Value) (f : Nat → Bool) : Prop := ∀ (W : World) (x : Nat), Gr W0 W → Calls Tryz.prog G (#[.float .f64 x] ++ cb) W fun e w' => e = .returned (.bool (f x)) ∧ Gr W w'
def whP (f : Nat → Bool) (l : List Pt) : List Pt := l.filter fun p => f p.2
theorem whP_take {f : Nat → Bool} {l : List Pt} {k : Nat} (h : k < l.length) : whP f (l.take (k + 1)) = whP f (l.take k) ++ if f (l[k]).2 then [l[k]] else [] := by
  unfold whP
  rw [List.take_succ_eq_append_getElem h, List.filter_append]
  congr 1
  simp [List.filter_cons]
theorem whP_len (f : Nat → Bool) (l : List Pt) : (whP f l).length ≤ l.length := List.length_filter_le _ _
/-! ### Scaled -/
def sdA (left : Bool) (x y : Nat) : Nat := if left then x else y
def sdB (left : Bool) (x y : Nat) : Nat := if left then y else x
/-- is an operator one that chooses? -/
def filB (op : Int) (flag : Bool) : Bool := decide (5 ≤ op) && decide (op ≤ 10) && !flag
/-- Scaled's points, its error -/
def scF (op : Int) (left : Bool) (x : Nat) (p : Pt) : Pt := nmP (fun y => Fv.opV op (sdA left x y) (sdB left x y)) p
def scW (op : Int) (left : Bool) (x : Nat) (l : List Pt) : List Pt := whP (fun y => Fv.holdsB op (sdA left x y) (sdB left x y)) l
def scV (op : Int) (x : Nat) (left flag : Bool) (l : List Pt) : List Pt := if op < 1 ∨ 10 < op then [] else if filB op flag then scW op left x l else norV (l.map (scF op left x))
def scE (op : Int) (x : Nat) (left flag : Bool) (l : List Pt) : Int := if op < 1 ∨ 10 < op then 1 else if filB op flag then 0 else norE (l.map (scF op left x))
end Go.Proofs.YtihiklmomhhdbaaGreatDoor.Pt
