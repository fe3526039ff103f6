/- Normal, the reference's. -/
import Derived.Test.YtihiklmomhhdbaaDoorPRef
import Derived.Test.YtihiklmomhhdbaaDoorPNorm
import Derived.Deep.Cut
import Derived.Deep.CutRange
import Derived.Deep.CutBlock
namespace Go.Proofs.YtihiklmomhhdbaaDoor.Pt
open Go.RowKit Go.Sort
set_option maxRecDepth 100000
set_option maxHeartbeats 8000000
attribute [local irreducible] wpQuiet

/-- the place of labels -/
def plP (l : List Pt) (x : List Lb) : Nat := (l.takeWhile (ahead x)).length
theorem plP_le (l : List Pt) (x : List Lb) : plP l x ≤ l.length := by
  have h := congrArg List.length (List.takeWhile_append_dropWhile (p := ahead x) (l := l))
  rw [List.length_append] at h
  unfold plP
  omega
theorem plP_at {l : List Pt} {x : List Lb} {k : Nat} (h1 : ∀ i, i < k → ∀ q, l[i]? = some q → ltLs q.1 x) (h2 : ∀ q, l[k]? = some q → ¬ ltLs q.1 x) (hk : k ≤ l.length) : plP l x = k := by
  unfold plP
  rw [(tw_len h1 h2 hk).1]
  simp; omega
theorem plP_lt {l : List Pt} {x : List Lb} {i : Nat} (h : i < plP l x) {q : Pt} (hq : l[i]? = some q) : ltLs q.1 x := by
  have h1 : (l.takeWhile (ahead x))[i]? = some q := by
    have e := List.takeWhile_append_dropWhile (p := ahead x) (l := l)
    rw [← e, List.getElem?_append_left h] at hq
    exact hq
  have h2 := List.all_eq_true.1 (List.all_takeWhile (l := l) (p := ahead x)) q (List.mem_of_getElem? h1)
  simpa [ahead] using h2
theorem plP_ge {l : List Pt} {x : List Lb} {q : Pt} (hq : l[plP l x]? = some q) : ¬ ltLs q.1 x := by
  have e := List.takeWhile_append_dropWhile (p := ahead x) (l := l)
  rw [← e] at hq
  unfold plP at hq
  rw [List.getElem?_append_right (by rw [e]; exact Nat.le_refl _)] at hq
  rw [e, Nat.sub_self] at hq
  intro h
  cases hd : l.dropWhile (ahead x) with
  | nil => rw [hd] at hq; simp at hq
  | cons y r =>
    rw [hd] at hq
    obtain rfl : y = q := by simpa using hq
    have := List.head_dropWhile_not (ahead x) (l := l) (by rw [hd]; simp)
    simp [hd, ahead, h] at this
theorem insP_pl (l : List Pt) (p : Pt) : insP l p = l.take (plP l p.1) ++ p :: l.drop (plP l p.1) :=
  insP_at (fun _ hi _ hq => plP_lt hi hq) (fun _ hq => plP_ge hq) (plP_le _ _)
/-- is it there? -/
def dupB (l : List Pt) (x : List Lb) : Bool := match l[plP l x]? with
  | some q => cmpLs q.1 x == 0
  | none => false
theorem dupB_iff {l : List Pt} {x : List Lb} (hw : wsP l) : dupB l x = true ↔ x ∈ l.map (·.1) := by
  rw [dup_at hw (fun _ hi _ hq => plP_lt hi hq) (fun _ hq => plP_ge hq)]
  unfold dupB
  cases h : l[plP l x]? with
  | none => simp
  | some q => simp [cmpLs_0_iff]
theorem nodB_next {l : List Pt} {k : Nat} (h : k < l.length) : ((!nodB (l.take k)) || dupB (ordP (l.take k)) (l[k]).1) = !nodB (l.take (k + 1)) := by
  have h1 := nodB_take h
  have h2 := dupB_iff (x := (l[k]).1) (ordP_ws (l.take k))
  cases e1 : nodB (l.take k) <;> cases e2 : dupB (ordP (l.take k)) (l[k]).1 <;> cases e3 : nodB (l.take (k + 1)) <;> simp_all
/-- the reference's row on the way -/
structure RNS (w W : World) (v : Value) (cs : List Pc) (l : List Pt) : Prop where
  g : Gr w W
  row : OwnT W w.heap.size v cs
  rds : Rds w cs l
theorem RNS.gr {w W W' : World} {v : Value} {cs : List Pc} {l : List Pt} (h : RNS w W v cs l) (g : Gr W W') : RNS w W' v cs l := ⟨h.g.trans g, h.row.gr g, h.rds⟩
theorem RNS.pts {w W : World} {A : Option Addr} {n c : Nat} {cs : List Pc} {l : List Pt} (h : RNS w W (.slice A n c) cs l) : At2 encT W A cs ∧ PtsAt W A l := by
  obtain ⟨A', c', e, h1, -⟩ := h.row.form (fun _ => rfl)
  injection e with e1 e2 e3
  subst e1
  exact ⟨h1, cs, h1, h.rds.gr h.g⟩
theorem own_emp (W : World) (B : Nat) (hB : B ≤ W.heap.size) : OwnT (W.alloc (.cells #[] 38)) B (.slice (some ⟨W.heap.size, 0, none⟩) 0 0) [] :=
  World.ownsRow_made W #[] 0 hB (Nat.zero_le _) (by simp)
theorem own_empb (W : World) (B : Nat) (hB : B ≤ W.heap.size) (o : Obj) : OwnT ((W.alloc o).alloc (.cells #[] 38)) B (.slice (some ⟨W.heap.size + 1, 0, none⟩) 0 0) [] := by
  have h := own_emp (W.alloc o) B (by simp; omega)
  rwa [show (W.alloc o).heap.size = W.heap.size + 1 by simp] at h
theorem run_appRt {W : World} {B : Nat} {v : Value} {cs : List Pc} {A : Option Addr} {j c : Nat} (h : OwnT W B v []) (hat : At2 encT W A cs) (hj : j ≤ cs.length) (hl : cs.length ≤ 1000000) (hB : B ≤ W.heap.size) :
    ∃ v' W', (Builtin.append_ #[28, 28] 28 #[v, .slice A j c]).run Tryd.prog W = .ok v' W' ∧ OwnT W' B v' (cs.take j) ∧ W.grownBy W' v.ownBlock ∧ (v'.ownBlock = v.ownBlock ∨ v'.ownBlock = some W.heap.size) := by
  have e : (cs.take j).length = j := by simp; omega
  obtain ⟨v', W', h1, h2, h3⟩ := run_appR (c := c) h (hat.take j) (by simp; omega) hB
  rw [e] at h1
  exact ⟨v', W', h1, by simpa using h2, h3⟩
theorem run_appRd {W : World} {B : Nat} {v : Value} {ds cs : List Pc} {A : Option Addr} {j n c c' : Nat} (h : OwnT W B v ds) (hat : At2 encT W A cs) (hn : n = cs.length) (hj : j ≤ n) (hc : n ≤ c) (hl : cs.length ≤ 1000000) (hd : ds.length ≤ 1000000) (hB : B ≤ W.heap.size) :
    ∃ v' W', (Builtin.append_ #[28, 28] 28 #[v, .slice (if c = j then A else A.map (·.add (j * 2))) (n - j) c']).run Tryd.prog W = .ok v' W' ∧ OwnT W' B v' (ds ++ cs.drop j) ∧ W.grownBy W' v.ownBlock ∧ (v'.ownBlock = v.ownBlock ∨ v'.ownBlock = some W.heap.size) := by
  subst hn
  have e : (cs.drop j).length = cs.length - j := by simp
  obtain ⟨v', W', h1, h2, h3⟩ := run_appR (c := c') h (hat.drop j c hj hc) (by simp; omega) hB
  rw [e] at h1
  exact ⟨v', W', h1, h2, h3⟩
theorem Rds.ins {w : World} {cs : List Pc} {l : List Pt} (h : Rds w cs l) (j : Nat) {c : Pc} {p : Pt} (hc : Rd w c p) : Rds w (cs.take j ++ [c] ++ cs.drop j) (l.take j ++ p :: l.drop j) := by
  have := ((h.take j).append (Rds.one hc)).append (h.drop j)
  simpa using this

end Go.Proofs.YtihiklmomhhdbaaDoor.Pt
