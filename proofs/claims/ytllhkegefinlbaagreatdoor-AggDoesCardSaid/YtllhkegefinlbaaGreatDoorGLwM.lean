/- What the laws of layer 10 ask of lists: pure. -/
import Derived.Test.YtllhkegefinlbaaGreatDoorPKnown
import Derived.Test.YtllhkegefinlbaaGreatDoorPRef
import Derived.Test.YtllhkegefinlbaaGreatDoorGAgM
import Derived.Test.YtllhkegefinlbaaGreatDoorGSim
namespace Go.Proofs.YtllhkegefinlbaaGreatDoor.Pt
open Go.RowKit Go.Sort
set_option maxRecDepth 100000
set_option maxHeartbeats 4000000
attribute [local irreducible] wpQuiet

theorem neq_lab (a b c d : ByteArray) (w : World) : (binOp .neq 42 (.agg #[.string a, .string b]) (.agg #[.string c, .string d])).run Tryz.prog w = .ok (.bool (!(a.toList == c.toList && b.toList == d.toList))) w := by
  have u9 := Tryz.underlying9
  have a9 := Tryz.isAgg9
  have z9 := Tryz.sizeOf9
  have hS : Tryz.prog.underlying 42 = some (.struct (Tryz.prog.fieldsOf 42)) := by kernel_rfl
  have hp : Tryz.prog.stoodInHeld 42 = false := by kernel_rfl
  rw [run_neq_struct, show (10000 : Nat) = 9999 + 1 from rfl, run_equalIn_agg w 9999 42 _ _ hS hp]
  simp only [Program.fieldsOf, Tryz.underlying42]
  go_simp
  by_cases h1 : a.toList = c.toList <;> by_cases h2 : b.toList = d.toList <;> simp [h1, h2]
theorem drop_eq_step {α : Type} {a b : List α} {k : Nat} (ha : k < a.length) (hb : k < b.length) : (a.drop k = b.drop k) ↔ (a[k] = b[k] ∧ a.drop (k + 1) = b.drop (k + 1)) := by
  rw [List.drop_eq_getElem_cons ha, List.drop_eq_getElem_cons hb, List.cons.injEq]
end Go.Proofs.YtllhkegefinlbaaGreatDoor.Pt
namespace Go.Proofs.YtllhkegefinlbaaGreatDoor.Pt
open Go.RowKit
set_option maxRecDepth 100000

theorem vec_ok2 {l : List Pt} (h : vecB l = true) : okP l = true ∧ risP l := by
  unfold vecB risB at h
  rw [Bool.and_eq_true, decide_eq_true_eq] at h
  exact h
theorem can_can2 (p : Pt) : canP (canP p) = canP p := by
  unfold canP
  refine Prod.ext rfl ?_
  show Fv.canon (Fv.canon p.2) = Fv.canon p.2
  cases h : Fv.nanB p.2
  · rw [Fv.canon_num h, Fv.canon_num h]
  · rw [Fv.canon_nan h]
    exact Fv.canon_nan (by decide +kernel)
/-! ### of all points one group -/
theorem grp0 (p : Pt) : grpF 0 [] p = [] := rfl
theorem keys_0 : ∀ (l : List Pt), (l.map (grpF 0 [])).foldl keyStep [[]] = [[]]
  | [] => rfl
  | p :: r => by
    rw [List.map_cons, List.foldl_cons, step_in (by rw [grp0]; simp)]
    exact keys_0 r
theorem agg_all {op : Int} (ho : tksB op = true) (k : Nat) (l : List Pt) : aggP op (grpF 0 []) k l = chsP op k l := by
  cases l with
  | nil => unfold aggP grpsP keysP chsP; simp [srtK]
  | cons p r =>
    have hk : keysP (grpF 0 []) (p :: r) = [[]] := by
      unfold keysP
      rw [List.map_cons, List.foldl_cons, step_out (by simp)]
      exact keys_0 r
    have hm : memG (grpF 0 []) [] (p :: r) = p :: r := by
      unfold memG
      exact List.filter_eq_self.2 fun q _ => by rw [grp0]; rfl
    unfold aggP grpsP
    rw [hk]
    simp only [List.map_cons, List.map_nil, List.flatMap_cons, List.flatMap_nil, List.append_nil]
    rw [hm]
    unfold outG
    rw [ho]; rfl
theorem cut_ofI (k n : Nat) (hk : k < 2 ^ 53) (hn : n < 2 ^ 53) : cutN (Wv.Flo.ofI k) n = min k n := by
  have hi := Wv.Flo.ofI_is (k : Int) (by omega)
  have e : ∀ j, j < 2 ^ 53 → leK j (Wv.Flo.ofI k) = decide (j ≤ k) := fun j hj => by
    rw [leK_zv j _ hj, hi.num, hi.eq]
    simp only [Bool.not_false, Bool.true_and, decide_eq_decide]
    have hU := Wv.Flo.U_pos
    constructor
    · intro h
      have : j * Wv.Flo.U ≤ k * Wv.Flo.U := by exact_mod_cast h
      exact Nat.le_of_mul_le_mul_right this hU
    · intro h
      exact_mod_cast Nat.mul_le_mul_right Wv.Flo.U h
  refine cutN_at (by omega) (fun j hj => by rw [e _ (by omega)]; exact decide_eq_true (by omega)) ?_ hn
  by_cases h : n ≤ k
  · exact .inl (by omega)
  · exact .inr (by rw [e _ (by omega)]; exact decide_eq_false (by omega))
def hasP (l : List Pt) (y : Pt) : Bool := l.any fun q => sameP [q] [y]
theorem hasP_s {y : Pt} {l : List Pt} {k : Nat} (h : k < l.length) : hasP (l.take (k + 1)) y = (hasP (l.take k) y || sameP [l[k]] [y]) := by
  unfold hasP
  rw [List.take_succ_eq_append_getElem h, List.any_append]
  simp
theorem hasP_sub {l r : List Pt} {y : Pt} (h : ∀ q ∈ l, q ∈ r) (g : hasP l y = true) : hasP r y = true := by
  unfold hasP at *
  rw [List.any_eq_true] at *
  obtain ⟨q, hq, e⟩ := g
  exact ⟨q, h q hq, e⟩
/-- the points that are chosen, of k -/
def rnkP (tp : Bool) (m : Nat) (l : List Pt) : List Pt := ordP ((srtK (kP tp) l).take m)
theorem rnk_len (tp : Bool) (m : Nat) (l : List Pt) : (rnkP tp m l).length = min m l.length := by
  unfold rnkP; rw [ordP_len, List.length_take, srtK_len]
theorem rnk_mem {tp : Bool} {m : Nat} {l : List Pt} {q : Pt} : q ∈ rnkP tp m l ↔ ∃ p ∈ (srtK (kP tp) l).take m, canP p = q := by
  unfold rnkP
  rw [(ordP_perm _).mem_iff, List.mem_map]
theorem rnk_sub {tp : Bool} {m n : Nat} (h : m ≤ n) (l : List Pt) : ∀ q ∈ rnkP tp m l, q ∈ rnkP tp n l := fun q hq => by
  obtain ⟨p, hp, e⟩ := rnk_mem.1 hq
  refine rnk_mem.2 ⟨p, ?_, e⟩
  have : (srtK (kP tp) l).take m = ((srtK (kP tp) l).take n).take m := by rw [List.take_take, Nat.min_eq_left h]
  rw [this] at hp
  exact List.mem_of_mem_take hp
theorem agV_rnk {l : List Pt} (hv : vecB l = true) (hs : SmP l) (k : Nat) (hk : k ≤ 101) :
    (agV 6 0 [] (Wv.Flo.ofI k) l = rnkP true (min k l.length) l ∧ agE 6 0 [] (Wv.Flo.ofI k) l = 0) ∧ (agV 7 0 [] (Wv.Flo.ofI k) l = rnkP false (min k l.length) l ∧ agE 7 0 [] (Wv.Flo.ofI k) l = 0) := by
  obtain ⟨h1, h2⟩ := vec_ok2 hv
  have hl := hs.1
  have c : (isA 6 && chkG 0 []) = true ∧ (isA 7 && chkG 0 []) = true := by decide
  have e6 := agg_all (op := 6) rfl (Wv.Flo.ofI k) l
  have e7 := agg_all (op := 7) rfl (Wv.Flo.ofI k) l
  have n6 := agg_nor h1 h2 6 0 [] (Wv.Flo.ofI k)
  have n7 := agg_nor h1 h2 7 0 [] (Wv.Flo.ofI k)
  unfold chsP at e6 e7
  rw [cut_ofI k _ (by omega) (by omega)] at e6 e7
  rw [e6] at n6
  rw [e7] at n7
  unfold agV agE
  rw [if_pos c.1, if_pos c.1, if_pos c.2, if_pos c.2, e6, e7]
  exact ⟨⟨n6.2, n6.1⟩, n7.2, n7.1⟩
theorem canon_lt {b : Nat} (h : b < 2 ^ 64) : Fv.canon b < 2 ^ 64 := by
  unfold Fv.canon
  split
  · decide
  · exact h
theorem tk_canon (b : Nat) : Fv.tk (Fv.canon b) = Fv.tk b := by
  cases h : Fv.nanB b
  · rw [Fv.canon_num h]
  · rw [Fv.canon_nan h, Fv.tk_nan h, Fv.tk_nan (by decide +kernel)]
/-- none that is left out comes behind one that is chosen -/
theorem rnk_top {l : List Pt} (hb : ∀ p ∈ l, p.2 < 2 ^ 64) (m : Nat) {v : Pt} (hv : v ∈ l) (h : hasP (rnkP true m l) v = false) : ∀ t ∈ rnkP true m l, Fv.befB t.2 v.2 = false := by
  intro t ht
  obtain ⟨q, hq, rfl⟩ := rnk_mem.1 ht
  have hp := srtK_perm (kP true) l
  have hql : q ∈ l := hp.mem_iff.1 (List.mem_of_mem_take hq)
  have hn : v ∉ (srtK (kP true) l).take m := fun hm => by
    have : hasP (rnkP true m l) v = true := by
      unfold hasP
      rw [List.any_eq_true]
      refine ⟨canP v, rnk_mem.2 ⟨v, hm, rfl⟩, ?_⟩
      refine sameP_of ?_
      simp only [List.map_cons, List.map_nil, can_can2]
    rw [h] at this
    cases this
  have hd : v ∈ (srtK (kP true) l).drop m := by
    have := hp.mem_iff.2 hv
    rw [← List.take_append_drop m (srtK (kP true) l), List.mem_append] at this
    rcases this with h | h
    · exact absurd h hn
    · exact h
  have ha := srtK_asc (kP true) l
  unfold AscK at ha
  rw [← List.take_append_drop m (srtK (kP true) l), List.pairwise_append] at ha
  have := ha.2.2 q hq v hd
  show Fv.befB (Fv.canon q.2) v.2 = false
  rw [ordK_t _ _ (hb v hv) (canon_lt (hb q hql)), decide_eq_false_iff_not]
  unfold kP Gs.ordK at this
  unfold Gs.ordK
  simp only [if_true] at this ⊢
  rw [tk_canon]
  omega
end Go.Proofs.YtllhkegefinlbaaGreatDoor.Pt
