/- What AggGroups asks of lists: pure. -/
import Derived.Test.YtihiklmomhhdbaaGreatDoorGLwM
namespace Go.Proofs.YtihiklmomhhdbaaGreatDoor.Pt
open Go.RowKit
set_option maxRecDepth 100000

/-! ### one point of each group: in the order of the groups -/
def srtL (ks : List (List Lb)) : List (List Lb) := (ordP (ks.map fun x => (x, 0))).map (·.1)
theorem srtL_perm (ks : List (List Lb)) : (srtL ks).Perm ks := by
  have := (ordP_perm (ks.map fun x => ((x, 0) : Pt))).map (·.1)
  rw [map_can, List.map_map] at this
  have e : ((fun p : Pt => p.1) ∘ fun x => ((x, 0) : Pt)) = id := rfl
  rw [e, List.map_id] at this
  exact this
theorem srtL_len (ks : List (List Lb)) : (srtL ks).length = ks.length := (srtL_perm ks).length_eq
theorem ord_keys {ks : List (List Lb)} (hn : ks.Nodup) (g : List Lb → Nat) : ordP (ks.map fun x => (x, g x)) = (srtL ks).map fun x => (x, Fv.canon (g x)) := by
  have e : ∀ g : List Lb → Nat, ((ks.map fun x => ((x, g x) : Pt)).map (·.1)) = ks := fun g => by
    rw [List.map_map]
    exact List.map_id' _
  have h1 : risP (ordP (ks.map fun x => ((x, 0) : Pt))) := ordP_ris (by rw [e fun _ => 0]; exact hn)
  have h2 : risP ((srtL ks).map fun x => ((x, Fv.canon (g x)) : Pt)) := by
    unfold risP at h1 ⊢
    unfold srtL
    rw [List.map_map, List.pairwise_map]
    exact h1
  refine (ordP_of h2 ?_).1.symm
  rw [List.map_map]
  exact (srtL_perm ks).map _
theorem agV_ones {op : Int} (ho : tksB op = false) (hA : isA op = true) {how : Int} {ns : List ByteArray} (hC : chkG how ns = true) (k : Nat) {l : List Pt} (hv : vecB l = true) :
    agV op how ns k l = ((srtL (keysP (grpF how ns) l)).map fun x => (x, Fv.canon (oneV op ((memG (grpF how ns) x l).map (·.2))))) ∧ agE op how ns k l = 0 := by
  obtain ⟨h1, h2⟩ := vec_ok2 hv
  have n := agg_nor h1 h2 op how ns k
  unfold agV agE
  rw [hA, hC]
  simp only [Bool.and_self, if_true]
  refine ⟨?_, n.1⟩
  rw [n.2, agg_ones ho]
  exact ord_keys (keys_nodup _ _) _
/-! ### the first of each group -/
def hdP (ps : List Pt) : Pt := (srtK (kP true) ps).headD ([], 0)
theorem srt_head {ps : List Pt} (h : 0 < ps.length) : (srtK (kP true) ps).take 1 = [hdP ps] := by
  have _ := h
  unfold hdP
  have hl := srtK_len (kP true) ps
  cases e : srtK (kP true) ps with
  | nil => rw [e] at hl; simp at hl; omega
  | cons a r => rfl
theorem one_ofI : Wv.Flo.one = Wv.Flo.ofI ((1 : Nat) : Int) := by decide +kernel
theorem mem_memG {f : Pt → List Lb} {x : List Lb} {l : List Pt} {p : Pt} : p ∈ memG f x l ↔ p ∈ l ∧ f p = x := by
  unfold memG; rw [List.mem_filter]; simp
theorem memG_pos {f : Pt → List Lb} {x : List Lb} {l : List Pt} (h : x ∈ keysP f l) : 0 < (memG f x l).length := by
  obtain ⟨p, hp, rfl⟩ := mem_keys.1 h
  exact List.length_pos_of_mem (mem_memG.2 ⟨hp, rfl⟩)
theorem hd_mem {ps : List Pt} (h : 0 < ps.length) : hdP ps ∈ ps := by
  have : hdP ps ∈ (srtK (kP true) ps).take 1 := by rw [srt_head h]; simp
  exact (srtK_perm _ _).mem_iff.1 (List.mem_of_mem_take this)
theorem hd_top {ps : List Pt} (h : 0 < ps.length) : ∀ q ∈ ps, kP true (hdP ps) ≤ kP true q := fun q hq => by
  have _ := h
  have ha := srtK_asc (kP true) ps
  have hq' := (srtK_perm (kP true) ps).mem_iff.2 hq
  unfold hdP
  unfold AscK at ha
  cases e : srtK (kP true) ps with
  | nil => rw [e] at hq'; simp at hq'
  | cons a r =>
    rw [e] at ha hq'
    rcases List.mem_cons.1 hq' with rfl | h2
    · exact Int.le_refl _
    · exact (List.pairwise_cons.1 ha).1 q h2
theorem agg_top (f : Pt → List Lb) {l : List Pt} (hl : l.length ≤ 1000) : aggP 6 f Wv.Flo.one l = (keysP f l).map fun x => hdP (memG f x l) := by
  have key : ∀ ks : List (List Lb), (∀ x ∈ ks, 0 < (memG f x l).length) → (ks.map fun x => (x, memG f x l)).flatMap (outG 6 Wv.Flo.one) = ks.map fun x => hdP (memG f x l) := by
    intro ks
    induction ks with
    | nil => intro _; rfl
    | cons x r ih =>
      intro h
      rw [List.map_cons, List.flatMap_cons, ih (fun y hy => h y (by simp [hy])), List.map_cons]
      have h0 := h x (by simp)
      have h1 := memG_len f x l
      have : outG 6 Wv.Flo.one (x, memG f x l) = [hdP (memG f x l)] := by
        show (srtK (kP true) (memG f x l)).take (cutN Wv.Flo.one (memG f x l).length) = _
        rw [one_ofI, cut_ofI 1 _ (by omega) (by omega), Nat.min_eq_left (by omega), srt_head h0]
      rw [this]; rfl
  exact key _ fun x hx => memG_pos hx
theorem agV_top {how : Int} {ns : List ByteArray} (hC : chkG how ns = true) {l : List Pt} (hv : vecB l = true) (hl : l.length ≤ 1000) :
    agV 6 how ns Wv.Flo.one l = ordP ((keysP (grpF how ns) l).map fun x => hdP (memG (grpF how ns) x l)) ∧ agE 6 how ns Wv.Flo.one l = 0 := by
  obtain ⟨h1, h2⟩ := vec_ok2 hv
  have n := agg_nor h1 h2 6 how ns Wv.Flo.one
  rw [agg_top _ hl] at n
  unfold agV agE
  rw [agg_top _ hl, hC]
  exact ⟨n.2, n.1⟩
def topL (f : Pt → List Lb) (l : List Pt) : List Pt := ordP ((keysP f l).map fun x => hdP (memG f x l))
theorem topL_len (f : Pt → List Lb) (l : List Pt) : (topL f l).length = (keysP f l).length := by unfold topL; rw [ordP_len, List.length_map]
theorem topL_keys (how : Int) (ns : List ByteArray) (l : List Pt) : ((topL (grpF how ns) l).map (grpF how ns)).Perm (keysP (grpF how ns) l) := by
  unfold topL
  refine ((ordP_perm _).map _).trans ?_
  rw [List.map_map, List.map_map]
  have : (keysP (grpF how ns) l).map ((grpF how ns ∘ canP) ∘ fun x => hdP (memG (grpF how ns) x l)) = keysP (grpF how ns) l := by
    conv => rhs; rw [← List.map_id (keysP (grpF how ns) l)]
    refine List.map_congr_left fun x hx => ?_
    exact (mem_memG.1 (hd_mem (memG_pos hx))).2
  rw [this]
theorem topL_mem {how : Int} {ns : List ByteArray} {l : List Pt} {t : Pt} (h : t ∈ topL (grpF how ns) l) : grpF how ns t ∈ keysP (grpF how ns) l ∧ t = canP (hdP (memG (grpF how ns) (grpF how ns t) l)) := by
  unfold topL at h
  rw [(ordP_perm _).mem_iff, List.map_map, List.mem_map] at h
  obtain ⟨x, hx, rfl⟩ := h
  have e : grpF how ns ((canP ∘ fun x => hdP (memG (grpF how ns) x l)) x) = x := (mem_memG.1 (hd_mem (memG_pos hx))).2
  rw [e]
  exact ⟨hx, rfl⟩
/-! ### which of them is of a group -/
def inG (f : Pt → List Lb) (x : List Lb) (l : List Pt) : Bool := l.any fun p => decide (f p = x)
theorem inG_s {f : Pt → List Lb} {x : List Lb} {l : List Pt} {k : Nat} (h : k < l.length) : inG f x (l.take (k + 1)) = (inG f x (l.take k) || decide (f l[k] = x)) := by
  unfold inG
  rw [List.take_succ_eq_append_getElem h, List.any_append]
  simp
theorem inG_no {f : Pt → List Lb} {l : List Pt} (hn : (l.map f).Nodup) {k : Nat} (h : k < l.length) : inG f (f l[k]) (l.take k) = false := by
  unfold inG
  rw [List.any_eq_false]
  intro p hp
  rw [decide_eq_true_eq]
  intro e
  obtain ⟨i, hi, rfl⟩ := List.getElem_of_mem hp
  have hik : i < k := by simp at hi; omega
  rw [List.getElem_take] at e
  rw [List.Nodup, List.pairwise_map] at hn
  exact List.pairwise_iff_getElem.1 hn i k (by omega) h hik e
theorem inG_all {f : Pt → List Lb} {x : List Lb} {l : List Pt} {ks : List (List Lb)} (hp : (l.map f).Perm ks) (hx : x ∈ ks) : inG f x (l.take l.length) = true := by
  unfold inG
  rw [List.take_length, List.any_eq_true]
  obtain ⟨p, hp, e⟩ := List.mem_map.1 (hp.mem_iff.2 hx)
  exact ⟨p, hp, decide_eq_true e⟩
/-! ### values -/
theorem ext_top : ∀ (r : List Nat) (x : Nat), Fv.nanB x = false → (∀ y ∈ r, Fv.nanB y = false) → (r.foldl (extS true) x) ∈ x :: r ∧ ∀ y ∈ x :: r, Flo.key y ≤ Flo.key (r.foldl (extS true) x)
  | [], x, _, _ => ⟨by simp, fun y hy => by rw [List.mem_singleton.1 hy]; exact Int.le_refl _⟩
  | a :: r, x, hx, hr => by
    have ha := hr a (by simp)
    have hz : (extS true x a = a ∧ Flo.key x < Flo.key a) ∨ (extS true x a = x ∧ Flo.key a ≤ Flo.key x) := by
      unfold extS
      rw [hx]
      simp only [Bool.false_or, if_true]
      rw [Fv.gtB_key, ha, hx]
      simp only [Bool.not_false, Bool.true_and, decide_eq_true_eq]
      by_cases h : Flo.key x < Flo.key a
      · rw [if_pos h]; exact .inl ⟨rfl, h⟩
      · rw [if_neg h]; exact .inr ⟨rfl, by omega⟩
    rw [List.foldl_cons]
    rcases hz with ⟨e, h⟩ | ⟨e, h⟩
    · rw [e]
      obtain ⟨h1, h2⟩ := ext_top r a ha fun y hy => hr y (by simp [hy])
      refine ⟨List.mem_cons_of_mem _ h1, fun y hy => ?_⟩
      rcases List.mem_cons.1 hy with rfl | hy
      · have := h2 a (by simp); omega
      · exact h2 y hy
    · rw [e]
      obtain ⟨h1, h2⟩ := ext_top r x hx fun y hy => hr y (by simp [hy])
      refine ⟨?_, fun y hy => ?_⟩
      · rcases List.mem_cons.1 h1 with h1 | h1
        · rw [h1]; simp
        · exact List.mem_cons_of_mem _ (List.mem_cons_of_mem _ h1)
      · rcases List.mem_cons.1 hy with rfl | hy
        · exact h2 y (by simp)
        · rcases List.mem_cons.1 hy with rfl | hy
          · have := h2 x (by simp); omega
          · exact h2 y (by simp [hy])
/-- the first is of the greatest value -/
theorem top_val {ps : List Pt} (hn : ∀ p ∈ ps, Fv.nanB p.2 = false) (h0 : 0 < ps.length) : Fv.eqB (Fv.canon (hdP ps).2) (Fv.canon (oneV 4 (ps.map (·.2)))) = true := by
  have e4 : oneV 4 (ps.map (·.2)) = extL true (ps.map (·.2)) := rfl
  rw [e4]
  have hm := hd_mem h0
  have ht := hd_top h0
  obtain ⟨a, ha⟩ : ∃ a, (hdP ps).2 = a := ⟨_, rfl⟩
  have hav : a ∈ ps.map (·.2) := List.mem_map.2 ⟨_, hm, ha⟩
  have hna : Fv.nanB a = false := by rw [← ha]; exact hn _ hm
  have key : extL true (ps.map (·.2)) ∈ ps.map (·.2) ∧ ∀ y ∈ ps.map (·.2), Flo.key y ≤ Flo.key (extL true (ps.map (·.2))) := by
    have hv : ∀ y ∈ ps.map (·.2), Fv.nanB y = false := fun y hy => by
      obtain ⟨p, hp, rfl⟩ := List.mem_map.1 hy
      exact hn p hp
    cases e : ps.map (·.2) with
    | nil => rw [e] at hav; simp at hav
    | cons x r =>
      rw [e] at hv
      exact ext_top r x (hv x (by simp)) fun y hy => hv y (by simp [hy])
  obtain ⟨e, he⟩ : ∃ e, extL true (ps.map (·.2)) = e := ⟨_, rfl⟩
  rw [he] at key
  obtain ⟨q, hq, hqe⟩ := List.mem_map.1 key.1
  have hne : Fv.nanB e = false := by rw [← hqe]; exact hn q hq
  have h1 := key.2 a hav
  have h2 := ht q hq
  unfold kP Gs.ordK at h2
  simp only [if_true] at h2
  rw [ha, hqe, Fv.tk_num hna, Fv.tk_num hne] at h2
  have h3 : Flo.key e ≤ Flo.key a := by
    split at h2 <;> split at h2 <;> omega
  rw [ha, he, Fv.canon_num hna, Fv.canon_num hne, Fv.eqB_key, hna, hne]
  simp only [Bool.not_false, Bool.true_and, decide_eq_true_eq]
  omega
/-! ### what the walk asks of the chosen -/
theorem top_nodup (how : Int) (ns : List ByteArray) (l : List Pt) : ((topL (grpF how ns) l).map (grpF how ns)).Nodup := (topL_keys how ns l).nodup_iff.2 (keys_nodup _ _)
theorem top_eq {how : Int} {ns : List ByteArray} {l : List Pt} (hn : ∀ p ∈ l, Fv.nanB p.2 = false) {y : Pt} (hy : y ∈ topL (grpF how ns) l) : Fv.eqB y.2 (Fv.canon (oneV 4 ((memG (grpF how ns) (grpF how ns y) l).map (·.2)))) = true := by
  obtain ⟨h1, h2⟩ := topL_mem hy
  have h3 : y.2 = Fv.canon (hdP (memG (grpF how ns) (grpF how ns y) l)).2 := congrArg Prod.snd h2
  rw [h3]
  exact top_val (fun p hp => hn p (mem_memG.1 hp).1) (memG_pos h1)
theorem top_sm {how : Int} {ns : List ByteArray} {l : List Pt} (hs : SmP l) : SmP (topL (grpF how ns) l) := by
  refine hs.sub (by rw [topL_len]; exact keys_len _ _) fun y hy => ?_
  obtain ⟨h1, h2⟩ := topL_mem hy
  exact ⟨_, (mem_memG.1 (hd_mem (memG_pos h1))).1, by have := congrArg Prod.fst h2; exact this⟩
theorem row_at {K : List (List Lb)} {g : List Lb → Nat} {R : List Pt} (h : (K.map fun x => ((x, g x) : Pt)) = R) {k : Nat} {x : List Lb} (hx : K[k]? = some x) : ∃ hk : k < R.length, R[k] = (x, g x) :=
  List.getElem?_eq_some_iff.1 (show R[k]? = some (x, g x) by rw [← h, List.getElem?_map, hx]; rfl)
/-! ### the counts' sum -/
theorem nan_ofI (n : Nat) (h : n < 2 ^ 53) : Fv.nanB (Wv.Flo.ofI n) = false := by
  unfold Fv.nanB
  show (Ieee.double.order (Wv.Flo.ofI n) (Wv.Flo.ofI n) != some .eq) = false
  rw [Wv.Flo.order_key, (Wv.Flo.ofI_is (n : Int) (by omega)).num]
  simp [compare, compareOfLessAndEq]
theorem is_eq {s : Nat} {n : Nat} (h : Wv.Flo.Is s n) (hn : n < 2 ^ 53) : Fv.eqB s (Wv.Flo.ofI n) = true := by
  have h2 := Wv.Flo.ofI_is (n : Int) (by omega)
  have k1 := (key_zv s (Wv.Flo.ofI n)).2 (by rw [h.eq, h2.eq]; exact Int.le_refl _)
  have k2 := (key_zv (Wv.Flo.ofI n) s).2 (by rw [h.eq, h2.eq]; exact Int.le_refl _)
  unfold Fv.eqB
  show (Ieee.double.order s (Wv.Flo.ofI n) == some .eq) = true
  rw [Wv.Flo.order_key, h.num, h2.num]
  simp only [Bool.or_self, Bool.false_eq_true, if_false, compare, compareOfLessAndEq]
  rw [if_neg (by omega), if_pos (by omega)]
  rfl
theorem is_zero : Wv.Flo.Is 0 ((0 : Nat) : Int) := by
  have e : Wv.Flo.ofI ((0 : Nat) : Int) = 0 := by decide +kernel
  have := Wv.Flo.ofI_is ((0 : Nat) : Int) (by decide)
  rwa [e] at this
theorem addV_is (w : World) {s : Nat} {a b : Nat} (h : Wv.Flo.Is s a) (hab : a + b < 2 ^ 53) : Wv.Flo.Is (addV w s (Fv.canon (Wv.Flo.ofI b))) ((a + b : Nat) : Int) := by
  rw [Fv.canon_num (nan_ofI b (by omega))]
  obtain ⟨r, h1, h2⟩ := Wv.Flo.is_add h (Wv.Flo.ofI_is (b : Int) (by omega)) (by omega)
  unfold addV
  rw [h1]
  have : ((a + b : Nat) : Int) = (a : Int) + (b : Int) := by omega
  rw [this]
  exact h2
def cntS (f : Pt → List Lb) (l : List Pt) (K : List (List Lb)) : Nat := (K.map fun x => (memG f x l).length).sum
theorem cntS_s {f : Pt → List Lb} {l : List Pt} {K : List (List Lb)} {k : Nat} (h : k < K.length) : cntS f l (K.take (k + 1)) = cntS f l (K.take k) + (memG f K[k] l).length := by
  unfold cntS
  rw [List.take_succ_eq_append_getElem h, List.map_append, List.sum_append]
  simp
theorem cntS_perm {f : Pt → List Lb} {l : List Pt} {K M : List (List Lb)} (h : K.Perm M) : cntS f l K = cntS f l M := by
  unfold cntS; exact (h.map _).sum_nat
theorem cntS_le {f : Pt → List Lb} {l : List Pt} {K : List (List Lb)} (k : Nat) : cntS f l (K.take k) ≤ cntS f l K := by
  unfold cntS
  conv => rhs; rw [← List.take_append_drop k K]
  rw [List.map_append, List.sum_append]
  omega
theorem cntS_all (f : Pt → List Lb) (l : List Pt) : cntS f l (srtL (keysP f l)) = l.length := by
  rw [cntS_perm (srtL_perm _)]
  have := (grps_perm f l).length_eq
  unfold grpsP at this
  rw [List.flatMap_map, List.length_flatMap] at this
  exact this
/-- what the walk knows of the groups: their labels in order, the four answers -/
structure GrA (how : Int) (ns : List ByteArray) (l : List Pt) (K : List (List Lb)) (R2 R8 R4 T : List Pt) (q : Nat) : Prop where
  lk : K.length = q
  l2 : R2.length = q
  l8 : R8.length = q
  l4 : R4.length = q
  l6 : T.length = q
  qm : q ≤ 1000
  e2 : ∀ (k : Nat) (x : List Lb), K[k]? = some x → ∃ hk : k < R2.length, R2[k] = (x, Fv.canon (Wv.Flo.ofI ((memG (grpF how ns) x l).length : Nat)))
  e8 : ∀ (k : Nat) (x : List Lb), K[k]? = some x → ∃ hk : k < R8.length, R8[k] = (x, 4607182418800017408)
  e4 : ∀ (k : Nat) (x : List Lb), K[k]? = some x → ∃ hk : k < R4.length, R4[k] = (x, Fv.canon (oneV 4 ((memG (grpF how ns) x l).map (·.2))))
  xl : ∀ (k : Nat) (x : List Lb), K[k]? = some x → x.length ≤ 1000
  all : ∀ (k : Nat) (x : List Lb), K[k]? = some x → inG (grpF how ns) x (T.take q) = true
  nd : (T.map (grpF how ns)).Nodup
  eq : (∀ p ∈ l, Fv.nanB p.2 = false) → ∀ y ∈ T, Fv.eqB y.2 (Fv.canon (oneV 4 ((memG (grpF how ns) (grpF how ns y) l).map (·.2)))) = true
  sm : SmP T
  is0 : Wv.Flo.Is 0 ((cntS (grpF how ns) l (K.take 0) : Nat) : Int)
  isS : ∀ (k : Nat) (x : List Lb), K[k]? = some x → ∀ (W : World) (sv : Nat), Wv.Flo.Is sv ((cntS (grpF how ns) l (K.take k) : Nat) : Int) → Wv.Flo.Is (addV W sv (Fv.canon (Wv.Flo.ofI ((memG (grpF how ns) x l).length : Nat)))) ((cntS (grpF how ns) l (K.take (k + 1)) : Nat) : Int)
  isE : ∀ sv : Nat, Wv.Flo.Is sv ((cntS (grpF how ns) l (K.take q) : Nat) : Int) → Fv.eqB sv (Wv.Flo.ofI (l.length : Nat)) = true
theorem gra_of (how : Int) (ns : List ByteArray) {l : List Pt} (hs : SmP l) :
    GrA how ns l (srtL (keysP (grpF how ns) l)) ((srtL (keysP (grpF how ns) l)).map fun x => (x, Fv.canon (oneV 2 ((memG (grpF how ns) x l).map (·.2))))) ((srtL (keysP (grpF how ns) l)).map fun x => (x, Fv.canon (oneV 8 ((memG (grpF how ns) x l).map (·.2)))))
      ((srtL (keysP (grpF how ns) l)).map fun x => (x, Fv.canon (oneV 4 ((memG (grpF how ns) x l).map (·.2))))) (topL (grpF how ns) l) (srtL (keysP (grpF how ns) l)).length := by
  have hm : ∀ {k : Nat} {x : List Lb}, (srtL (keysP (grpF how ns) l))[k]? = some x → x ∈ keysP (grpF how ns) l := fun h => (srtL_perm _).mem_iff.1 (List.mem_of_getElem? h)
  have hkl := keys_len (grpF how ns) l
  have hl := hs.1
  have hL := srtL_len (keysP (grpF how ns) l)
  have hC : cntS (grpF how ns) l (srtL (keysP (grpF how ns) l)) ≤ 1000 := by rw [cntS_all]; exact hl
  have o2 : ∀ x, oneV 2 ((memG (grpF how ns) x l).map (·.2)) = Wv.Flo.ofI ((memG (grpF how ns) x l).length : Nat) := fun x => by
    unfold oneV
    rw [if_neg (by decide), if_pos rfl, List.length_map]
  have o8 : ∀ x, Fv.canon (oneV 8 ((memG (grpF how ns) x l).map (·.2))) = 4607182418800017408 := fun x => by
    unfold oneV
    rw [if_neg (by decide), if_neg (by decide), if_neg (by decide), if_neg (by decide), if_neg (by decide)]
    decide +kernel
  refine ⟨rfl, by simp, by simp, by simp, by rw [topL_len, hL], by omega, fun k x h => ?_, fun k x h => ?_, fun k x h => row_at rfl h, fun k x h => ?_, fun k x h => ?_, top_nodup _ _ _, fun hn y hy => top_eq hn hy, top_sm hs, is_zero, fun k x h W sv hi => ?_, fun sv hi => ?_⟩
  · rw [← o2 x]; exact row_at rfl h
  · rw [← o8 x]; exact row_at rfl h
  · obtain ⟨p, hp, rfl⟩ := mem_keys.1 (hm h)
    exact ((hs.2 p hp).group how ns).1
  · have := inG_all (topL_keys how ns l) (hm h)
    rwa [topL_len, ← hL] at this
  · obtain ⟨hk, e⟩ := List.getElem?_eq_some_iff.1 h
    have h1 := cntS_s (f := grpF how ns) (l := l) hk
    rw [e] at h1
    have h2 := cntS_le (f := grpF how ns) (l := l) (K := srtL (keysP (grpF how ns) l)) (k + 1)
    rw [h1]
    exact addV_is W hi (by omega)
  · rw [List.take_length, cntS_all] at hi
    exact is_eq hi (by omega)
end Go.Proofs.YtihiklmomhhdbaaGreatDoor.Pt
