/- What window's functions are, as functions of rows of numbers; rows of samples that rise. -/
import Derived.Test.YtjjfkjpkbpefpaaDoorWSum
import Derived.Test.YtjjfkjpkbpefpaaDoorVDiv
namespace Go.Proofs.YtjjfkjpkbpefpaaDoor.Vn
open Go.RowKit
set_option maxRecDepth 100000

/-! ### quotients -/
theorem div_nan {b : Nat} (v : Nat) (h : nanB b = true) : Ieee.double.div b v = none := by
  obtain ⟨s, f, e⟩ := nan_read h
  unfold Ieee.Format.div; rw [e]; rfl
theorem div_nan_r {b : Nat} (v : Nat) (h : nanB b = true) : Ieee.double.div v b = none := by
  obtain ⟨s, f, e⟩ := nan_read h
  unfold Ieee.Format.div; rw [e]; cases Ieee.double.read v <;> rfl
def divV (w : World) (a b : Nat) : Nat := valO w a b (Ieee.double.div a b)
def divN (a b : Nat) : Nat := askO (Ieee.double.div a b)
@[go_sem] theorem run_divF {P : Program} (t : TypeId) (a b : Nat) (w : World) : (binOp .quo t (.float .f64 a) (.float .f64 b)).run P w = .ok (.float .f64 (divV w a b)) (w.drewN (divN a b)) := by
  unfold divV divN
  cases h : Ieee.double.div a b with
  | none =>
    have h' : FloatKind.f64.format.div a b = none := h
    simp [binOp, Op.floatArith, h', valO, askO, nanAt, choose, Sem.run, Question.forced]; rfl
  | some r => exact run_float_arith w .quo t .f64 a b r h
def divC (a b : Nat) : Nat := canonO (Ieee.double.div a b)
theorem divC_l {a c : Nat} (b : Nat) (h : canon a = c) : divC a b = divC c b := by
  unfold divC
  cases hb : nanB a
  · rw [← h, canon_num hb]
  · rw [div_nan b hb, ← h, canon_nan hb, div_nan b kNaN_nan]
theorem divC_r {b c : Nat} (a : Nat) (h : canon b = c) : divC a b = divC a c := by
  unfold divC
  cases hb : nanB b
  · rw [← h, canon_num hb]
  · rw [div_nan_r a hb, ← h, canon_nan hb, div_nan_r a kNaN_nan]
theorem divV_c (w : World) (a b : Nat) : canon (divV w a b) = divC a b := valO_canon ..
theorem divC_one (a : Nat) (h : a < 2 ^ 64) : divC a Flo.one = canon a := by
  cases hn : nanB a
  · unfold divC
    rw [Flo.div_one a h (by rw [← nanB_key]; exact hn)]; rfl
  · unfold divC
    rw [div_nan _ hn, canon_nan hn]; rfl
theorem valO_lt (w : World) (a b : Nat) {o : Option Nat} (h : ∀ r, o = some r → r < 2 ^ 64) : valO w a b o < 2 ^ 64 := by
  cases o with
  | none => exact (nanAt_facts w a b).2
  | some r => exact h r rfl
theorem addV_lt (w : World) (a b : Nat) : addV w a b < 2 ^ 64 := valO_lt w a b fun _ => Flo.add_lt
theorem subV_lt (w : World) (a b : Nat) : subV w a b < 2 ^ 64 := valO_lt w a b fun _ => Flo.sub_lt
theorem divV_lt (w : World) (a b : Nat) : divV w a b < 2 ^ 64 := valO_lt w a b fun _ => Flo.div_lt
theorem canonO_lt {o : Option Nat} (h : ∀ r, o = some r → r < 2 ^ 64) : canonO o < 2 ^ 64 := by
  cases o with
  | none => decide
  | some r => exact canon_lt _ (h r rfl)
theorem addC_lt (a b : Nat) : addC a b < 2 ^ 64 := canonO_lt fun _ => Flo.add_lt
theorem subC_lt (a b : Nat) : subC a b < 2 ^ 64 := canonO_lt fun _ => Flo.sub_lt
theorem mulC_lt (a b : Nat) : mulC a b < 2 ^ 64 := canonO_lt fun _ => Flo.mul_lt
theorem divC_lt (a b : Nat) : divC a b < 2 ^ 64 := canonO_lt fun _ => Flo.div_lt
theorem addC_cn (a b : Nat) : canon (addC a b) = addC a b := canonO_idem _
theorem subC_cn (a b : Nat) : canon (subC a b) = subC a b := canonO_idem _
theorem divC_cn (a b : Nat) : canon (divC a b) = divC a b := canonO_idem _
/-- whole numbers as doubles are numbers -/
theorem ofI_num (n : Int) (h : n.natAbs < 2 ^ 53) : nanB (Flo.ofI n) = false := by rw [nanB_key]; exact (Flo.ofI_is n h).num
theorem ofI_cn (n : Int) (h : n.natAbs < 2 ^ 53) : canon (Flo.ofI n) = Flo.ofI n := canon_num (ofI_num n h)
@[go_sem] theorem run_convIF (t : TypeId) (k : IntKind) (n : Int) (w : World) (ht : Tryd.prog.underlying t = some (.int k)) : (convert t 26 (.int k n)).run Tryd.prog w = .ok (.float .f64 (Flo.ofI n)) w := by
  simp [convert, Sem.run_bind, run_underlying ht, run_underlying Tryd.underlying26, Conv.intToFloat]
  rfl

/-! ### rows of numbers -/
/-- the sum from the left -/
def sumL : List Nat → Nat
  | [] => 0
  | x :: r => r.foldl addC (canon x)
/-- the less (the greater) of two, x first; a NaN gives way -/
def extS (most : Bool) (x y : Nat) : Nat := if nanB x || (if most then gtB y x else ltB y x) then y else x
def extL (most : Bool) : List Nat → Nat
  | [] => 0
  | x :: r => r.foldl (extS most) x
/-- each behind the first, with the one ahead -/
def prsL (v : List Nat) : List (Nat × Nat) := (v.drop 1).zip v
theorem prsL_len (v : List Nat) : (prsL v).length = v.length - 1 := by unfold prsL; simp
theorem prsL_get {v : List Nat} {k : Nat} {a y : Nat} (ha : v[k]? = some a) (hy : v[k + 1]? = some y) : (prsL v)[k]? = some (y, a) := by
  unfold prsL
  rw [List.getElem?_zip_eq_some]
  exact ⟨by rw [List.getElem?_drop, Nat.add_comm]; exact hy, ha⟩
theorem take_s {α : Type} {l : List α} {k : Nat} {x : α} (h : l[k]? = some x) : l.take (k + 1) = l.take k ++ [x] := by
  obtain ⟨hk, rfl⟩ := List.getElem?_eq_some_iff.1 h
  exact List.take_succ_eq_append_getElem hk
/-- how much it rose -/
def gain (p : Nat × Nat) : Nat := if ltB p.1 p.2 then canon p.1 else subC p.1 p.2
def incL (v : List Nat) : Nat := ((prsL v).map gain).foldl addC 0
def cntL (p : Nat → Nat → Bool) (v : List Nat) : Nat := (prsL v).countP fun q => p q.1 q.2
def unlike (y a : Nat) : Bool := !sameB y a
def seqOf (v : List Nat) (i : Nat) : Nat := v.getD i 0
def k1000 : Nat := 4652007308841189376
/-- how many values it needs -/
def leastN (fn : Nat) : Nat := if fn = 8 ∨ fn = 9 ∨ fn = 10 then 2 else 1
/-- a function's value of a row that is long enough; len: the stretch's length -/
def valF (fn : Nat) (v : List Nat) (len : Nat) : Nat := match fn with
  | 1 => Flo.ofI v.length
  | 2 => sumL v
  | 3 => divC (sumL v) (Flo.ofI v.length)
  | 4 => canon (extL false v)
  | 5 => canon (extL true v)
  | 6 => canon (v.getLastD 0)
  | 7 => canon (v.headD 0)
  | 8 => incL v
  | 9 => divC (incL v) (divC len k1000)
  | 10 => subC (v.getLastD 0) (v.headD 0)
  | 11 => Flo.ofI (cntL unlike v)
  | 12 => Flo.ofI (cntL ltB v)
  | 13 => magV (sumF (seqOf v) v.length).1 (sumF (seqOf v) v.length).2
  | _ => Flo.ofI (quV (sumF (seqOf v) v.length).1 (sumF (seqOf v) v.length).2)
/-- what a function tells -/
def outP (fn : Nat) (v : List Nat) (len : Nat) : Option Nat := if v.length < leastN fn then none else some (valF fn v len)
def isFn (fn : Int) : Bool := decide (1 ≤ fn) && decide (fn ≤ 14)

/-! ### samples -/
/-- a sample: its time and its value's bits -/
abbrev Sm := Int × Nat
def vals (l : List Sm) : List Nat := l.map (·.2)
/-- times do not fall -/
def AscT (l : List Sm) : Prop := l.Pairwise (fun x y => x.1 ≤ y.1)
/-- what a stretch holds -/
def strP (f t : Int) (q : Sm) : Bool := decide (f < q.1) && decide (q.1 ≤ t)
def strL (l : List Sm) (f t : Int) : List Sm := l.filter (strP f t)
theorem strL_len (l : List Sm) (f t : Int) : (strL l f t).length ≤ l.length := List.length_filter_le _ _
theorem strL_s {l : List Sm} {k : Nat} {q : Sm} {f t : Int} (h : l[k]? = some q) : strL (l.take (k + 1)) f t = strL (l.take k) f t ++ if strP f t q then [q] else [] := by
  unfold strL
  rw [take_s h, List.filter_append]
  cases h2 : strP f t q <;> simp [h2]
/-- Fn -/
def fnP (fn : Int) (l : List Sm) (f t : Int) : Option Nat := if isFn fn && decide (f < t) then outP fn.toNat (vals (strL l f t)) (Flo.ofI (t - f)) else none
/-- how many samples have times at most t -/
def cntT (l : List Sm) (t : Int) : Nat := l.countP fun q => decide (q.1 ≤ t)
theorem cntT_le (l : List Sm) (t : Int) : cntT l t ≤ l.length := List.countP_le_length
theorem cnt_range (l : List Sm) (t : Int) : (List.range l.length).countP (fun i => !decide (t < ((l[i]?).getD (0, 0)).1)) = cntT l t := by
  unfold cntT
  have e : l = (List.range l.length).map fun i => (l[i]?).getD (0, 0) := by
    apply List.ext_getElem
    · simp
    · intro i h1 h2; simp [List.getElem?_eq_getElem h1]
  conv => rhs; rw [e, List.countP_map]
  refine congrArg (fun f => List.countP f (List.range l.length)) ?_
  funext i
  simp only [Function.comp]
  rw [Bool.eq_iff_iff]
  simp
def cutL (l : List Sm) (f t : Int) : List Sm := (l.take (cntT l t)).drop (cntT l f)
theorem cutL_len (l : List Sm) (f t : Int) : (cutL l f t).length = cntT l t - cntT l f := by
  have := cntT_le l t
  unfold cutL
  simp
  omega
theorem AscT.tail {x : Sm} {r : List Sm} (h : AscT (x :: r)) : AscT r ∧ ∀ y ∈ r, x.1 ≤ y.1 := ⟨(List.pairwise_cons.1 h).2, (List.pairwise_cons.1 h).1⟩
theorem AscT.filt {l : List Sm} (h : AscT l) (p : Sm → Bool) : AscT (l.filter p) := List.Pairwise.filter p h
theorem none_upto {r : List Sm} {t : Int} (h : ∀ y ∈ r, t < y.1) : r.countP (fun q => decide (q.1 ≤ t)) = 0 ∧ r.filter (fun q => decide (q.1 ≤ t)) = [] ∧ r.filter (fun q => decide (t < q.1)) = r := by
  refine ⟨List.countP_eq_zero.2 fun y hy => ?_, List.filter_eq_nil_iff.2 fun y hy => ?_, List.filter_eq_self.2 fun y hy => ?_⟩
  · have := h y hy; simp; omega
  · have := h y hy; simp; omega
  · have := h y hy; simp; omega
theorem asc_take : ∀ {l : List Sm}, AscT l → ∀ t : Int, l.take (cntT l t) = l.filter fun q => decide (q.1 ≤ t)
  | [], _, _ => rfl
  | x :: r, h, t => by
    obtain ⟨h1, h2⟩ := h.tail
    unfold cntT
    by_cases hx : x.1 ≤ t
    · have ih := asc_take h1 t
      unfold cntT at ih
      rw [List.countP_cons_of_pos (by simpa using hx), List.filter_cons_of_pos (by simpa using hx), List.take_succ_cons, ih]
    · have hn : ∀ y ∈ x :: r, t < y.1 := fun y hy => by
        rcases List.mem_cons.1 hy with e | e
        · rw [e]; omega
        · have := h2 y e; omega
      obtain ⟨e1, e2, -⟩ := none_upto hn
      rw [e1, e2]; rfl
theorem asc_drop : ∀ {l : List Sm}, AscT l → ∀ f : Int, l.drop (cntT l f) = l.filter fun q => decide (f < q.1)
  | [], _, _ => rfl
  | x :: r, h, f => by
    obtain ⟨h1, h2⟩ := h.tail
    unfold cntT
    by_cases hx : x.1 ≤ f
    · have ih := asc_drop h1 f
      unfold cntT at ih
      rw [List.countP_cons_of_pos (by simpa using hx), List.filter_cons_of_neg (by simp; omega), List.drop_succ_cons, ih]
    · have hn : ∀ y ∈ x :: r, f < y.1 := fun y hy => by
        rcases List.mem_cons.1 hy with e | e
        · rw [e]; omega
        · have := h2 y e; omega
      obtain ⟨e1, -, e3⟩ := none_upto hn
      rw [e1, e3]; rfl
/-- a stretch of rows that rise -/
theorem asc_cut {l : List Sm} (h : AscT l) (f t : Int) : cutL l f t = strL l f t := by
  unfold cutL strL strP
  rw [asc_take h]
  by_cases hft : f ≤ t
  · have e : cntT l f = cntT (l.filter fun q => decide (q.1 ≤ t)) f := by
      unfold cntT
      rw [List.countP_filter]
      congr 1
      funext q
      by_cases hq : q.1 ≤ f
      · have : q.1 ≤ t := by omega
        simp [hq, this]
      · simp [hq]
    rw [e, asc_drop (h.filt _), List.filter_filter]
  · have hle : (l.filter fun q => decide (q.1 ≤ t)).length ≤ cntT l f := by
      unfold cntT
      rw [← List.countP_eq_length_filter]
      refine List.countP_mono_left fun q _ hq => ?_
      simp at hq ⊢; omega
    rw [List.drop_eq_nil_of_le hle, eq_comm, List.filter_eq_nil_iff]
    intro q _
    simp; omega
/-! ### sums step by step -/
theorem foldl_s {α β : Type} (f : β → α → β) (b : β) {l : List α} {k : Nat} {x : α} (h : l[k]? = some x) : (l.take (k + 1)).foldl f b = f ((l.take k).foldl f b) x := by
  rw [take_s h, List.foldl_append]; rfl
theorem foldl_canon (a : Nat) (l : List Nat) : (l.map canon).foldl addC a = l.foldl addC a := by
  induction l generalizing a with
  | nil => rfl
  | cons x r ih => rw [List.map_cons, List.foldl_cons, List.foldl_cons, ← addC_r a (rfl : canon x = canon x), ih]
theorem foldl_cn (a : Nat) (l : List Nat) (h : canon a = a) : canon (l.foldl addC a) = l.foldl addC a := by
  induction l generalizing a with
  | nil => exact h
  | cons x r ih => exact ih _ (addC_cn _ _)
theorem sumL_cn (l : List Nat) : canon (sumL l) = sumL l := by
  cases l with
  | nil => exact canon_0
  | cons x r => exact foldl_cn _ _ (canon_idem _)
theorem foldl_lt (a : Nat) (l : List Nat) (h : a < 2 ^ 64) : l.foldl addC a < 2 ^ 64 := by
  induction l generalizing a with
  | nil => exact h
  | cons x r ih => exact ih _ (addC_lt _ _)
theorem incL_cn (v : List Nat) : canon (incL v) = incL v := foldl_cn _ _ canon_0
theorem incL_lt (v : List Nat) : incL v < 2 ^ 64 := foldl_lt _ _ (by decide)
theorem extL_mem (m : Bool) : ∀ (r : List Nat) (x : Nat), r.foldl (extS m) x = x ∨ r.foldl (extS m) x ∈ r
  | [], x => .inl rfl
  | y :: r, x => by
    rw [List.foldl_cons]
    have hxy : extS m x y = y ∨ extS m x y = x := by
      unfold extS
      generalize (nanB x || if m = true then gtB y x else ltB y x) = c
      cases c <;> simp
    rcases extL_mem m r (extS m x y) with h | h
    · rw [h]
      rcases hxy with e | e
      · rw [e]; exact .inr (List.mem_cons_self ..)
      · exact .inl e
    · exact .inr (List.mem_cons_of_mem _ h)
end Go.Proofs.YtjjfkjpkbpefpaaDoor.Vn
