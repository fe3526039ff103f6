/- A row of values laid behind another one. -/
import Derived.Test.YtoglkgagdilfjaaDoorWMath
import Derived.Laws.AppendOwnNone
namespace Go.Proofs.YtoglkgagdilfjaaDoor
open Go.RowKit
set_option maxRecDepth 100000

theorem rowF_get (x : Nat → Nat) (m j : Nat) (u : Value) (h : (rowF x m)[j]? = some u) : j < m ∧ u = .float .f64 (x j) := by
  have hj : j < m := by
    have := (List.getElem?_eq_some_iff.1 h).1
    simpa [rowF] using this
  refine ⟨hj, ?_⟩
  simp [rowF, List.getElem?_map, List.getElem?_range hj] at h
  exact h.symm
theorem wpList_append_fl {ops : Array Oper} {rest : List Oper} {o : Oper} {a : Act} {Q : Exit → Act → World → Prop} {w : World} (hgd : o.guard = none) (s x : Operand)
    (ho : o.op = .call { callee := .builtin .append, args := #[s, x], argTypes := #[24, 24] })
    (base : Nat) (v : Value) (n : Nat) (xs : List Value) (hs : a.eval s = v) (hown : w.ownsRow base 28 1 v n xs)
    (A : Option Addr) (m c : Nat) (fy : Nat → Nat) (hx : a.eval x = .slice A m c) (hA : A = none → m = 0 ∧ c = 0) (hf : FlsAt w A m fy) (hb : n + m ≤ 1000) (hbase : base ≤ w.heap.size)
    (h : ∀ v' w', w'.ownsRow base 28 1 v' (n + m) (xs ++ rowF fy m) → w.grownBy w' v.ownBlock → wpList Tryd.prog ops Q rest (a.put o.dst v') w') : wpList Tryd.prog ops Q (o :: rest) a w := by
  obtain ⟨i0, hi, hz0, hz1, hz2⟩ := info_parts info_float
  cases A with
  | none =>
    obtain ⟨rfl, rfl⟩ := hA rfl
    refine wpList_append_own_none hgd s x 24 ho base 28 i0 1 Tryd.underlying24 hi v n xs hs hown hx (h v w ?_ ⟨rfl, rfl, rfl, Nat.le_refl _, fun _ _ _ => rfl⟩)
    simpa [rowF] using hown
  | some ad =>
    refine wpList_append_own _ hgd s x 24 ho base 28 i0 (.float .f64 0) 1 8 Tryd.underlying24 hi hz0 hz1 hz2 rfl (by decide) v n xs hs hown ad m c (rowF fy m) hx (by simp [rowF]) (fun j u hu => ?_) (fun u hu => ?_) (by unfold maxLen; omega) (by omega) hbase (fun v' w' h1 h2 _ => h v' w' h1 h2)
    · obtain ⟨hj, rfl⟩ := rowF_get _ _ _ _ hu
      obtain ⟨b, off, e, hc⟩ := hf (by omega)
      cases e
      have hadd : (⟨b, off, none⟩ : Addr).add j = ⟨b, off + j, none⟩ := by unfold Addr.add; split <;> simp_all
      rw [hadd]; exact hc j hj
    · simp only [rowF, List.mem_map, List.mem_range] at hu
      obtain ⟨j, -, rfl⟩ := hu
      rfl
theorem rowF_cat (n m : Nat) (x y : Nat → Nat) : rowF (cat n x y) (n + m) = rowF x n ++ rowF y m := by
  induction m with
  | zero =>
    simp only [Nat.add_zero, rowF, List.range_zero, List.map_nil, List.append_nil]
    refine List.map_congr_left fun j hj => ?_
    have := List.mem_range.1 hj
    unfold cat; rw [if_pos this]
  | succ m ih =>
    rw [show n + (m + 1) = (n + m) + 1 from rfl, rowF_succ, ih, rowF_succ, List.append_assoc]
    congr 3
    unfold cat
    rw [if_neg (by omega)]; congr 2; omega
/-- a row of none, of the call's own -/
theorem own_empty {w W : World} (h : Gr w W) : (W.alloc (.cells #[] 28)).ownsRow w.heap.size 28 1 (.slice (some ⟨W.heap.size, 0, none⟩) 0 0) 0 [] :=
  ⟨rfl, .inr ⟨W.heap.size, 0, #[], rfl, h.size, by unfold World.alloc; simp only [Array.getElem?_push_size], Nat.le_refl _, Nat.zero_le _, rfl, rfl⟩⟩
end Go.Proofs.YtoglkgagdilfjaaDoor
