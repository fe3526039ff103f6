/- slices.Backward over a pattern's parts. -/
import Derived.RangeFuncNested
import Derived.RangeFuncBound
import Derived.RangeFuncCalls
import Derived.RangeFuncLeaves
import Derived.Shelf.Abstract
import Derived.Shelf.RegionOpen
import Derived.OwnWalkIn
import Derived.TacticsInMore
import Derived.LoopNIn
import Derived.LoopIn
import Derived.Test.YtnlfndhgdeapeaaNode
namespace Go.Proofs.Ytnlfndhgdeapeaa
open Go.RowKit
set_option maxRecDepth 100000
set_option maxHeartbeats 4000000
attribute [local go_sem] Oper.semAt_some

/-- the places of m things, the last one first -/
def revs (m : Nat) : List (Fin m) := (List.finRange m).reverse
theorem revs_len (m : Nat) : (revs m).length = m := by simp [revs]
theorem revs_get (m j : Nat) (h : j < m) : (revs m)[j]'(by rw [revs_len]; exact h) = ⟨m - 1 - j, Nat.lt_of_le_of_lt (Nat.sub_le _ _) (Nat.sub_lt (Nat.zero_lt_of_lt h) Nat.zero_lt_one)⟩ := by
  simp only [revs, List.getElem_reverse, List.getElem_finRange, List.length_finRange]
  rfl
theorem revs_step (m j : Nat) (h : j < m) : (revs m).take (j + 1) = (revs m).take j ++ [⟨m - 1 - j, by omega⟩] := by
  rw [List.take_succ_eq_append_getElem (by rw [revs_len]; exact h), revs_get m j h]
theorem revs_all (m : Nat) : (revs m).take m = revs m := by
  rw [List.take_of_length_le (by rw [revs_len]; exact Nat.le_refl _)]
/-- two blocks stay -/
def Two (a b : Nat) (W W' : World) : Prop := W'.heap[a]? = W.heap[a]? ∧ W'.heap[b]? = W.heap[b]?
theorem Two.trans {a b : Nat} {W W' W'' : World} (h : Two a b W W') (k : Two a b W' W'') : Two a b W W'' := ⟨k.1.trans h.1, k.2.trans h.2⟩
/-- a row's parts -/
def PartsAt (W : World) (A : Option Addr) (pb m : Nat) (val : Nat → Fin 6 → Value) : Prop := 0 < m → A = some ⟨pb, 0, none⟩ ∧ ∀ j, j < m → sixAt W pb j (val j)
theorem back1_in (F : Fence) (n : Nat) (hf : F.fn 64) (hro : F.round = none) (hn : 1 ≤ n) (l Bs pb m cap : Nat) (A : Option Addr) (val : Nat → Fin 6 → Value) (hm : m ≤ 1000000000000)
    (J Jx : List (Fin m) → World → Prop)
    (hY : ∀ pre x W, J pre W → pre.length < m → YieldAt F (n - 1) Try.prog l #[.int .i64 (x.val : Int), aggOf (val x.val)] W fun e W' =>
      (e = .returned (.bool true) ∧ J (pre ++ [x]) W' ∧ Two Bs pb W W') ∨ (e = .returned (.bool false) ∧ Jx (pre ++ [x]) W'))
    (W : World) (hBs : W.cell? ⟨Bs, 0, none⟩ = some (.slice A m cap)) (hc : PartsAt W A pb m val) (h0 : J [] W) :
    CallsIn F n Try.prog 64 #[.func (.yield l) #[] #[], .pointer (some ⟨Bs, 0, none⟩)] W fun e W' => (∃ v, e = .returned v) ∧
      ((∃ ys, ys = revs m ∧ J ys W') ∨ (∃ pre, (∃ k, k ≤ m ∧ pre = (revs m).take k) ∧ Jx pre W')) := by
  refine callsIn_of_wp Try.func64 rfl hf ?_ hro
  simp only [Try.ntmps64, List.size_toArray, List.length_cons, List.length_nil, Nat.reduceAdd, Nat.reduceSub, Array.replicate_succ, Array.replicate_zero, List.push_toArray, List.append_toArray, List.nil_append, List.cons_append]
  gi_wp2
  gi_loopw [3] (fun i wr => ∃ j : Nat, j ≤ m ∧ i = .int .i64 ((m : Int) - 1 - j) ∧ J ((revs m).take j) wr ∧ Two Bs pb W wr)
    (fun i _ => (intOf i + 1).toNat)
  case atStart => exact ⟨0, Nat.zero_le _, by simp, h0, rfl, rfl⟩
  case round =>
    obtain ⟨j, hj, rfl, hJs, hnx⟩ := hrel
    have hBr : wr.cell? ⟨Bs, 0, none⟩ = some (.slice A m cap) := (World.cell?_of_block (a := ⟨Bs, 0, none⟩) hnx.1).trans hBs
    by_cases hlt : j < m
    · obtain ⟨rfl, hcs⟩ := hc (by omega)
      have hx := hcs (m - 1 - j) (by omega)
      have key : ∀ i : Fin 6, wr.cell? ⟨pb, (m - 1 - j) * 6 + i.val, none⟩ = some (val (m - 1 - j) i) := fun i => (World.cell?_of_block (a := ⟨pb, (m - 1 - j) * 6 + i.val, none⟩) hnx.2).trans (hx i)
      obtain ⟨fn, tmps, assign, body, hy, hR⟩ := hY _ ⟨m - 1 - j, by omega⟩ wr hJs (by rw [List.length_take, revs_len]; omega)
      obtain ⟨q, hq⟩ : ∃ q, m - 1 - j = q := ⟨_, rfl⟩
      have hqi : (m : Int) - 1 - j = (q : Int) := by omega
      have hqm : q < m := by omega
      dsimp only at hy
      rw [hq] at key hy
      unfold aggOf at hy
      have k0 : wr.cell? ⟨pb, q * 6, none⟩ = some (val q 0) := key 0
      have k1 : wr.cell? ⟨pb, q * 6 + 1, none⟩ = some (val q 1) := key 1
      have k2 : wr.cell? ⟨pb, q * 6 + 2, none⟩ = some (val q 2) := key 2
      have k3 : wr.cell? ⟨pb, q * 6 + 3, none⟩ = some (val q 3) := key 3
      have k4 : wr.cell? ⟨pb, q * 6 + 4, none⟩ = some (val q 4) := key 4
      have k5 : wr.cell? ⟨pb, q * 6 + 5, none⟩ = some (val q 5) := key 5
      clear key hx
      rw [hqi]
      gi_wp2
      refine hR.mono ?_
      rintro e W3 (⟨rfl, hJ3, hk3⟩ | ⟨rfl, hJx3⟩)
      · gi_wp2
        go_roundw
        case rel => exact ⟨j + 1, by omega, by first | (congr 1; done) | (congr 1; omega), by rw [revs_step m j hlt]; exact hJ3, hnx.trans hk3⟩
        case measure => simp [intOf] <;> omega
      · gi_wp2
        refine bodyPost_ret (results_none rfl _ _ _) rfl ?_
        exact ⟨⟨_, rfl⟩, .inr ⟨_, ⟨j + 1, by omega, (revs_step m j hlt).symm⟩, hJx3⟩⟩
    · obtain rfl : j = m := by omega
      have hz : (j : Int) - 1 - j = -1 := by omega
      rw [hz]
      gi_wp2
      go_end0
      exact ⟨⟨_, rfl⟩, .inl ⟨_, rfl, by rw [revs_all] at hJs; exact hJs⟩⟩
theorem backward_in (F : Fence) (n : Nat) (hf : F.fn 55) (hro : F.round = none) (A : Option Addr) (len cap : Nat) (w : World) :
    CallsIn F n Try.prog 55 #[.slice A len cap] w fun e w' => e = .returned (.func (.func 64) #[] #[.pointer (some ⟨w.heap.size, 0, none⟩)]) ∧ w' = w.alloc (.cells #[.slice A len cap] 55) := by
  refine callsIn_of_wp Try.func55 rfl hf ?_ hro
  simp only [Try.ntmps55, List.size_toArray, List.length_cons, List.length_nil, Nat.reduceAdd, Nat.reduceSub, Array.replicate_succ, Array.replicate_zero, List.push_toArray, List.append_toArray, List.nil_append, List.cons_append]
  gi_wp2
  go_ret
  exact ⟨rfl, rfl⟩
theorem backward_stops (F : Fence) (n : Nat) (hf : F.fn 64) (hro : F.round = none) (hn : 1 ≤ n) (Bs pb m cap : Nat) (A : Option Addr) (val : Nat → Fin 6 → Value) (hm : m ≤ 1000000000000) (w : World) (hBs : Bs < w.heap.size)
    (hc : w.cell? ⟨Bs, 0, none⟩ = some (.slice A m cap)) (hP : PartsAt w A pb m val) :
    SeqStopsK F n Try.prog 64 #[.pointer (some ⟨Bs, 0, none⟩)] (fun x : Fin m => #[.int .i64 (x.val : Int), aggOf (val x.val)]) (Two Bs pb) (fun ys => ys = revs m) (fun pre => ∃ k, k ≤ m ∧ pre = (revs m).take k) m w := fun l J Jx W hW _ _ hY h0 => by
  have hc' := (hW.cell (p := ⟨Bs, 0, none⟩) hBs).trans hc
  have hP' : PartsAt W A pb m val := fun h0 => by
    obtain ⟨e, hs⟩ := hP h0
    exact ⟨e, fun j hj i => (hW.cell (p := ⟨pb, j * 6 + i.val, none⟩) (World.block_lt_of_cell? w _ (hs j hj i))).trans (hs j hj i)⟩
  exact back1_in F n hf hro hn l Bs pb m cap A val hm J Jx hY W hc' hP' h0
end Go.Proofs.Ytnlfndhgdeapeaa
