/- Rows of ints of the call's own. -/
import Derived.Test.YtnlfndhgdeapeaaBytes
import Derived.Test.YtnlfndhgdeapeaaSt
namespace Go.Proofs.Ytnlfndhgdeapeaa
open Go.RowKit
set_option maxRecDepth 100000
set_option maxHeartbeats 2000000

def intC (l : List Nat) : List Value := l.map fun x => .int .i64 (x : Nat)
def RowI (W : World) (B : Nat) (v : Value) (l : List Nat) : Prop := W.ownsRow B 3 1 v l.length (intC l)
theorem intC_app (l m : List Nat) : intC (l ++ m) = intC l ++ intC m := by simp [intC]
theorem intC_one (l : List Nat) : ∀ u ∈ intC l, u.oneCell' = true := by
  intro u hu
  simp only [intC, List.mem_map] at hu
  obtain ⟨x, -, rfl⟩ := hu
  rfl
theorem int_info : (Try.prog.info? 3).map (fun i => (i.zero, i.size, i.bytes)) = some (some (.int .i64 0), 1, 8) := by kernel_rfl
theorem RowI.nil (W : World) (B : Nat) : RowI W B (.slice none 0 0) [] := World.ownsRow_nil _ _ _ _
theorem RowI.form {W : World} {B : Nat} {v : Value} {l : List Nat} (h : RowI W B v l) : ∃ (A : Option Addr) (c : Nat), v = .slice A l.length c := by
  rcases h.2 with ⟨e, e2⟩ | ⟨g, cap, cur, e, -⟩
  · exact ⟨none, 0, by rw [e, e2]⟩
  · exact ⟨_, _, e⟩
theorem RowI.lt {W : World} {B : Nat} {v : Value} {l : List Nat} (h : RowI W B v l) : ∀ k, v.ownBlock = some k → B ≤ k ∧ k < W.heap.size := World.ownsRow.lt h
theorem RowI.keep {W W' : World} {B : Nat} {v : Value} {l : List Nat} (h : RowI W B v l) (g : ∀ c, v.ownBlock = some c → W'.heap[c]? = W.heap[c]?) : RowI W' B v l := by
  refine ⟨h.1, ?_⟩
  rcases h.2 with e | ⟨gg, cap, cur, e1, e2, e3, e4⟩
  · exact .inl e
  · exact .inr ⟨gg, cap, cur, e1, e2, by rw [g gg (by rw [e1]; rfl)]; exact e3, e4⟩
/-- the first n of a row, in the same block -/
theorem RowI.take {W : World} {B : Nat} {A : Option Addr} {m c : Nat} {l : List Nat} (h : RowI W B (.slice A m c) l) (n : Nat) (hn : n ≤ l.length) (h0 : 0 < l.length) : RowI W B (.slice A n c) (l.take n) := by
  rcases h.2 with ⟨e, e2⟩ | ⟨g, cap, cur, e, e2, e3, e4, e5, e6, e7⟩
  · omega
  · obtain ⟨rfl, rfl, rfl⟩ : A = some ⟨g, 0, none⟩ ∧ m = l.length ∧ c = cap := by simpa using e
    refine ⟨by simp [intC], .inr ⟨g, c, cur, by rw [List.length_take, Nat.min_eq_left hn], e2, e3, by rw [List.length_take]; omega, e5, e6, ?_⟩⟩
    have : intC (l.take n) = (intC l).take n := by simp [intC, List.map_take]
    rw [this, ← e7, List.take_take, List.length_take]
    congr 1
    omega
/-- none, in the same block -/
theorem RowI.none {W : World} {B : Nat} {A : Option Addr} {m c : Nat} {l : List Nat} (h : RowI W B (.slice A m c) l) : RowI W B (.slice A 0 c) [] := by
  rcases h.2 with ⟨e, e2⟩ | ⟨g, cap, cur, e, e2, e3, e4, e5, e6, e7⟩
  · obtain ⟨rfl, rfl, rfl⟩ : A = Option.none ∧ m = 0 ∧ c = 0 := by simpa using e
    exact RowI.nil W B
  · obtain ⟨rfl, rfl, rfl⟩ : A = some ⟨g, 0, Option.none⟩ ∧ m = l.length ∧ c = cap := by simpa using e
    exact ⟨rfl, .inr ⟨g, c, cur, rfl, e2, e3, Nat.zero_le _, e5, e6, rfl⟩⟩
theorem RowI.cells {W : World} {B : Nat} {A : Option Addr} {m c : Nat} {l : List Nat} (h : RowI W B (.slice A m c) l) {i : Nat} (hi : i < l.length) : ∃ g, A = some ⟨g, 0, Option.none⟩ ∧ W.cell? ⟨g, i, Option.none⟩ = some (.int .i64 l[i]) := by
  rcases h.2 with ⟨e, e2⟩ | ⟨g, cap, cur, e, e2, e3, e4, e5, e6, e7⟩
  · omega
  · obtain ⟨rfl, rfl, rfl⟩ : A = some ⟨g, 0, Option.none⟩ ∧ m = l.length ∧ c = cap := by simpa using e
    refine ⟨g, rfl, (cell_of_row W g i cur _ (0, 0) e3).trans ?_⟩
    have h1 : (intC l)[i]? = some (.int .i64 l[i]) := by simp [intC, hi]
    rw [← e7, List.getElem?_take_of_lt (by omega)] at h1
    simpa using h1
theorem run_appI {W : World} {B : Nat} {v : Value} {l : List Nat} {g c x : Nat} (h : RowI W B v l) (hx : W.cell? ⟨g, 0, none⟩ = some (.int .i64 x)) (hl : l.length ≤ 1000000000000) (hB : B ≤ W.heap.size) :
    ∃ v' W', (Builtin.append_ #[73, 73] 73 #[v, .slice (some ⟨g, 0, none⟩) 1 c]).run Try.prog W = .ok v' W' ∧ RowI W' B v' (l ++ [x]) ∧ W.grownBy W' v.ownBlock ∧ (v'.ownBlock = v.ownBlock ∨ v'.ownBlock = some W.heap.size) := by
  obtain ⟨i0, hi, hz0, hz1, hz2⟩ := info_parts int_info
  have hadd : ∀ j, (⟨g, 0, none⟩ : Addr).add j = ⟨g, j, none⟩ := fun j => by unfold Addr.add; split <;> simp_all
  obtain ⟨v', w', hr, h2, h3, _, h5⟩ := run_append_own_at (P := Try.prog) W B 73 73 3 i0 (.int .i64 0) 1 8 Try.underlying73 hi hz0 hz1 hz2 rfl (by omega) v l.length _ h ⟨g, 0, none⟩ 1 c (intC [x]) (by simp [intC]) (fun j u hu => by
    rw [hadd]
    have hj : j < 1 := by have := (List.getElem?_eq_some_iff.1 hu).1; simpa [intC] using this
    obtain rfl : j = 0 := by omega
    have : u = .int .i64 x := by simpa [intC] using hu.symm
    rw [this]; exact hx) (intC_one _) (by unfold maxLen; omega) (by omega) hB
  refine ⟨v', w', hr, ?_, h3, h5⟩
  unfold RowI
  rw [intC_app, List.length_append]
  exact h2
section
variable {P : Program} {o : Oper} {a : Act} {W : World} {K : Act → World → Prop} {Q : Exit → Act → World → Prop}
theorem wp_appI (hP : P = Try.prog) (s x : Operand)
    (ho : o.op = .call { callee := .builtin .append, args := #[s, x], argTypes := #[73, 73] }) (hty : o.type = 73)
    {B : Nat} {l : List Nat} {g c y : Nat} (hs : RowI W B (a.eval s) l) (ex : a.eval x = .slice (some ⟨g, 0, none⟩) 1 c) (hx : W.cell? ⟨g, 0, none⟩ = some (.int .i64 y)) (hn : l.length ≤ 1000000000000) (hB : B ≤ W.heap.size)
    (h : ∀ v' W', RowI W' B v' (l ++ [y]) → W.grownBy W' (a.eval s).ownBlock → (v'.ownBlock = (a.eval s).ownBlock ∨ v'.ownBlock = some W.heap.size) → K (a.put o.dst v') W') : o.wp P a W K Q := by
  subst hP
  obtain ⟨v', W', hr, h1, h2, h3⟩ := run_appI (c := c) hs hx hn hB
  unfold Oper.wp execOp
  simp only [ho, hty, resolve, invoke, builtin, Sem.run_bind, Sem.run_pure, Result.andThen_ok, List.map_toArray, List.map_cons, List.map_nil, ex, hr]
  exact h v' W' h1 h2 h3
theorem wpList_appI (hP : P = Try.prog) {ops : Array Oper} {rest : List Oper} (hgd : o.guard = none) (s x : Operand)
    (ho : o.op = .call { callee := .builtin .append, args := #[s, x], argTypes := #[73, 73] }) (hty : o.type = 73)
    {B : Nat} {l : List Nat} {g c y : Nat} (hs : RowI W B (a.eval s) l) (ex : a.eval x = .slice (some ⟨g, 0, none⟩) 1 c) (hx : W.cell? ⟨g, 0, none⟩ = some (.int .i64 y)) (hn : l.length ≤ 1000000000000) (hB : B ≤ W.heap.size)
    (h : ∀ v' W', RowI W' B v' (l ++ [y]) → W.grownBy W' (a.eval s).ownBlock → (v'.ownBlock = (a.eval s).ownBlock ∨ v'.ownBlock = some W.heap.size) → wpList P ops Q rest (a.put o.dst v') W') : wpList P ops Q (o :: rest) a W :=
  wpList_plain hgd fun _ hK => wp_appI hP s x ho hty hs ex hx hn hB fun v' W' h1 h2 h3 => hK _ _ (h v' W' h1 h2 h3)
theorem step_appI (hP : P = Try.prog) {ops : Array Oper} {E : Prop} (hgd : o.guard = none) (s x : Operand)
    (ho : o.op = .call { callee := .builtin .append, args := #[s, x], argTypes := #[73, 73] }) (hty : o.type = 73)
    {B : Nat} {l : List Nat} {g c y : Nat} (hs : RowI W B (a.eval s) l) (ex : a.eval x = .slice (some ⟨g, 0, none⟩) 1 c) (hx : W.cell? ⟨g, 0, none⟩ = some (.int .i64 y)) (hn : l.length ≤ 1000000000000) (hB : B ≤ W.heap.size)
    (h : ∀ v' W', RowI W' B v' (l ++ [y]) → W.grownBy W' (a.eval s).ownBlock → (v'.ownBlock = (a.eval s).ownBlock ∨ v'.ownBlock = some W.heap.size) → K (a.put o.dst v') W') : if Region.wanted o (yielded ops a.tmps) = true then Oper.wp P o a W K Q else E := by
  have hw : Region.wanted o (yielded ops a.tmps) = true := by simp [Region.wanted, hgd]
  rw [if_pos hw]
  exact wp_appI hP s x ho hty hs ex hx hn hB h
end
end Go.Proofs.Ytnlfndhgdeapeaa
