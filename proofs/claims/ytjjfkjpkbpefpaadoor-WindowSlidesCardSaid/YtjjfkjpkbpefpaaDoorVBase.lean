/- What stays as it was; rows of samples and of numbers in memory. -/
import Derived.Test.YtjjfkjpkbpefpaaDoorWRef
import Derived.Test.YtjjfkjpkbpefpaaDoorVMath
import Derived.Below
import Derived.IntWalk
import Derived.Outline
import Derived.Deep.Draws
import Derived.Laws.OwnMore
import Derived.Laws.AppendOwn
import Derived.Lib.QuietBelow
import Derived.BigRegion
import Derived.Laws.StructEq
import Derived.Deep.RegionHeld3
import Derived.Deep.RegionLaw
import Derived.Deep.AppendLies
import Derived.Deep.DrawnRows
import Derived.Deep.OwnRows
import Derived.Maps.AppendAt
import Derived.OwnWalk
namespace Go.Proofs.YtjjfkjpkbpefpaaDoor.Vn
open Go.RowKit
set_option maxRecDepth 100000
set_option maxHeartbeats 2000000

theorem below_drewN {B : Nat} {a w : World} (h : Below B a w) (n : Nat) : Below B a (w.drewN n) := ⟨h.os, h.tape, h.output, h.size, h.block⟩
/-- nothing that was there has changed -/
structure Gr (w w' : World) : Prop where
  b : Below w.heap.size w w'
theorem Gr.refl (w : World) : Gr w w := ⟨Below.refl _ _⟩
theorem Gr.alloc {w w' : World} (h : Gr w w') (c : Array Value) (t : TypeId) : Gr w (w'.alloc (.cells c t)) := ⟨h.b.alloc h.b.size _⟩
theorem Gr.setCell {w w' : World} (h : Gr w w') {a : Addr} (ha : w.heap.size ≤ a.block) (v : Value) : Gr w (w'.setCell a v) := ⟨h.b.setCell ha v⟩
theorem Gr.drewN {w w' : World} (h : Gr w w') (n : Nat) : Gr w (w'.drewN n) := ⟨below_drewN h.b n⟩
theorem Gr.drew {w w' : World} (h : Gr w w') : Gr w w'.drew := ⟨⟨h.b.os, h.b.tape, h.b.output, h.b.size, h.b.block⟩⟩
theorem Gr.trans {a b c : World} (h : Gr a b) (g : Gr b c) : Gr a c := ⟨h.b.trans (g.b.mono h.b.size)⟩
theorem Gr.cell {w w' : World} (g : Gr w w') {b o : Nat} {v : Value} (h : w.cell? ⟨b, o, none⟩ = some v) : w'.cell? ⟨b, o, none⟩ = some v :=
  (g.b.cell (p := ⟨b, o, none⟩) (World.block_lt_of_cell? w _ h)).trans h
theorem Gr.size {w w' : World} (g : Gr w w') : w.heap.size ≤ w'.heap.size := g.b.size
theorem Gr.grown {w w1 w2 : World} {row : Option Nat} (h : Gr w w1) (g : w1.grownBy w2 row) (hb : ∀ k, row = some k → w.heap.size ≤ k) : Gr w w2 := ⟨h.b.grown g h.b.size hb⟩
theorem Gr.gb {W W' : World} (g : Gr W W') : W.grownBy W' none := ⟨g.b.os, g.b.tape, g.b.output, g.b.size, fun i hi _ => g.b.block i hi⟩
theorem _root_.Go.Proofs.YtjjfkjpkbpefpaaDoor.Tab.gv {w w' : World} (h : Tab w) (g : Gr w w') : Tab w' := ⟨g.cell h.c0, g.cell h.c1, g.cell h.c2, g.cell h.c3⟩
/-- a new block -/
theorem fresh (w : World) (cs : Array Value) (t : TypeId) : ∃ W, w.alloc (.cells cs t) = W ∧ Gr w W ∧ ∀ i v, cs[i]? = some v → W.cell? ⟨w.heap.size, i, none⟩ = some v := by
  refine ⟨_, rfl, (Gr.refl w).alloc _ _, fun i v h => ?_⟩
  rw [World.cell?_alloc_at _ _ _ _ (by simp)]
  simpa using h
theorem info_parts {P : Program} {t : TypeId} {z : Option Value} {s b : Nat} (h : (P.info? t).map (fun i => (i.zero, i.size, i.bytes)) = some (z, s, b)) : ∃ i, P.info? t = some i ∧ i.zero = z ∧ i.size = s ∧ i.bytes = b := by
  cases hi : P.info? t with
  | none => rw [hi] at h; cases h
  | some i => rw [hi] at h; simp at h; exact ⟨i, rfl, h.1, h.2.1, h.2.2⟩
theorem quiet_left {P : Program} {f : FuncId} {args : Array Value} {w : World} {n : Nat} {v : Value}
    (h : Calls P f args (w.drewN n) fun e w' => e = .returned v ∧ w.drewN n = w') : Calls P f args (w.drewN n) fun e w'' => e = .returned v ∧ ∃ m, w'' = w.drewN m :=
  h.mono fun _ _ ⟨he, hm⟩ => ⟨he, n, hm.symm⟩
theorem quiet_add {P : Program} {f : FuncId} {args : Array Value} {w : World} {n : Nat} {v : Value}
    (h : Calls P f args (w.drewN n) fun e w' => e = .returned v ∧ ∃ k, w' = (w.drewN n).drewN k) : Calls P f args (w.drewN n) fun e w'' => e = .returned v ∧ ∃ m, w'' = w.drewN m :=
  h.mono fun _ _ ⟨he, k, hk⟩ => ⟨he, n + k, hk.trans (drewN_drewN _ _ _)⟩
theorem quiet_left2 {P : Program} {f : FuncId} {args : Array Value} {w : World} {a n : Nat} {v : Value}
    (h : Calls P f args (w.drewN (a + n)) fun e w' => e = .returned v ∧ w.drewN (a + n) = w') : Calls P f args (w.drewN (a + n)) fun e w'' => e = .returned v ∧ ∃ m, w'' = w.drewN (a + m) :=
  h.mono fun _ _ ⟨he, hm⟩ => ⟨he, n, hm.symm⟩
theorem quiet_add2 {P : Program} {f : FuncId} {args : Array Value} {w : World} {a n : Nat} {v : Value}
    (h : Calls P f args (w.drewN (a + n)) fun e w' => e = .returned v ∧ ∃ k, w' = (w.drewN (a + n)).drewN k) : Calls P f args (w.drewN (a + n)) fun e w'' => e = .returned v ∧ ∃ m, w'' = w.drewN (a + m) :=
  h.mono fun _ _ ⟨he, k, hk⟩ => ⟨he, n + k, hk.trans (by rw [drewN_drewN, Nat.add_assoc])⟩

/-! ### rows whose elements take two cells -/
def encP (x : Sm) : List Value := [.int .i64 x.1, .float .f64 x.2]
theorem flat2_len {α : Type} (enc : α → List Value) (he : ∀ x, (enc x).length = 2) (l : List α) : (l.flatMap enc).length = l.length * 2 := by
  induction l with
  | nil => rfl
  | cons x r ih => rw [List.flatMap_cons, List.length_append, ih, he, List.length_cons]; omega
theorem flat2_get {α : Type} (enc : α → List Value) (he : ∀ x, (enc x).length = 2) : ∀ (l : List α) (i : Nat) (x : α), l[i]? = some x → (l.flatMap enc)[i * 2]? = (enc x)[0]? ∧ (l.flatMap enc)[i * 2 + 1]? = (enc x)[1]?
  | [], i, x, h => by simp at h
  | y :: r, 0, x, h => by
    obtain rfl : y = x := by simpa using h
    rw [List.flatMap_cons]
    have := he y
    exact ⟨List.getElem?_append_left (by omega), List.getElem?_append_left (by omega)⟩
  | y :: r, i + 1, x, h => by
    have h1 := flat2_get enc he r i x (by simpa using h)
    have := he y
    rw [List.flatMap_cons, List.getElem?_append_right (by omega), List.getElem?_append_right (by omega), show (i + 1) * 2 - (enc y).length = i * 2 by omega, show (i + 1) * 2 + 1 - (enc y).length = i * 2 + 1 by omega]
    exact h1
/-- a row of the call's own, whose elements take two cells -/
def Own2 {α : Type} (enc : α → List Value) (T : TypeId) (W : World) (B : Nat) (v : Value) (l : List α) : Prop := W.ownsRow B T 2 v l.length (l.flatMap enc)
/-- a row that is read -/
def At2 {α : Type} (enc : α → List Value) (W : World) (A : Option Addr) (l : List α) : Prop :=
  0 < l.length → ∃ b o, A = some ⟨b, o, none⟩ ∧ ∀ i x, l[i]? = some x → ∀ u v, enc x = [u, v] → W.cell? ⟨b, o + i * 2, none⟩ = some u ∧ W.cell? ⟨b, o + i * 2 + 1, none⟩ = some v
section
variable {α : Type} {enc : α → List Value} {T : TypeId} {W W' : World} {B : Nat} {v : Value} {l : List α} {A : Option Addr}
theorem At2.gr (h : At2 enc W A l) (g : Gr W W') : At2 enc W' A l := fun h0 => by
  obtain ⟨b, o, e, hc⟩ := h h0
  exact ⟨b, o, e, fun i x hx u v hu => ⟨g.cell (hc i x hx u v hu).1, g.cell (hc i x hx u v hu).2⟩⟩
theorem At2.nil (W : World) (A : Option Addr) : At2 enc W A [] := fun h => absurd h (by simp)
theorem At2.at_ (h : At2 enc W A l) {k : Nat} (hk : k < l.length) {u v : Value} (hu : enc l[k] = [u, v]) :
    ∃ b o, A = some ⟨b, o, none⟩ ∧ W.cell? ⟨b, o + k * 2, none⟩ = some u ∧ W.cell? ⟨b, o + k * 2 + 1, none⟩ = some v ∧ b < W.heap.size := by
  obtain ⟨b, o, e, hc⟩ := h (by omega)
  obtain ⟨h1, h2⟩ := hc k _ (List.getElem?_eq_getElem hk) u v hu
  exact ⟨b, o, e, h1, h2, World.block_lt_of_cell? W _ h1⟩
theorem At2.take (h : At2 enc W A l) (k : Nat) : At2 enc W A (l.take k) := fun h0 => by
  obtain ⟨b, o, e, hc⟩ := h (by have : (l.take k).length ≤ l.length := List.length_take_le' ..; omega)
  refine ⟨b, o, e, fun i x hx => hc i x ?_⟩
  rw [List.getElem?_take] at hx
  split at hx
  · exact hx
  · cases hx
theorem At2.drop (h : At2 enc W A l) (k c : Nat) (hk : k ≤ l.length) (hc : l.length ≤ c) : At2 enc W (if c = k then A else A.map (·.add (k * 2))) (l.drop k) := fun h0 => by
  rw [List.length_drop] at h0
  rw [if_neg (by omega)]
  obtain ⟨b, o, rfl, hc⟩ := h (by omega)
  refine ⟨b, o + k * 2, by simp only [Option.map_some]; unfold Addr.add; split <;> simp_all, fun i x hx u v hu => ?_⟩
  rw [List.getElem?_drop] at hx
  obtain ⟨h1, h2⟩ := hc _ _ hx u v hu
  rw [show o + k * 2 + i * 2 = o + (k + i) * 2 by omega]
  exact ⟨h1, h2⟩
theorem At2.only (h : At2 enc W A l) {row : Option Nat} (g : W.grownBy W' row) (hne : ∀ b o, A = some ⟨b, o, none⟩ → some b ≠ row) : At2 enc W' A l := fun h0 => by
  obtain ⟨b, o, e, hc⟩ := h h0
  exact ⟨b, o, e, fun i x hx u v hu => ⟨g.cell (hc i x hx u v hu).1 (hne b o e), g.cell (hc i x hx u v hu).2 (hne b o e)⟩⟩
theorem Own2.nil (W : World) (B : Nat) : Own2 enc T W B (.slice none 0 0) [] := World.ownsRow_nil _ _ _ _
theorem Own2.form (he : ∀ x, (enc x).length = 2) (h : Own2 enc T W B v l) : ∃ A c, v = .slice A l.length c ∧ At2 enc W A l ∧ l.length ≤ c ∧ c ≤ maxLen ∧ (0 < l.length → ∃ g, A = some ⟨g, 0, none⟩ ∧ B ≤ g) := by
  have hcl := fun (g : Nat) (hg : v.ownBlock = some g) => h.cells hg
  rcases h.2 with ⟨e, e0⟩ | ⟨g, cap, cur, rfl, hb, hg, h1, h2, h3, h4⟩
  · exact ⟨none, 0, by rw [e, e0], fun hh => absurd hh (by omega), by omega, by unfold maxLen; omega, fun hh => absurd hh (by omega)⟩
  · refine ⟨_, cap, rfl, fun h0 => ⟨g, 0, rfl, fun i x hx u v hu => ?_⟩, h1, h2, fun _ => ⟨g, rfl, hb⟩⟩
    obtain ⟨g1, g2⟩ := flat2_get enc he l i x hx
    rw [hu] at g1 g2
    have d1 := hcl g rfl _ _ (g1.trans rfl)
    have d2 := hcl g rfl _ _ (g2.trans rfl)
    have hadd : ∀ j, (⟨g, 0, none⟩ : Addr).add j = ⟨g, j, none⟩ := fun j => by unfold Addr.add; split <;> simp_all
    rw [hadd] at d1 d2
    rw [Nat.zero_add]
    exact ⟨d1, d2⟩
theorem Own2.gr (h : Own2 enc T W B v l) (g : Gr W W') : Own2 enc T W' B v l :=
  World.ownsRow.kept h (row := none) ⟨g.b.os, g.b.tape, g.b.output, g.b.size, fun k hk _ => g.b.block k hk⟩ (by cases v.ownBlock <;> simp)
theorem Own2.kept (h : Own2 enc T W B v l) {row : Option Nat} (g : W.grownBy W' row) (hne : v.ownBlock = none ∨ v.ownBlock ≠ row) : Own2 enc T W' B v l := World.ownsRow.kept h g hne
theorem Own2.lt (h : Own2 enc T W B v l) {k : Nat} (hk : v.ownBlock = some k) : B ≤ k ∧ k < W.heap.size := World.ownsRow.lt h k hk
theorem Own2.mono (h : Own2 enc T W B v l) {B' : Nat} (hB : B' ≤ B) : Own2 enc T W B' v l := by
  refine ⟨h.1, ?_⟩
  rcases h.2 with hn | ⟨g, cap, cur, e, hb, r⟩
  · exact .inl hn
  · exact .inr ⟨g, cap, cur, e, by omega, r⟩
/-- where such a row lies, cell by cell -/
theorem Own2.heap (h : Own2 enc T W B v l) (h0 : v.ownBlock ≠ none) : ∃ g cap cur, v = .slice (some ⟨g, 0, none⟩) l.length cap ∧ W.heap[g]? = some (.cells cur T (0, 0)) := by
  rcases h.2 with ⟨e, -⟩ | ⟨g, cap, cur, e, -, hg, -⟩
  · rw [e] at h0; exact absurd rfl h0
  · exact ⟨g, cap, cur, e, hg⟩
end
/-! append, one step of a walk or of a region -/
theorem run_app2 {α : Type} (enc : α → List Value) (he : ∀ x, (enc x).length = 2) (h1c : ∀ x, ∀ u ∈ enc x, u.oneCell' = true) (S T : TypeId) (z : Value) (by_ : Nat) (hS : Tryd.prog.underlying S = some (.slice T)) (hT : (Tryd.prog.info? T).map (fun i => (i.zero, i.size, i.bytes)) = some (some z, 2, by_)) (hz : z.cells.size = 2) (hby : by_ ≤ 48)
    {W : World} {B : Nat} {v : Value} {l m : List α} {A : Option Addr} {c : Nat} (h : Own2 enc T W B v l) (hs : At2 enc W A m) (hn : l.length + m.length ≤ 1099511627776) (hB : B ≤ W.heap.size) :
    ∃ v' W', (Builtin.append_ #[S, S] S #[v, .slice A m.length c]).run Tryd.prog W = .ok v' W' ∧ Own2 enc T W' B v' (l ++ m) ∧ W.grownBy W' v.ownBlock ∧ (v'.ownBlock = v.ownBlock ∨ v'.ownBlock = some W.heap.size) := by
  obtain ⟨i0, hi, hz0, hz1, hz2⟩ := info_parts hT
  cases A with
  | none =>
    have h0 : m = [] := by
      rcases Nat.eq_zero_or_pos m.length with e | e
      · exact List.eq_nil_of_length_eq_zero e
      · obtain ⟨b, o, e, _⟩ := hs e; cases e
    subst h0
    refine ⟨v, W, ?_, by rw [List.append_nil]; exact h, World.grownBy.refl W _, .inl rfl⟩
    rcases h.2 with ⟨rfl, _⟩ | ⟨g, cap, cur, rfl, _, _, hnc, _⟩
    · simp [Builtin.append_, run_underlying hS, sizeOf, typeInfo, hi, Builtin.lenOf, Builtin.firstCells]
    · simp [Builtin.append_, run_underlying hS, sizeOf, typeInfo, hi, Builtin.lenOf, Builtin.firstCells, hnc, storeCells]
  | some a =>
    have hcells : ∀ j u, (m.flatMap enc)[j]? = some u → W.cell? (a.add j) = some u := by
      intro j u hu
      have hj : j < m.length * 2 := by have := (List.getElem?_eq_some_iff.1 hu).1; rwa [flat2_len enc he] at this
      obtain ⟨b, o, e, hc⟩ := hs (by omega)
      injection e with e
      subst e
      have hadd : (⟨b, o, none⟩ : Addr).add j = ⟨b, o + j, none⟩ := by unfold Addr.add; split <;> simp_all
      rw [hadd]
      have hi : j / 2 < m.length := by omega
      have hx := List.getElem?_eq_getElem hi
      obtain ⟨g1, g2⟩ := flat2_get enc he m _ _ hx
      obtain ⟨p, q, hpq⟩ : ∃ p q, enc m[j / 2] = [p, q] := by
        have := he m[j / 2]
        match h : enc m[j / 2], this with
        | [p, q], _ => exact ⟨p, q, rfl⟩
      obtain ⟨c1, c2⟩ := hc _ _ hx p q hpq
      rw [hpq] at g1 g2
      rcases Nat.mod_two_eq_zero_or_one j with e | e
      · have e2 : j / 2 * 2 = j := by omega
        rw [e2] at c1 g1
        rw [hu] at g1
        cases g1; exact c1
      · have e2 : j / 2 * 2 + 1 = j := by omega
        rw [Nat.add_assoc, e2] at c2
        rw [e2] at g2
        rw [hu] at g2
        cases g2; exact c2
    obtain ⟨v', w', hr, h2, h3, _, h5⟩ := run_append_own_at (P := Tryd.prog) W B S S T i0 z 2 by_ hS hi hz0 hz1 hz2 hz (by omega) v l.length _ h a m.length c (m.flatMap enc) (flat2_len enc he m) hcells (fun u hu => by
      obtain ⟨x, -, hx⟩ := List.mem_flatMap.1 hu
      exact h1c x u hx) (by unfold maxLen; omega) (by
        have : (l.length + m.length) * by_ ≤ 1099511627776 * 48 := Nat.mul_le_mul hn hby
        omega) hB
    refine ⟨v', w', hr, ?_, h3, h5⟩
    unfold Own2
    rw [List.flatMap_append, List.length_append]
    exact h2
theorem smp_info : (Tryd.prog.info? 34).map (fun i => (i.zero, i.size, i.bytes)) = some (some (.agg #[.int .i64 0, .float .f64 0]), 2, 16) := by kernel_rfl
/-- samples of the call's own -/
abbrev OwnP (W : World) (B : Nat) (v : Value) (l : List Sm) : Prop := Own2 encP 34 W B v l
theorem run_appP {W : World} {B : Nat} {v : Value} {l m : List Sm} {A : Option Addr} {c : Nat} (h : OwnP W B v l) (hs : At2 encP W A m) (hn : l.length + m.length ≤ 1099511627776) (hB : B ≤ W.heap.size) :
    ∃ v' W', (Builtin.append_ #[22, 22] 22 #[v, .slice A m.length c]).run Tryd.prog W = .ok v' W' ∧ OwnP W' B v' (l ++ m) ∧ W.grownBy W' v.ownBlock ∧ (v'.ownBlock = v.ownBlock ∨ v'.ownBlock = some W.heap.size) :=
  run_app2 encP (fun _ => rfl) (fun x u hu => by simp [encP] at hu; rcases hu with rfl | rfl <;> rfl) _ _ _ 16 Tryd.underlying22 smp_info rfl (by omega) h hs hn hB
/-- an append's law, as a step of a walk -/
theorem wp_app2 {P : Program} {S : TypeId} {o : Oper} {a : Act} {W : World} {K : Act → World → Prop} {Q : Exit → Act → World → Prop} (s x : Operand)
    (ho : o.op = .call { callee := .builtin .append, args := #[s, x], argTypes := #[S, S] }) (hty : o.type = S) {v x' : Value} (hs : a.eval s = v) (hx : a.eval x = x') {R : Value → World → Prop}
    (hr : ∃ v' W', (Builtin.append_ #[S, S] S #[v, x']).run P W = .ok v' W' ∧ R v' W')
    (h : ∀ v' W', R v' W' → K (a.put o.dst v') W') : o.wp P a W K Q := by
  obtain ⟨v', W', hr, h1⟩ := hr
  unfold Oper.wp execOp
  simp only [ho, hty, resolve, invoke, builtin, Sem.run_bind, Sem.run_pure, Result.andThen_ok, List.map_toArray, List.map_cons, List.map_nil, hs, hx, hr]
  exact h v' W' h1
theorem wpList_app2 {P : Program} {S : TypeId} {ops : Array Oper} {rest : List Oper} {o : Oper} {a : Act} {W : World} {Q : Exit → Act → World → Prop} (hgd : o.guard = none) (s x : Operand)
    (ho : o.op = .call { callee := .builtin .append, args := #[s, x], argTypes := #[S, S] }) (hty : o.type = S) {v x' : Value} (hs : a.eval s = v) (hx : a.eval x = x') {R : Value → World → Prop}
    (hr : ∃ v' W', (Builtin.append_ #[S, S] S #[v, x']).run P W = .ok v' W' ∧ R v' W')
    (h : ∀ v' W', R v' W' → wpList P ops Q rest (a.put o.dst v') W') : wpList P ops Q (o :: rest) a W :=
  wpList_plain hgd fun _ hK => wp_app2 s x ho hty hs hx hr fun v' W' h1 => hK _ _ (h v' W' h1)
theorem step_app2 {P : Program} {S : TypeId} {ops : Array Oper} {o : Oper} {a : Act} {W : World} {K : Act → World → Prop} {Q : Exit → Act → World → Prop} {E : Prop} (hgd : o.guard = none) (s x : Operand)
    (ho : o.op = .call { callee := .builtin .append, args := #[s, x], argTypes := #[S, S] }) (hty : o.type = S) {v x' : Value} (hs : a.eval s = v) (hx : a.eval x = x') {R : Value → World → Prop}
    (hr : ∃ v' W', (Builtin.append_ #[S, S] S #[v, x']).run P W = .ok v' W' ∧ R v' W')
    (h : ∀ v' W', R v' W' → K (a.put o.dst v') W') :
    if Region.wanted o (yielded ops a.tmps) = true then Oper.wp P o a W K Q else E := by
  have hw : Region.wanted o (yielded ops a.tmps) = true := by simp [Region.wanted, hgd]
  rw [if_pos hw]
  exact wp_app2 s x ho hty hs hx hr h
/-- a new block of one element -/
theorem at2_one {α : Type} {enc : α → List Value} (W : World) (x : α) (u v : Value) (hx : enc x = [u, v]) (t : TypeId) : At2 enc (W.alloc (.cells #[u, v] t)) (some ⟨W.heap.size, 0, none⟩) [x] := fun _ => ⟨W.heap.size, 0, rfl, fun i y hy u' v' hu => by
    match i, hy with
    | 0, hy =>
      obtain rfl : x = y := by simpa using hy
      rw [hx] at hu
      injection hu with h1 h2
      injection h2 with h2
      subst h1; subst h2
      refine ⟨?_, ?_⟩ <;> go_simp⟩
theorem at2_cells {α : Type} {enc : α → List Value} {W : World} {g : Nat} {x : α} {u v : Value} (hx : enc x = [u, v]) (h1 : W.cell? ⟨g, 0, none⟩ = some u) (h2 : W.cell? ⟨g, 1, none⟩ = some v) : At2 enc W (some ⟨g, 0, none⟩) [x] := fun _ => ⟨g, 0, rfl, fun i y hy u' v' hu => by
    match i, hy with
    | 0, hy =>
      obtain rfl : x = y := by simpa using hy
      rw [hx] at hu
      injection hu with e1 e2
      injection e2 with e2
      subst e1; subst e2
      exact ⟨h1, h2⟩⟩

/-! ### rows whose elements take one cell -/
/-- a row of the call's own -/
def Own1 {α : Type} (enc : α → Value) (T : TypeId) (W : World) (B : Nat) (v : Value) (l : List α) : Prop := W.ownsRow B T 1 v l.length (l.map enc)
/-- a row that is read -/
def At1 {α : Type} (enc : α → Value) (W : World) (A : Option Addr) (l : List α) : Prop :=
  0 < l.length → ∃ b o, A = some ⟨b, o, none⟩ ∧ ∀ i x, l[i]? = some x → W.cell? ⟨b, o + i, none⟩ = some (enc x)
section
variable {α : Type} {enc : α → Value} {T : TypeId} {W W' : World} {B : Nat} {v : Value} {l : List α} {A : Option Addr}
theorem At1.gr (h : At1 enc W A l) (g : Gr W W') : At1 enc W' A l := fun h0 => by
  obtain ⟨b, o, e, hc⟩ := h h0
  exact ⟨b, o, e, fun i x hx => g.cell (hc i x hx)⟩
theorem At1.nil (W : World) (A : Option Addr) : At1 enc W A [] := fun h => absurd h (by simp)
theorem Own1.nil (W : World) (B : Nat) : Own1 enc T W B (.slice none 0 0) [] := World.ownsRow_nil _ _ _ _
theorem add_none_ (g j : Nat) : (⟨g, 0, none⟩ : Addr).add j = ⟨g, j, none⟩ := by unfold Addr.add; split <;> simp_all
theorem Own1.form (h : Own1 enc T W B v l) : ∃ A c, v = .slice A l.length c ∧ At1 enc W A l ∧ l.length ≤ c ∧ c ≤ maxLen ∧ (A = none → l.length = 0 ∧ c = 0) ∧ (0 < l.length → ∃ g, A = some ⟨g, 0, none⟩ ∧ B ≤ g) := by
  have hcl := fun (g : Nat) (hg : v.ownBlock = some g) => h.cells hg
  rcases h.2 with ⟨e, e0⟩ | ⟨g, cap, cur, rfl, hb, hg, h1, h2, h3, h4⟩
  · exact ⟨none, 0, by rw [e, e0], fun hh => absurd hh (by omega), by omega, by unfold maxLen; omega, fun _ => ⟨e0, rfl⟩, fun hh => absurd hh (by omega)⟩
  · refine ⟨_, cap, rfl, fun h0 => ⟨g, 0, rfl, fun i x hx => ?_⟩, h1, h2, (fun e => by cases e), fun _ => ⟨g, rfl, hb⟩⟩
    have d1 := hcl g rfl i (enc x) (by rw [List.getElem?_map, hx]; rfl)
    rw [add_none_] at d1
    rw [Nat.zero_add]; exact d1
theorem Own1.gr (h : Own1 enc T W B v l) (g : Gr W W') : Own1 enc T W' B v l := World.ownsRow.kept h g.gb (by cases v.ownBlock <;> simp)
theorem Own1.lt (h : Own1 enc T W B v l) {k : Nat} (hk : v.ownBlock = some k) : B ≤ k ∧ k < W.heap.size := World.ownsRow.lt h k hk
theorem Own1.kept (h : Own1 enc T W B v l) {row : Option Nat} (g : W.grownBy W' row) (hne : v.ownBlock = none ∨ v.ownBlock ≠ row) : Own1 enc T W' B v l := World.ownsRow.kept h g hne
/-- a store into it -/
theorem Own1.stored {g n cap : Nat} (h : Own1 enc T W B (.slice (some ⟨g, 0, none⟩) n cap) l) (hn : n = l.length) (j : Nat) (x : α) :
    Own1 enc T (W.setCell ⟨g, j, none⟩ (enc x)) B (.slice (some ⟨g, 0, none⟩) n cap) (l.set j x) ∧ W.grownBy (W.setCell ⟨g, j, none⟩ (enc x)) (some g) := by
  subst hn
  have h1 := World.ownsRow.stored h j (enc x)
  refine ⟨?_, h1.2⟩
  unfold Own1
  rw [List.length_set, List.map_set]
  exact h1.1
theorem Own1.cellAt {g n cap : Nat} (h : Own1 enc T W B (.slice (some ⟨g, 0, none⟩) n cap) l) (hn : n = l.length) {j : Nat} (hj : j < l.length) : W.cell? ⟨g, j, none⟩ = some (enc l[j]) ∧ W.frozen? ⟨g, j, none⟩ = false := by
  subst hn
  refine ⟨?_, World.ownsRow.frozenAt h j⟩
  rw [World.ownsRow.cellAt h j (by omega), List.getElem?_map, List.getElem?_eq_getElem hj]; rfl
/-- a row that make laid -/
theorem own1_made (W : World) (z : α) (n : Nat) (hB : B ≤ W.heap.size) (hn : n ≤ maxLen) : Own1 enc T (W.alloc (.cells (madeCells #[enc z] n) T)) B (.slice (some ⟨W.heap.size, 0, none⟩) n n) (List.replicate n z) := by
  have h := World.ownsRow_lit (e := T) (size := 1) W (madeCells #[enc z] n) n hB hn (by simp [madeCells])
  unfold Own1
  rw [List.length_replicate, List.map_replicate, ← toList_madeCells_one]
  exact h
end
theorem run_app1 {α : Type} (enc : α → Value) (h1c : ∀ x, (enc x).oneCell' = true) (S T : TypeId) (z : Value) (by_ : Nat) (hS : Tryd.prog.underlying S = some (.slice T)) (hT : (Tryd.prog.info? T).map (fun i => (i.zero, i.size, i.bytes)) = some (some z, 1, by_)) (hz : z.cells.size = 1) (hby : by_ ≤ 48)
    {W : World} {B : Nat} {v : Value} {l m : List α} {A : Option Addr} {c : Nat} (h : Own1 enc T W B v l) (hs : At1 enc W A m) (hn : l.length + m.length ≤ 1099511627776) (hB : B ≤ W.heap.size) :
    ∃ v' W', (Builtin.append_ #[S, S] S #[v, .slice A m.length c]).run Tryd.prog W = .ok v' W' ∧ Own1 enc T W' B v' (l ++ m) ∧ W.grownBy W' v.ownBlock ∧ (v'.ownBlock = v.ownBlock ∨ v'.ownBlock = some W.heap.size) := by
  obtain ⟨i0, hi, hz0, hz1, hz2⟩ := info_parts hT
  cases A with
  | none =>
    have h0 : m = [] := by
      rcases Nat.eq_zero_or_pos m.length with e | e
      · exact List.eq_nil_of_length_eq_zero e
      · obtain ⟨b, o, e, _⟩ := hs e; cases e
    subst h0
    refine ⟨v, W, ?_, by rw [List.append_nil]; exact h, World.grownBy.refl W _, .inl rfl⟩
    rcases h.2 with ⟨rfl, _⟩ | ⟨g, cap, cur, rfl, _, _, hnc, _⟩
    · simp [Builtin.append_, run_underlying hS, sizeOf, typeInfo, hi, Builtin.lenOf, Builtin.firstCells]
    · simp [Builtin.append_, run_underlying hS, sizeOf, typeInfo, hi, Builtin.lenOf, Builtin.firstCells, hnc, storeCells]
  | some a =>
    have hcells : ∀ j u, (m.map enc)[j]? = some u → W.cell? (a.add j) = some u := by
      intro j u hu
      have hj : j < m.length := by have := (List.getElem?_eq_some_iff.1 hu).1; simpa using this
      obtain ⟨b, o, e, hc⟩ := hs (by omega)
      injection e with e
      subst e
      have hadd : (⟨b, o, none⟩ : Addr).add j = ⟨b, o + j, none⟩ := by unfold Addr.add; split <;> simp_all
      rw [hadd]
      rw [List.getElem?_map, List.getElem?_eq_getElem hj] at hu
      cases hu
      exact hc _ _ (List.getElem?_eq_getElem hj)
    obtain ⟨v', w', hr, h2, h3, _, h5⟩ := run_append_own_at (P := Tryd.prog) W B S S T i0 z 1 by_ hS hi hz0 hz1 hz2 hz (by omega) v l.length _ h a m.length c (m.map enc) (by simp) hcells (fun u hu => by
      obtain ⟨x, -, rfl⟩ := List.mem_map.1 hu
      exact h1c x) (by unfold maxLen; omega) (by
        have : (l.length + m.length) * by_ ≤ 1099511627776 * 48 := Nat.mul_le_mul hn hby
        omega) hB
    refine ⟨v', w', hr, ?_, h3, h5⟩
    unfold Own1
    rw [List.map_append, List.length_append]
    exact h2
def encF (x : Nat) : Value := .float .f64 x
def encB (x : Bool) : Value := .bool x
theorem info_float : (Tryd.prog.info? 26).map (fun i => (i.zero, i.size, i.bytes)) = some (some (.float .f64 0), 1, 8) := by kernel_rfl
theorem info_bool : (Tryd.prog.info? 4).map (fun i => (i.zero, i.size, i.bytes)) = some (some (.bool false), 1, 1) := by kernel_rfl
abbrev FlL (W : World) (A : Option Addr) (l : List Nat) : Prop := At1 encF W A l
abbrev OwnF (W : World) (B : Nat) (v : Value) (l : List Nat) : Prop := Own1 encF 26 W B v l
abbrev OwnB (W : World) (B : Nat) (v : Value) (l : List Bool) : Prop := Own1 encB 4 W B v l
theorem run_appF {W : World} {B : Nat} {v : Value} {l m : List Nat} {A : Option Addr} {c : Nat} (h : OwnF W B v l) (hs : FlL W A m) (hn : l.length + m.length ≤ 1099511627776) (hB : B ≤ W.heap.size) :
    ∃ v' W', (Builtin.append_ #[42, 42] 42 #[v, .slice A m.length c]).run Tryd.prog W = .ok v' W' ∧ OwnF W' B v' (l ++ m) ∧ W.grownBy W' v.ownBlock ∧ (v'.ownBlock = v.ownBlock ∨ v'.ownBlock = some W.heap.size) :=
  run_app1 encF (fun _ => rfl) _ _ _ 8 Tryd.underlying42 info_float rfl (by omega) h hs hn hB
theorem run_appB {W : World} {B : Nat} {v : Value} {l m : List Bool} {A : Option Addr} {c : Nat} (h : OwnB W B v l) (hs : At1 encB W A m) (hn : l.length + m.length ≤ 1099511627776) (hB : B ≤ W.heap.size) :
    ∃ v' W', (Builtin.append_ #[43, 43] 43 #[v, .slice A m.length c]).run Tryd.prog W = .ok v' W' ∧ OwnB W' B v' (l ++ m) ∧ W.grownBy W' v.ownBlock ∧ (v'.ownBlock = v.ownBlock ∨ v'.ownBlock = some W.heap.size) :=
  run_app1 encB (fun _ => rfl) _ _ _ 1 Tryd.underlying43 info_bool rfl (by omega) h hs hn hB
/-- a new block of one element -/
theorem at1_one {α : Type} {enc : α → Value} (W : World) (x : α) (t : TypeId) : At1 enc (W.alloc (.cells #[enc x] t)) (some ⟨W.heap.size, 0, none⟩) [x] := fun _ => ⟨W.heap.size, 0, rfl, fun i y hy => by
  match i, hy with
  | 0, hy =>
    obtain rfl : x = y := by simpa using hy
    rw [World.cell?_alloc_at _ _ _ _ (by simp)]; rfl⟩
theorem FlL.seq {W : World} {A : Option Addr} {l : List Nat} (h : FlL W A l) : FlsAt W A l.length (seqOf l) := fun h0 => by
  obtain ⟨b, o, e, hc⟩ := h h0
  refine ⟨b, o, e, fun i hi => ?_⟩
  have := hc i _ (List.getElem?_eq_getElem hi)
  rw [this]
  unfold encF seqOf
  rw [List.getD, List.getElem?_eq_getElem hi]; rfl
end Go.Proofs.YtjjfkjpkbpefpaaDoor.Vn
