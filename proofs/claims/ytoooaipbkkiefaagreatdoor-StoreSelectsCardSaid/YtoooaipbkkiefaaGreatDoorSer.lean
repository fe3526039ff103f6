/- Rows of series and of samples of the call's own; what is read of them. -/
import Derived.Test.YtoooaipbkkiefaaGreatDoorSm
import Derived.Test.YtoooaipbkkiefaaGreatDoorSetF
import Derived.Test.YtoooaipbkkiefaaGreatDoorLApp
namespace Go.Proofs.YtoooaipbkkiefaaGreatDoor
open Go.RowKit
set_option maxRecDepth 100000
set_option maxHeartbeats 2000000

/-! rows of two cells -/
theorem encP_len (x : Sm) : (encP x).length = 2 := rfl
/-- a slice -/
structure Sl where
  a : Option Addr
  n : Nat
  c : Nat
def Sl.v (s : Sl) : Value := .slice s.a s.n s.c
/-- a series' two cells -/
abbrev Sc := Sl × Sl
def encS (x : Sc) : List Value := [x.1.v, x.2.v]
theorem flat2_len {α : Type} (enc : α → List Value) (he : ∀ x, (enc x).length = 2) (l : List α) : (l.flatMap enc).length = l.length * 2 := by
  induction l with
  | nil => rfl
  | cons x r ih => rw [List.flatMap_cons, List.length_append, ih, he, List.length_cons]; omega
theorem flat2_get {α : Type} (enc : α → List Value) (he : ∀ x, (enc x).length = 2) : ∀ (l : List α) (i : Nat) (x : α), l[i]? = some x → (l.flatMap enc)[i * 2]? = (enc x)[0]? ∧ (l.flatMap enc)[i * 2 + 1]? = (enc x)[1]?
  | [], i, x, h => by simp at h
  | y :: r, 0, x, h => by
    obtain rfl : y = x := by simpa using h
    rw [List.flatMap_cons]
    have := he y
    exact ⟨List.getElem?_append_left (by omega), List.getElem?_append_left (by omega)⟩
  | y :: r, i + 1, x, h => by
    have h1 := flat2_get enc he r i x (by simpa using h)
    have := he y
    rw [List.flatMap_cons, List.getElem?_append_right (by omega), List.getElem?_append_right (by omega), show (i + 1) * 2 - (enc y).length = i * 2 by omega, show (i + 1) * 2 + 1 - (enc y).length = i * 2 + 1 by omega]
    exact h1
/-- a row of the call's own, whose elements take two cells -/
def Own2 {α : Type} (enc : α → List Value) (T : TypeId) (W : World) (B : Nat) (v : Value) (l : List α) : Prop := W.ownsRow B T 2 v l.length (l.flatMap enc)
/-- a row that is read -/
def At2 {α : Type} (enc : α → List Value) (W : World) (A : Option Addr) (l : List α) : Prop :=
  0 < l.length → ∃ b o, A = some ⟨b, o, none⟩ ∧ ∀ i x, l[i]? = some x → ∀ u v, enc x = [u, v] → W.cell? ⟨b, o + i * 2, none⟩ = some u ∧ W.cell? ⟨b, o + i * 2 + 1, none⟩ = some v
section
variable {α : Type} {enc : α → List Value} {T : TypeId} {W W' : World} {B : Nat} {v : Value} {l : List α} {A : Option Addr}
theorem At2.gr (h : At2 enc W A l) (g : Gr W W') : At2 enc W' A l := fun h0 => by
  obtain ⟨b, o, e, hc⟩ := h h0
  exact ⟨b, o, e, fun i x hx u v hu => ⟨g.cell (hc i x hx u v hu).1, g.cell (hc i x hx u v hu).2⟩⟩
theorem At2.nil (W : World) (A : Option Addr) : At2 enc W A [] := fun h => absurd h (by simp)
theorem At2.at_ (h : At2 enc W A l) {k : Nat} (hk : k < l.length) {u v : Value} (hu : enc l[k] = [u, v]) :
    ∃ b o, A = some ⟨b, o, none⟩ ∧ W.cell? ⟨b, o + k * 2, none⟩ = some u ∧ W.cell? ⟨b, o + k * 2 + 1, none⟩ = some v ∧ b < W.heap.size := by
  obtain ⟨b, o, e, hc⟩ := h (by omega)
  obtain ⟨h1, h2⟩ := hc k _ (List.getElem?_eq_getElem hk) u v hu
  exact ⟨b, o, e, h1, h2, World.block_lt_of_cell? W _ h1⟩
theorem At2.take (h : At2 enc W A l) (k : Nat) : At2 enc W A (l.take k) := fun h0 => by
  obtain ⟨b, o, e, hc⟩ := h (by have : (l.take k).length ≤ l.length := List.length_take_le' ..; omega)
  refine ⟨b, o, e, fun i x hx => hc i x ?_⟩
  rw [List.getElem?_take] at hx
  split at hx
  · exact hx
  · cases hx
theorem At2.drop (h : At2 enc W A l) (k c : Nat) (hk : k ≤ l.length) (hc : l.length ≤ c) : At2 enc W (if c = k then A else A.map (·.add (k * 2))) (l.drop k) := fun h0 => by
  rw [List.length_drop] at h0
  rw [if_neg (by omega)]
  obtain ⟨b, o, rfl, hc⟩ := h (by omega)
  refine ⟨b, o + k * 2, by simp only [Option.map_some]; unfold Addr.add; split <;> simp_all, fun i x hx u v hu => ?_⟩
  rw [List.getElem?_drop] at hx
  obtain ⟨h1, h2⟩ := hc _ _ hx u v hu
  rw [show o + k * 2 + i * 2 = o + (k + i) * 2 by omega]
  exact ⟨h1, h2⟩
theorem At2.only (h : At2 enc W A l) {row : Option Nat} (g : W.grownBy W' row) (hne : ∀ b o, A = some ⟨b, o, none⟩ → some b ≠ row) : At2 enc W' A l := fun h0 => by
  obtain ⟨b, o, e, hc⟩ := h h0
  exact ⟨b, o, e, fun i x hx u v hu => ⟨g.cell (hc i x hx u v hu).1 (hne b o e), g.cell (hc i x hx u v hu).2 (hne b o e)⟩⟩
theorem Own2.nil (W : World) (B : Nat) : Own2 enc T W B (.slice none 0 0) [] := World.ownsRow_nil _ _ _ _
theorem Own2.form (he : ∀ x, (enc x).length = 2) (h : Own2 enc T W B v l) : ∃ A c, v = .slice A l.length c ∧ At2 enc W A l ∧ l.length ≤ c ∧ c ≤ maxLen ∧ (0 < l.length → ∃ g, A = some ⟨g, 0, none⟩ ∧ B ≤ g) := by
  have hcl := fun (g : Nat) (hg : v.ownBlock = some g) => h.cells hg
  rcases h.2 with ⟨e, e0⟩ | ⟨g, cap, cur, rfl, hb, hg, h1, h2, h3, h4⟩
  · exact ⟨none, 0, by rw [e, e0], fun hh => absurd hh (by omega), by omega, by unfold maxLen; omega, fun hh => absurd hh (by omega)⟩
  · refine ⟨_, cap, rfl, fun h0 => ⟨g, 0, rfl, fun i x hx u v hu => ?_⟩, h1, h2, fun _ => ⟨g, rfl, hb⟩⟩
    obtain ⟨g1, g2⟩ := flat2_get enc he l i x hx
    rw [hu] at g1 g2
    have d1 := hcl g rfl _ _ (g1.trans rfl)
    have d2 := hcl g rfl _ _ (g2.trans rfl)
    have hadd : ∀ j, (⟨g, 0, none⟩ : Addr).add j = ⟨g, j, none⟩ := fun j => by unfold Addr.add; split <;> simp_all
    rw [hadd] at d1 d2
    rw [Nat.zero_add]
    exact ⟨d1, d2⟩
theorem Own2.gr (h : Own2 enc T W B v l) (g : Gr W W') : Own2 enc T W' B v l :=
  World.ownsRow.kept h (row := none) ⟨g.b.os, g.b.tape, g.b.output, g.b.size, fun k hk _ => g.b.block k hk⟩ (by cases v.ownBlock <;> simp)
theorem Own2.kept (h : Own2 enc T W B v l) {row : Option Nat} (g : W.grownBy W' row) (hne : v.ownBlock = none ∨ v.ownBlock ≠ row) : Own2 enc T W' B v l := World.ownsRow.kept h g hne
theorem Own2.lt (h : Own2 enc T W B v l) {k : Nat} (hk : v.ownBlock = some k) : B ≤ k ∧ k < W.heap.size := World.ownsRow.lt h k hk
theorem Own2.mono (h : Own2 enc T W B v l) {B' : Nat} (hB : B' ≤ B) : Own2 enc T W B' v l := by
  refine ⟨h.1, ?_⟩
  rcases h.2 with hn | ⟨g, cap, cur, e, hb, r⟩
  · exact .inl hn
  · exact .inr ⟨g, cap, cur, e, by omega, r⟩
/-- where such a row lies, cell by cell -/
theorem Own2.heap (h : Own2 enc T W B v l) (h0 : v.ownBlock ≠ none) : ∃ g cap cur, v = .slice (some ⟨g, 0, none⟩) l.length cap ∧ W.heap[g]? = some (.cells cur T (0, 0)) := by
  rcases h.2 with ⟨e, -⟩ | ⟨g, cap, cur, e, -, hg, -⟩
  · rw [e] at h0; exact absurd rfl h0
  · exact ⟨g, cap, cur, e, hg⟩
/-- rows of two kinds lie in two blocks -/
theorem own2_ne {β : Type} {enc' : β → List Value} {T' : TypeId} {B' : Nat} {v' : Value} {l' : List β} (h : Own2 enc T W B v l) (h' : Own2 enc' T' W B' v' l') (hT : T ≠ T') : v.ownBlock = none ∨ v.ownBlock ≠ v'.ownBlock := by
  by_cases h0 : v.ownBlock = none
  · exact .inl h0
  · refine .inr fun e => ?_
    obtain ⟨g, cap, cur, rfl, hg⟩ := h.heap h0
    obtain ⟨g', cap', cur', rfl, hg'⟩ := h'.heap (by rw [← e]; exact h0)
    simp only [Value.ownBlock, Option.some.injEq] at e
    subst e
    rw [hg] at hg'
    injection hg' with e
    injection e with e1 e2 e3
    exact hT e2
end
/-! append, one step of a walk or of a region -/
theorem run_app2 {α : Type} (enc : α → List Value) (he : ∀ x, (enc x).length = 2) (h1c : ∀ x, ∀ u ∈ enc x, u.oneCell' = true) (S T : TypeId) (z : Value) (by_ : Nat) (hS : Tryz.prog.underlying S = some (.slice T)) (hT : (Tryz.prog.info? T).map (fun i => (i.zero, i.size, i.bytes)) = some (some z, 2, by_)) (hz : z.cells.size = 2) (hby : by_ ≤ 48)
    {W : World} {B : Nat} {v : Value} {l m : List α} {A : Option Addr} {c : Nat} (h : Own2 enc T W B v l) (hs : At2 enc W A m) (hn : l.length + m.length ≤ 1099511627776) (hB : B ≤ W.heap.size) :
    ∃ v' W', (Builtin.append_ #[S, S] S #[v, .slice A m.length c]).run Tryz.prog W = .ok v' W' ∧ Own2 enc T W' B v' (l ++ m) ∧ W.grownBy W' v.ownBlock ∧ (v'.ownBlock = v.ownBlock ∨ v'.ownBlock = some W.heap.size) := by
  obtain ⟨i0, hi, hz0, hz1, hz2⟩ := info_parts hT
  cases A with
  | none =>
    have h0 : m = [] := by
      rcases Nat.eq_zero_or_pos m.length with e | e
      · exact List.eq_nil_of_length_eq_zero e
      · obtain ⟨b, o, e, _⟩ := hs e; cases e
    subst h0
    refine ⟨v, W, ?_, by rw [List.append_nil]; exact h, World.grownBy.refl W _, .inl rfl⟩
    rcases h.2 with ⟨rfl, _⟩ | ⟨g, cap, cur, rfl, _, _, hnc, _⟩
    · simp [Builtin.append_, run_underlying hS, sizeOf, typeInfo, hi, Builtin.lenOf, Builtin.firstCells]
    · simp [Builtin.append_, run_underlying hS, sizeOf, typeInfo, hi, Builtin.lenOf, Builtin.firstCells, hnc, storeCells]
  | some a =>
    have hcells : ∀ j u, (m.flatMap enc)[j]? = some u → W.cell? (a.add j) = some u := by
      intro j u hu
      have hj : j < m.length * 2 := by have := (List.getElem?_eq_some_iff.1 hu).1; rwa [flat2_len enc he] at this
      obtain ⟨b, o, e, hc⟩ := hs (by omega)
      injection e with e
      subst e
      have hadd : (⟨b, o, none⟩ : Addr).add j = ⟨b, o + j, none⟩ := by unfold Addr.add; split <;> simp_all
      rw [hadd]
      have hi : j / 2 < m.length := by omega
      have hx := List.getElem?_eq_getElem hi
      obtain ⟨g1, g2⟩ := flat2_get enc he m _ _ hx
      obtain ⟨p, q, hpq⟩ : ∃ p q, enc m[j / 2] = [p, q] := by
        have := he m[j / 2]
        match h : enc m[j / 2], this with
        | [p, q], _ => exact ⟨p, q, rfl⟩
      obtain ⟨c1, c2⟩ := hc _ _ hx p q hpq
      rw [hpq] at g1 g2
      rcases Nat.mod_two_eq_zero_or_one j with e | e
      · have e2 : j / 2 * 2 = j := by omega
        rw [e2] at c1 g1
        rw [hu] at g1
        cases g1; exact c1
      · have e2 : j / 2 * 2 + 1 = j := by omega
        rw [Nat.add_assoc, e2] at c2
        rw [e2] at g2
        rw [hu] at g2
        cases g2; exact c2
    obtain ⟨v', w', hr, h2, h3, _, h5⟩ := run_append_own_at (P := Tryz.prog) W B S S T i0 z 2 by_ hS hi hz0 hz1 hz2 hz (by omega) v l.length _ h a m.length c (m.flatMap enc) (flat2_len enc he m) hcells (fun u hu => by
      obtain ⟨x, -, hx⟩ := List.mem_flatMap.1 hu
      exact h1c x u hx) (by unfold maxLen; omega) (by
        have : (l.length + m.length) * by_ ≤ 1099511627776 * 48 := Nat.mul_le_mul hn hby
        omega) hB
    refine ⟨v', w', hr, ?_, h3, h5⟩
    unfold Own2
    rw [List.flatMap_append, List.length_append]
    exact h2
theorem smp_info : (Tryz.prog.info? 60).map (fun i => (i.zero, i.size, i.bytes)) = some (some (.agg #[.int .i64 0, .float .f64 0]), 2, 16) := by kernel_rfl
theorem ser_info : (Tryz.prog.info? 87).map (fun i => (i.zero, i.size, i.bytes)) = some (some (.agg #[.slice none 0 0, .slice none 0 0]), 2, 48) := by kernel_rfl
/-- samples of the call's own -/
abbrev OwnP (W : World) (B : Nat) (v : Value) (l : List Sm) : Prop := Own2 encP 60 W B v l
/-- a row of series of the call's own, as cells -/
abbrev OwnC (W : World) (B : Nat) (v : Value) (l : List Sc) : Prop := Own2 encS 87 W B v l
theorem run_appP {W : World} {B : Nat} {v : Value} {l m : List Sm} {A : Option Addr} {c : Nat} (h : OwnP W B v l) (hs : At2 encP W A m) (hn : l.length + m.length ≤ 1099511627776) (hB : B ≤ W.heap.size) :
    ∃ v' W', (Builtin.append_ #[45, 45] 45 #[v, .slice A m.length c]).run Tryz.prog W = .ok v' W' ∧ OwnP W' B v' (l ++ m) ∧ W.grownBy W' v.ownBlock ∧ (v'.ownBlock = v.ownBlock ∨ v'.ownBlock = some W.heap.size) :=
  run_app2 encP (fun _ => rfl) (fun x u hu => by simp [encP] at hu; rcases hu with rfl | rfl <;> rfl) _ _ _ 16 Tryz.underlying45 smp_info rfl (by omega) h hs hn hB
theorem run_appC {W : World} {B : Nat} {v : Value} {l m : List Sc} {A : Option Addr} {c : Nat} (h : OwnC W B v l) (hs : At2 encS W A m) (hn : l.length + m.length ≤ 1099511627776) (hB : B ≤ W.heap.size) :
    ∃ v' W', (Builtin.append_ #[88, 88] 88 #[v, .slice A m.length c]).run Tryz.prog W = .ok v' W' ∧ OwnC W' B v' (l ++ m) ∧ W.grownBy W' v.ownBlock ∧ (v'.ownBlock = v.ownBlock ∨ v'.ownBlock = some W.heap.size) :=
  run_app2 encS (fun _ => rfl) (fun x u hu => by simp [encS, Sl.v] at hu; rcases hu with rfl | rfl <;> rfl) _ _ _ 48 Tryz.underlying88 ser_info rfl (by omega) h hs hn hB
/-- an append's law, as a step of a walk -/
theorem wp_app2 {P : Program} {S : TypeId} {o : Oper} {a : Act} {W : World} {K : Act → World → Prop} {Q : Exit → Act → World → Prop} (s x : Operand)
    (ho : o.op = .call { callee := .builtin .append, args := #[s, x], argTypes := #[S, S] }) (hty : o.type = S) {v x' : Value} (hs : a.eval s = v) (hx : a.eval x = x') {R : Value → World → Prop}
    (hr : ∃ v' W', (Builtin.append_ #[S, S] S #[v, x']).run P W = .ok v' W' ∧ R v' W')
    (h : ∀ v' W', R v' W' → K (a.put o.dst v') W') : o.wp P a W K Q := by
  obtain ⟨v', W', hr, h1⟩ := hr
  unfold Oper.wp execOp
  simp only [ho, hty, resolve, invoke, builtin, Sem.run_bind, Sem.run_pure, Result.andThen_ok, List.map_toArray, List.map_cons, List.map_nil, hs, hx, hr]
  exact h v' W' h1
theorem wpList_app2 {P : Program} {S : TypeId} {ops : Array Oper} {rest : List Oper} {o : Oper} {a : Act} {W : World} {Q : Exit → Act → World → Prop} (hgd : o.guard = none) (s x : Operand)
    (ho : o.op = .call { callee := .builtin .append, args := #[s, x], argTypes := #[S, S] }) (hty : o.type = S) {v x' : Value} (hs : a.eval s = v) (hx : a.eval x = x') {R : Value → World → Prop}
    (hr : ∃ v' W', (Builtin.append_ #[S, S] S #[v, x']).run P W = .ok v' W' ∧ R v' W')
    (h : ∀ v' W', R v' W' → wpList P ops Q rest (a.put o.dst v') W') : wpList P ops Q (o :: rest) a W :=
  wpList_plain hgd fun _ hK => wp_app2 s x ho hty hs hx hr fun v' W' h1 => hK _ _ (h v' W' h1)
theorem step_app2 {P : Program} {S : TypeId} {ops : Array Oper} {o : Oper} {a : Act} {W : World} {K : Act → World → Prop} {Q : Exit → Act → World → Prop} {E : Prop} (hgd : o.guard = none) (s x : Operand)
    (ho : o.op = .call { callee := .builtin .append, args := #[s, x], argTypes := #[S, S] }) (hty : o.type = S) {v x' : Value} (hs : a.eval s = v) (hx : a.eval x = x') {R : Value → World → Prop}
    (hr : ∃ v' W', (Builtin.append_ #[S, S] S #[v, x']).run P W = .ok v' W' ∧ R v' W')
    (h : ∀ v' W', R v' W' → K (a.put o.dst v') W') :
    if Region.wanted o (yielded ops a.tmps) = true then Oper.wp P o a W K Q else E := by
  have hw : Region.wanted o (yielded ops a.tmps) = true := by simp [Region.wanted, hgd]
  rw [if_pos hw]
  exact wp_app2 s x ho hty hs hx hr h
/-- a new block of one element -/
theorem at2_one {α : Type} {enc : α → List Value} (W : World) (x : α) (u v : Value) (hx : enc x = [u, v]) (t : TypeId) : At2 enc (W.alloc (.cells #[u, v] t)) (some ⟨W.heap.size, 0, none⟩) [x] := fun _ => ⟨W.heap.size, 0, rfl, fun i y hy u' v' hu => by
    match i, hy with
    | 0, hy =>
      obtain rfl : x = y := by simpa using hy
      rw [hx] at hu
      injection hu with h1 h2
      injection h2 with h2
      subst h1; subst h2
      refine ⟨?_, ?_⟩ <;> go_simp⟩
theorem at2_cells {α : Type} {enc : α → List Value} {W : World} {g : Nat} {x : α} {u v : Value} (hx : enc x = [u, v]) (h1 : W.cell? ⟨g, 0, none⟩ = some u) (h2 : W.cell? ⟨g, 1, none⟩ = some v) : At2 enc W (some ⟨g, 0, none⟩) [x] := fun _ => ⟨g, 0, rfl, fun i y hy u' v' hu => by
    match i, hy with
    | 0, hy =>
      obtain rfl : x = y := by simpa using hy
      rw [hx] at hu
      injection hu with e1 e2
      injection e2 with e2
      subst e1; subst e2
      exact ⟨h1, h2⟩⟩
end Go.Proofs.YtoooaipbkkiefaaGreatDoor
