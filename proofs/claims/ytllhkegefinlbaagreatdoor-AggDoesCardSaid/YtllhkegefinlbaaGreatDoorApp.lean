/- append onto rows of labels of the call's own. -/
import Derived.Test.YtllhkegefinlbaaGreatDoorSet
import Derived.Deep.RegionHeld3
import Derived.Deep.RegionLaw
import Derived.Deep.AppendLies
import Derived.Deep.DrawnRows
import Derived.Maps.AppendAt
import Derived.OwnWalk
namespace Go.Proofs.YtllhkegefinlbaaGreatDoor
open Go.RowKit Go.Sort
set_option maxRecDepth 100000
set_option maxHeartbeats 2000000

/-- a slice of the call's own (nil, or the head of a block of its own) that reads as l -/
def Own (W : World) (B : Nat) (v : Value) (l : List Lb) : Prop := W.ownsRow B 42 2 v l.length (l.flatMap encL)
theorem Own.nil (W : World) (B : Nat) : Own W B (.slice none 0 0) [] := World.ownsRow_nil _ _ _ _
theorem Own.form {W : World} {B : Nat} {v : Value} {l : List Lb} (h : Own W B v l) : ∃ A c, v = .slice A l.length c ∧ LabsAt W A l ∧ l.length ≤ c ∧ c ≤ maxLen := by
  by_cases h0 : l.length = 0
  · rcases h.2 with ⟨e, _⟩ | ⟨g, cap, cur, e, _, _, h1, h2, _⟩
    · exact ⟨none, 0, by rw [e, h0], fun hh => absurd hh (by omega), by omega, by unfold maxLen; omega⟩
    · exact ⟨some ⟨g, 0, none⟩, cap, e, fun hh => absurd hh (by omega), h1, h2⟩
  · obtain ⟨g, c, e, _, h1, h2, _, hR⟩ := row_of_own h (by omega)
    exact ⟨_, c, e, hR.labs, h1, h2⟩
theorem Own.drew {W : World} {B : Nat} {v : Value} {l : List Lb} (h : Own W B v l) : Own W.drew B v l := h
theorem Own.drewN {W : World} {B : Nat} {v : Value} {l : List Lb} (h : Own W B v l) (n : Nat) : Own (W.drewN n) B v l := h
theorem Own.alloc {W : World} {B : Nat} {v : Value} {l : List Lb} (h : Own W B v l) (o : Obj) : Own (W.alloc o) B v l := World.ownsRow.alloc h o
theorem Own.gr {W W' : World} {B : Nat} {v : Value} {l : List Lb} (h : Own W B v l) (g : Gr W W') : Own W' B v l :=
  World.ownsRow.kept h (row := none) ⟨g.b.os, g.b.tape, g.b.output, g.b.size, fun k hk _ => g.b.block k hk⟩ (by cases v.ownBlock <;> simp)
/-- where its block lies -/
theorem Own.lt {W : World} {B : Nat} {v : Value} {l : List Lb} (h : Own W B v l) {k : Nat} (hk : v.ownBlock = some k) : B ≤ k ∧ k < W.heap.size := World.ownsRow.lt h k hk

theorem flat_app (a b : List Lb) : (a ++ b).flatMap encL = a.flatMap encL ++ b.flatMap encL := List.flatMap_append
/-- append, its source a list that reads so (nil and empty ones too) -/
theorem run_app {W : World} {B : Nat} {v : Value} {l m : List Lb} {A : Option Addr} {c : Nat} (h : Own W B v l) (hs : LabsAt W A m) (hn : l.length + m.length ≤ 1099511627776) (hB : B ≤ W.heap.size) :
    ∃ v' W', (Builtin.append_ #[43, 43] 43 #[v, .slice A m.length c]).run Tryz.prog W = .ok v' W' ∧ Own W' B v' (l ++ m) ∧ W.grownBy W' v.ownBlock ∧ (v'.ownBlock = v.ownBlock ∨ v'.ownBlock = some W.heap.size) := by
  obtain ⟨i0, hi, hz0, hz1, hz2⟩ := info_parts lab_info
  cases A with
  | none =>
    have h0 : m = [] := by
      rcases Nat.eq_zero_or_pos m.length with e | e
      · exact List.eq_nil_of_length_eq_zero e
      · obtain ⟨b, o, e, _⟩ := hs e; cases e
    subst h0
    refine ⟨v, W, ?_, by rw [List.append_nil]; exact h, World.grownBy.refl W _, .inl rfl⟩
    rcases h.2 with ⟨rfl, _⟩ | ⟨g, cap, cur, rfl, _, _, hnc, _⟩
    · simp [Builtin.append_, run_underlying Tryz.underlying43, sizeOf, typeInfo, hi, Builtin.lenOf, Builtin.firstCells]
    · simp [Builtin.append_, run_underlying Tryz.underlying43, sizeOf, typeInfo, hi, Builtin.lenOf, Builtin.firstCells, hnc, storeCells]
  | some a =>
    have hcells : ∀ j u, (m.flatMap encL)[j]? = some u → W.cell? (a.add j) = some u := by
      intro j u hu
      have hj : j < m.length * 2 := by have := (List.getElem?_eq_some_iff.1 hu).1; rwa [flat_len] at this
      obtain ⟨b, o, e, hc⟩ := hs (by omega)
      injection e with e
      subst e
      have hadd : (⟨b, o, none⟩ : Addr).add j = ⟨b, o + j, none⟩ := by unfold Addr.add; split <;> simp_all
      rw [hadd]; exact flat_at hs j u hu
    obtain ⟨v', w', hr, h2, h3, _, h5⟩ := run_append_own_at (P := Tryz.prog) W B 43 43 42 i0 (.agg #[.string ⟨#[]⟩, .string ⟨#[]⟩]) 2 32 Tryz.underlying43 hi hz0 hz1 hz2 rfl (by omega) v l.length _ h a m.length c (m.flatMap encL) (flat_len m) hcells (flat_one m) (by unfold maxLen; omega) (by omega) hB
    refine ⟨v', w', hr, ?_, h3, h5⟩
    unfold Own
    rw [flat_app, List.length_append]
    exact h2

theorem LabsAt.take {W : World} {A : Option Addr} {l : List Lb} (h : LabsAt W A l) (k : Nat) : LabsAt W A (l.take k) := fun h0 => by
  obtain ⟨b, o, e, hc⟩ := h (by have : (l.take k).length ≤ l.length := List.length_take_le' ..; omega)
  refine ⟨b, o, e, fun i x hx => hc i x ?_⟩
  rw [List.getElem?_take] at hx
  split at hx
  · exact hx
  · cases hx
/-- a slice value that reads as a list -/
def Reads (W : World) (v : Value) (l : List Lb) : Prop := ∃ A c, v = .slice A l.length c ∧ LabsAt W A l ∧ l.length ≤ c ∧ c ≤ maxLen
theorem Own.reads {W : World} {B : Nat} {v : Value} {l : List Lb} (h : Own W B v l) : Reads W v l := h.form
theorem Reads.gr {W W' : World} {v : Value} {l : List Lb} (h : Reads W v l) (g : Gr W W') : Reads W' v l := by
  obtain ⟨A, c, e, hl, h1, h2⟩ := h; exact ⟨A, c, e, hl.gr g, h1, h2⟩
theorem wp_app {P : Program} (hP : P = Tryz.prog) {o : Oper} {a : Act} {W : World} {K : Act → World → Prop} {Q : Exit → Act → World → Prop} (s x : Operand)
    (ho : o.op = .call { callee := .builtin .append, args := #[s, x], argTypes := #[43, 43] }) (hty : o.type = 43)
    {B : Nat} {l m : List Lb} (hs : Own W B (a.eval s) l) (hx : Reads W (a.eval x) m) (hn : l.length + m.length ≤ 1099511627776) (hB : B ≤ W.heap.size)
    (h : ∀ v' W', Own W' B v' (l ++ m) → Below B W W' → W.grownBy W' (a.eval s).ownBlock → (v'.ownBlock = (a.eval s).ownBlock ∨ v'.ownBlock = some W.heap.size) → K (a.put o.dst v') W') : o.wp P a W K Q := by
  subst hP
  obtain ⟨A, c, ex, hl, -, -⟩ := hx
  obtain ⟨v', W', hr, h1, h2, h3⟩ := run_app (c := c) hs hl hn hB
  unfold Oper.wp execOp
  simp only [ho, hty, resolve, invoke, builtin, Sem.run_bind, Sem.run_pure, Result.andThen_ok, List.map_toArray, List.map_cons, List.map_nil, ex, hr]
  exact h v' W' h1 ((Below.refl B W).grown h2 hB fun k hk => (hs.lt hk).1) h2 h3
theorem wpList_app {P : Program} (hP : P = Tryz.prog) {ops : Array Oper} {rest : List Oper} {o : Oper} {a : Act} {W : World} {Q : Exit → Act → World → Prop} (hgd : o.guard = none) (s x : Operand)
    (ho : o.op = .call { callee := .builtin .append, args := #[s, x], argTypes := #[43, 43] }) (hty : o.type = 43)
    {B : Nat} {l m : List Lb} (hs : Own W B (a.eval s) l) (hx : Reads W (a.eval x) m) (hn : l.length + m.length ≤ 1099511627776) (hB : B ≤ W.heap.size)
    (h : ∀ v' W', Own W' B v' (l ++ m) → Below B W W' → W.grownBy W' (a.eval s).ownBlock → (v'.ownBlock = (a.eval s).ownBlock ∨ v'.ownBlock = some W.heap.size) → wpList P ops Q rest (a.put o.dst v') W') : wpList P ops Q (o :: rest) a W :=
  wpList_plain hgd fun _ hK => wp_app hP s x ho hty hs hx hn hB fun v' W' h1 hb h2 h3 => hK _ _ (h v' W' h1 hb h2 h3)
theorem step_app {P : Program} (hP : P = Tryz.prog) {ops : Array Oper} {o : Oper} {a : Act} {W : World} {K : Act → World → Prop} {Q : Exit → Act → World → Prop} {E : Prop} (hgd : o.guard = none) (s x : Operand)
    (ho : o.op = .call { callee := .builtin .append, args := #[s, x], argTypes := #[43, 43] }) (hty : o.type = 43)
    {B : Nat} {l m : List Lb} (hs : Own W B (a.eval s) l) (hx : Reads W (a.eval x) m) (hn : l.length + m.length ≤ 1099511627776) (hB : B ≤ W.heap.size)
    (h : ∀ v' W', Own W' B v' (l ++ m) → Below B W W' → W.grownBy W' (a.eval s).ownBlock → (v'.ownBlock = (a.eval s).ownBlock ∨ v'.ownBlock = some W.heap.size) → K (a.put o.dst v') W') :
    if Region.wanted o (yielded ops a.tmps) = true then Oper.wp P o a W K Q else E := by
  have hw : Region.wanted o (yielded ops a.tmps) = true := by simp [Region.wanted, hgd]
  rw [if_pos hw]
  exact wp_app hP s x ho hty hs hx hn hB h
/-- a new block of no element; of one -/
theorem own_new (W : World) (B : Nat) (hB : B ≤ W.heap.size) : Own (W.alloc (.cells #[] 42)) B (.slice (some ⟨W.heap.size, 0, none⟩) 0 0) [] :=
  World.ownsRow_made W #[] 0 hB (Nat.zero_le _) (by simp)
theorem own_new_behind (W : World) (B : Nat) (hB : B ≤ W.heap.size) (o : Obj) : Own ((W.alloc o).alloc (.cells #[] 42)) B (.slice (some ⟨W.heap.size + 1, 0, none⟩) 0 0) [] := by
  have h := own_new (W.alloc o) B (by simp; omega)
  rwa [show (W.alloc o).heap.size = W.heap.size + 1 by simp] at h
theorem Gr.below {w a b : World} {B : Nat} (h : Gr w a) (g : Below B a b) (hB : w.heap.size ≤ B) : Gr w b := ⟨h.b.trans (g.mono hB)⟩
theorem reads_new (W : World) (x : Lb) : Reads (W.alloc (.cells #[.string x.1, .string x.2] 42)) (.slice (some ⟨W.heap.size, 0, none⟩) 1 1) [x] :=
  ⟨_, 1, rfl, fun _ => ⟨W.heap.size, 0, rfl, fun i y hy => by
    match i, hy with
    | 0, hy =>
      obtain rfl : x = y := by simpa using hy
      refine ⟨?_, ?_⟩ <;> go_simp⟩, Nat.le_refl _, by unfold maxLen; omega⟩
theorem reads_one (W : World) (g : Nat) (x : Lb) (h1 : W.cell? ⟨g, 0, none⟩ = some (.string x.1)) (h2 : W.cell? ⟨g, 1, none⟩ = some (.string x.2)) : Reads W (.slice (some ⟨g, 0, none⟩) 1 1) [x] :=
  ⟨_, 1, rfl, fun _ => ⟨g, 0, rfl, fun i y hy => by
    match i, hy with
    | 0, hy =>
      obtain rfl : x = y := by simpa using hy
      exact ⟨h1, h2⟩⟩, Nat.le_refl _, by unfold maxLen; omega⟩
theorem reads_take {W : World} {A : Option Addr} {l : List Lb} {c k : Nat} (h : LabsAt W A l) (hk : k ≤ l.length) (hc : l.length ≤ c) (hm : c ≤ maxLen) : Reads W (.slice A k c) (l.take k) := by
  have e : (l.take k).length = k := by simp; omega
  exact ⟨A, c, by rw [e], h.take k, by omega, hm⟩
theorem reads_drop {W : World} {A : Option Addr} {l : List Lb} {c k : Nat} (h : LabsAt W A l) (hk : k ≤ l.length) (hc : l.length ≤ c) (hm : c ≤ maxLen) : Reads W (.slice (if c = k then A else A.map (·.add (k * 2))) (l.length - k) (c - k)) (l.drop k) := by
  have e : (l.drop k).length = l.length - k := by simp
  refine ⟨_, c - k, by rw [e], fun h0 => ?_, by omega, by omega⟩
  rw [if_neg (by omega)]
  obtain ⟨b, o, rfl, hc⟩ := h (by omega)
  refine ⟨b, o + k * 2, by simp only [Option.map_some]; unfold Addr.add; split <;> simp_all, fun i x hx => ?_⟩
  rw [List.getElem?_drop] at hx
  obtain ⟨h1, h2⟩ := hc _ _ hx
  rw [show o + k * 2 + i * 2 = o + (k + i) * 2 by omega]
  exact ⟨h1, h2⟩
theorem LabsAt.only {W W' : World} {A : Option Addr} {l : List Lb} {row : Option Nat} (h : LabsAt W A l) (g : W.grownBy W' row) (hne : ∀ b o, A = some ⟨b, o, none⟩ → some b ≠ row) : LabsAt W' A l := fun h0 => by
  obtain ⟨b, o, e, hc⟩ := h h0
  exact ⟨b, o, e, fun i x hx => ⟨g.cell (hc i x hx).1 (hne b o e), g.cell (hc i x hx).2 (hne b o e)⟩⟩
theorem Reads.below {W W' : World} {B : Nat} {v : Value} {l : List Lb} (h : Reads W v l) (hb : Below B W W') (hv : ∀ k, v.ownBlock = some k → k < B) : Reads W' v l := by
  obtain ⟨A, c, rfl, hl, h1, h2⟩ := h
  refine ⟨A, c, rfl, fun h0 => ?_, h1, h2⟩
  obtain ⟨b, o, rfl, hc⟩ := hl h0
  have hlt : b < B := hv b rfl
  exact ⟨b, o, rfl, fun i x hx => ⟨(hb.cell (p := ⟨b, _, none⟩) hlt).trans (hc i x hx).1, (hb.cell (p := ⟨b, _, none⟩) hlt).trans (hc i x hx).2⟩⟩
theorem Own.mono {W : World} {B B' : Nat} {v : Value} {l : List Lb} (h : Own W B v l) (hB : B' ≤ B) : Own W B' v l := by
  refine ⟨h.1, ?_⟩
  rcases h.2 with hn | ⟨g, cap, cur, e, hb, r⟩
  · exact .inl hn
  · exact .inr ⟨g, cap, cur, e, by omega, r⟩
end Go.Proofs.YtllhkegefinlbaaGreatDoor
