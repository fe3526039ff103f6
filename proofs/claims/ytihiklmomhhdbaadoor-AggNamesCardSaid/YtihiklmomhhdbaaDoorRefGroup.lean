/- append onto a row of texts; Group, the reference's. -/
import Derived.Test.YtihiklmomhhdbaaDoorRefWith
namespace Go.Proofs.YtihiklmomhhdbaaDoor
open Go.RowKit Go.Sort
set_option maxRecDepth 100000
set_option maxHeartbeats 4000000

def OwnT (W : World) (B : Nat) (v : Value) (l : List ByteArray) : Prop := W.ownsRow B 9 1 v l.length (l.map Value.string)
theorem str_info : (Tryd.prog.info? 9).map (fun i => (i.zero, i.size, i.bytes)) = some (some (.string ⟨#[]⟩), 1, 16) := by kernel_rfl
theorem OwnT.lt {W : World} {B : Nat} {v : Value} {l : List ByteArray} (h : OwnT W B v l) {k : Nat} (hk : v.ownBlock = some k) : B ≤ k ∧ k < W.heap.size := World.ownsRow.lt h k hk
theorem OwnT.form {W : World} {B : Nat} {v : Value} {l : List ByteArray} (h : OwnT W B v l) : ∃ A c, v = .slice A l.length c ∧ StrsAt W A l := by
  rcases h.2 with ⟨e, h0⟩ | ⟨g, cap, cur, rfl, _, hg, h1, h2, h3, h4⟩
  · exact ⟨none, 0, by rw [e, h0], fun hh => absurd hh (by omega)⟩
  · refine ⟨_, _, rfl, fun _ => ⟨g, 0, rfl, fun i x hx => ?_⟩⟩
    rw [Nat.zero_add]
    have hc := World.ownsRow.cells h rfl i (.string x) (by simp [hx])
    have hadd : (⟨g, 0, none⟩ : Addr).add i = ⟨g, 0 + i, none⟩ := by unfold Addr.add; split <;> simp_all
    rw [hadd, Nat.zero_add] at hc
    exact hc
theorem ownT_one (W : World) (B : Nat) (hB : B ≤ W.heap.size) (x : ByteArray) : OwnT (W.alloc (.cells #[.string x] 9)) B (.slice (some ⟨W.heap.size, 0, none⟩) 1 1) [x] :=
  ⟨rfl, .inr ⟨W.heap.size, 1, _, rfl, hB, heap_alloc_new W _, Nat.le_refl _, by unfold maxLen; omega, rfl, rfl⟩⟩
theorem run_appT {W : World} {B : Nat} {v : Value} {l m : List ByteArray} {A : Option Addr} {c : Nat} (h : OwnT W B v l) (hs : StrsAt W A m) (hn : l.length + m.length ≤ 1099511627776) (hB : B ≤ W.heap.size) :
    ∃ v' W', (Builtin.append_ #[40, 40] 40 #[v, .slice A m.length c]).run Tryd.prog W = .ok v' W' ∧ OwnT W' B v' (l ++ m) ∧ W.grownBy W' v.ownBlock := by
  obtain ⟨i0, hi, hz0, hz1, hz2⟩ := info_parts str_info
  cases A with
  | none =>
    have h0 : m = [] := by
      rcases Nat.eq_zero_or_pos m.length with e | e
      · exact List.eq_nil_of_length_eq_zero e
      · obtain ⟨b, o, e, _⟩ := hs e; cases e
    subst h0
    refine ⟨v, W, ?_, by rw [List.append_nil]; exact h, World.grownBy.refl W _⟩
    rcases h.2 with ⟨rfl, _⟩ | ⟨g, cap, cur, rfl, _, _, hnc, _⟩
    · simp [Builtin.append_, run_underlying Tryd.underlying40, sizeOf, typeInfo, hi, Builtin.lenOf, Builtin.firstCells]
    · simp [Builtin.append_, run_underlying Tryd.underlying40, sizeOf, typeInfo, hi, Builtin.lenOf, Builtin.firstCells, hnc, storeCells]
  | some a =>
    have hcells : ∀ j u, (m.map Value.string)[j]? = some u → W.cell? (a.add j) = some u := by
      intro j u hu
      have hj : j < m.length := by have := (List.getElem?_eq_some_iff.1 hu).1; simpa using this
      obtain ⟨b, o, e, hc⟩ := hs (by omega)
      injection e with e
      subst e
      have hadd : (⟨b, o, none⟩ : Addr).add j = ⟨b, o + j, none⟩ := by unfold Addr.add; split <;> simp_all
      rw [hadd]
      simp only [List.getElem?_map, Option.map_eq_some_iff] at hu
      obtain ⟨x, hx, rfl⟩ := hu
      exact hc j x hx
    obtain ⟨v', w', hr, h2, h3, _, h5⟩ := run_append_own_at (P := Tryd.prog) W B 40 40 9 i0 (.string ⟨#[]⟩) 1 16 Tryd.underlying40 hi hz0 hz1 hz2 rfl (by omega) v l.length _ h a m.length c (m.map Value.string) (by simp) hcells (by intro u hu; simp at hu; obtain ⟨c, -, rfl⟩ := hu; rfl) (by unfold maxLen; omega) (by omega) hB
    refine ⟨v', w', hr, ?_, h3⟩
    unfold OwnT
    rw [List.map_append, List.length_append]
    exact h2
theorem wpList_appT {P : Program} (hP : P = Tryd.prog) {ops : Array Oper} {rest : List Oper} {o : Oper} {a : Act} {W : World} {Q : Exit → Act → World → Prop} (hgd : o.guard = none) (s x : Operand)
    (ho : o.op = .call { callee := .builtin .append, args := #[s, x], argTypes := #[40, 40] }) (hty : o.type = 40)
    {B : Nat} {l m : List ByteArray} {A : Option Addr} {c : Nat} (hs : OwnT W B (a.eval s) l) (ex : a.eval x = .slice A m.length c) (hx : StrsAt W A m) (hn : l.length + m.length ≤ 1099511627776) (hB : B ≤ W.heap.size)
    (h : ∀ v' W', OwnT W' B v' (l ++ m) → Below B W W' → wpList P ops Q rest (a.put o.dst v') W') : wpList P ops Q (o :: rest) a W :=
  wpList_plain hgd fun K hK => by
    subst hP
    obtain ⟨v', W', hr, h1, h2⟩ := run_appT (c := c) hs hx hn hB
    unfold Oper.wp execOp
    simp only [ho, hty, resolve, invoke, builtin, Sem.run_bind, Sem.run_pure, Result.andThen_ok, List.map_toArray, List.map_cons, List.map_nil, ex, hr]
    exact hK _ _ (h v' W' h1 ((Below.refl B W).grown h2 hB fun k hk => (hs.lt hk).1))

end Go.Proofs.YtihiklmomhhdbaaDoor
