/- append onto rows of matchers of the call's own. -/
import Derived.Test.YtnlfndhgdeapeaaMHold
import Derived.Deep.RegionLaw
import Derived.Deep.AppendLies
import Derived.Deep.DrawnRows
import Derived.Maps.AppendAt
import Derived.OwnWalk
namespace Go.Proofs.Ytnlfndhgdeapeaa
open Go.RowKit Go.Sort
set_option maxRecDepth 100000
set_option maxHeartbeats 2000000

/-- a slice of the call's own (nil, or the head of a block of its own) that reads as l -/
def OwnM (W : World) (B : Nat) (v : Value) (l : List Mt) : Prop := W.ownsRow B 33 3 v l.length (l.flatMap encM)
theorem OwnM.nil (W : World) (B : Nat) : OwnM W B (.slice none 0 0) [] := World.ownsRow_nil _ _ _ _
theorem OwnM.form {W : World} {B : Nat} {v : Value} {l : List Mt} (h : OwnM W B v l) : ∃ A c, v = .slice A l.length c ∧ MatsAt W A l ∧ l.length ≤ c ∧ c ≤ maxLen := by
  by_cases h0 : l.length = 0
  · rcases h.2 with ⟨e, _⟩ | ⟨g, cap, cur, e, _, _, h1, h2, _⟩
    · exact ⟨none, 0, by rw [e, h0], fun hh => absurd hh (by omega), by omega, by unfold maxLen; omega⟩
    · exact ⟨some ⟨g, 0, none⟩, cap, e, fun hh => absurd hh (by omega), h1, h2⟩
  · obtain ⟨g, c, e, _, h1, h2, hR⟩ := mats_of_own h (by omega)
    exact ⟨_, c, e, hR, h1, h2⟩
theorem OwnM.drew {W : World} {B : Nat} {v : Value} {l : List Mt} (h : OwnM W B v l) : OwnM W.drew B v l := h
theorem OwnM.drewN {W : World} {B : Nat} {v : Value} {l : List Mt} (h : OwnM W B v l) (n : Nat) : OwnM (W.drewN n) B v l := h
theorem OwnM.alloc {W : World} {B : Nat} {v : Value} {l : List Mt} (h : OwnM W B v l) (o : Obj) : OwnM (W.alloc o) B v l := World.ownsRow.alloc h o
theorem OwnM.gr {W W' : World} {B : Nat} {v : Value} {l : List Mt} (h : OwnM W B v l) (g : Gr W W') : OwnM W' B v l :=
  World.ownsRow.kept h (row := none) ⟨g.b.os, g.b.tape, g.b.output, g.b.size, fun k hk _ => g.b.block k hk⟩ (by cases v.ownBlock <;> simp)
/-- where its block lies -/
theorem OwnM.lt {W : World} {B : Nat} {v : Value} {l : List Mt} (h : OwnM W B v l) {k : Nat} (hk : v.ownBlock = some k) : B ≤ k ∧ k < W.heap.size := World.ownsRow.lt h k hk

theorem mflat_app (a b : List Mt) : (a ++ b).flatMap encM = a.flatMap encM ++ b.flatMap encM := List.flatMap_append
/-- append, its source a list that reads so (nil and empty ones too) -/
theorem mrun_app {W : World} {B : Nat} {v : Value} {l m : List Mt} {A : Option Addr} {c : Nat} (h : OwnM W B v l) (hs : MatsAt W A m) (hn : l.length + m.length ≤ 1099511627776) (hB : B ≤ W.heap.size) :
    ∃ v' W', (Builtin.append_ #[35, 35] 35 #[v, .slice A m.length c]).run Try.prog W = .ok v' W' ∧ OwnM W' B v' (l ++ m) ∧ W.grownBy W' v.ownBlock ∧ (v'.ownBlock = v.ownBlock ∨ v'.ownBlock = some W.heap.size) := by
  obtain ⟨i0, hi, hz0, hz1, hz2⟩ := info_parts mat_info
  cases A with
  | none =>
    have h0 : m = [] := by
      rcases Nat.eq_zero_or_pos m.length with e | e
      · exact List.eq_nil_of_length_eq_zero e
      · obtain ⟨b, o, e, _⟩ := hs e; cases e
    subst h0
    refine ⟨v, W, ?_, by rw [List.append_nil]; exact h, World.grownBy.refl W _, .inl rfl⟩
    rcases h.2 with ⟨rfl, _⟩ | ⟨g, cap, cur, rfl, _, _, hnc, _⟩
    · simp [Builtin.append_, run_underlying Try.underlying35, sizeOf, typeInfo, hi, Builtin.lenOf, Builtin.firstCells]
    · simp [Builtin.append_, run_underlying Try.underlying35, sizeOf, typeInfo, hi, Builtin.lenOf, Builtin.firstCells, hnc, storeCells]
  | some a =>
    have hcells : ∀ j u, (m.flatMap encM)[j]? = some u → W.cell? (a.add j) = some u := by
      intro j u hu
      have hj : j < m.length * 3 := by have := (List.getElem?_eq_some_iff.1 hu).1; rwa [mflat_len] at this
      obtain ⟨b, o, e, hc⟩ := hs (by omega)
      injection e with e
      subst e
      have hadd : (⟨b, o, none⟩ : Addr).add j = ⟨b, o + j, none⟩ := by unfold Addr.add; split <;> simp_all
      rw [hadd]; exact mflat_at hs j u hu
    obtain ⟨v', w', hr, h2, h3, _, h5⟩ := run_append_own_at (P := Try.prog) W B 35 35 33 i0 (.agg #[.int .i64 0, .string ⟨#[]⟩, .string ⟨#[]⟩]) 3 40 Try.underlying35 hi hz0 hz1 hz2 rfl (by omega) v l.length _ h a m.length c (m.flatMap encM) (mflat_len m) hcells (fun u hu => List.all_eq_true.1 (mflat_one m) u hu) (by unfold maxLen; omega) (by omega) hB
    refine ⟨v', w', hr, ?_, h3, h5⟩
    unfold OwnM
    rw [mflat_app, List.length_append]
    exact h2

/-- a slice value that reads as a list -/
def ReadsM (W : World) (v : Value) (l : List Mt) : Prop := ∃ A c, v = .slice A l.length c ∧ MatsAt W A l ∧ l.length ≤ c ∧ c ≤ maxLen
theorem OwnM.reads {W : World} {B : Nat} {v : Value} {l : List Mt} (h : OwnM W B v l) : ReadsM W v l := h.form
theorem ReadsM.gr {W W' : World} {v : Value} {l : List Mt} (h : ReadsM W v l) (g : Gr W W') : ReadsM W' v l := by
  obtain ⟨A, c, e, hl, h1, h2⟩ := h; exact ⟨A, c, e, hl.gr g, h1, h2⟩
theorem mwp_app {P : Program} (hP : P = Try.prog) {o : Oper} {a : Act} {W : World} {K : Act → World → Prop} {Q : Exit → Act → World → Prop} (s x : Operand)
    (ho : o.op = .call { callee := .builtin .append, args := #[s, x], argTypes := #[35, 35] }) (hty : o.type = 35)
    {B : Nat} {l m : List Mt} (hs : OwnM W B (a.eval s) l) (hx : ReadsM W (a.eval x) m) (hn : l.length + m.length ≤ 1099511627776) (hB : B ≤ W.heap.size)
    (h : ∀ v' W', OwnM W' B v' (l ++ m) → Below B W W' → W.grownBy W' (a.eval s).ownBlock → (v'.ownBlock = (a.eval s).ownBlock ∨ v'.ownBlock = some W.heap.size) → K (a.put o.dst v') W') : o.wp P a W K Q := by
  subst hP
  obtain ⟨A, c, ex, hl, -, -⟩ := hx
  obtain ⟨v', W', hr, h1, h2, h3⟩ := mrun_app (c := c) hs hl hn hB
  unfold Oper.wp execOp
  simp only [ho, hty, resolve, invoke, builtin, Sem.run_bind, Sem.run_pure, Result.andThen_ok, List.map_toArray, List.map_cons, List.map_nil, ex, hr]
  exact h v' W' h1 ((Below.refl B W).grown h2 hB fun k hk => (hs.lt hk).1) h2 h3
theorem mwpList_app {P : Program} (hP : P = Try.prog) {ops : Array Oper} {rest : List Oper} {o : Oper} {a : Act} {W : World} {Q : Exit → Act → World → Prop} (hgd : o.guard = none) (s x : Operand)
    (ho : o.op = .call { callee := .builtin .append, args := #[s, x], argTypes := #[35, 35] }) (hty : o.type = 35)
    {B : Nat} {l m : List Mt} (hs : OwnM W B (a.eval s) l) (hx : ReadsM W (a.eval x) m) (hn : l.length + m.length ≤ 1099511627776) (hB : B ≤ W.heap.size)
    (h : ∀ v' W', OwnM W' B v' (l ++ m) → Below B W W' → W.grownBy W' (a.eval s).ownBlock → (v'.ownBlock = (a.eval s).ownBlock ∨ v'.ownBlock = some W.heap.size) → wpList P ops Q rest (a.put o.dst v') W') : wpList P ops Q (o :: rest) a W :=
  wpList_plain hgd fun _ hK => mwp_app hP s x ho hty hs hx hn hB fun v' W' h1 hb h2 h3 => hK _ _ (h v' W' h1 hb h2 h3)
theorem mstep_app {P : Program} (hP : P = Try.prog) {ops : Array Oper} {o : Oper} {a : Act} {W : World} {K : Act → World → Prop} {Q : Exit → Act → World → Prop} {E : Prop} (hgd : o.guard = none) (s x : Operand)
    (ho : o.op = .call { callee := .builtin .append, args := #[s, x], argTypes := #[35, 35] }) (hty : o.type = 35)
    {B : Nat} {l m : List Mt} (hs : OwnM W B (a.eval s) l) (hx : ReadsM W (a.eval x) m) (hn : l.length + m.length ≤ 1099511627776) (hB : B ≤ W.heap.size)
    (h : ∀ v' W', OwnM W' B v' (l ++ m) → Below B W W' → W.grownBy W' (a.eval s).ownBlock → (v'.ownBlock = (a.eval s).ownBlock ∨ v'.ownBlock = some W.heap.size) → K (a.put o.dst v') W') :
    if Region.wanted o (yielded ops a.tmps) = true then Oper.wp P o a W K Q else E := by
  have hw : Region.wanted o (yielded ops a.tmps) = true := by simp [Region.wanted, hgd]
  rw [if_pos hw]
  exact mwp_app hP s x ho hty hs hx hn hB h
/-- a new block of no element; of one -/
theorem mown_new (W : World) (B : Nat) (hB : B ≤ W.heap.size) : OwnM (W.alloc (.cells #[] 33)) B (.slice (some ⟨W.heap.size, 0, none⟩) 0 0) [] :=
  World.ownsRow_made W #[] 0 hB (Nat.zero_le _) (by simp)
theorem mown_new_behind (W : World) (B : Nat) (hB : B ≤ W.heap.size) (o : Obj) : OwnM ((W.alloc o).alloc (.cells #[] 33)) B (.slice (some ⟨W.heap.size + 1, 0, none⟩) 0 0) [] := by
  have h := mown_new (W.alloc o) B (by simp; omega)
  rwa [show (W.alloc o).heap.size = W.heap.size + 1 by simp] at h
theorem OwnM.mono {W : World} {B B' : Nat} {v : Value} {l : List Mt} (h : OwnM W B v l) (hB : B' ≤ B) : OwnM W B' v l := by
  refine ⟨h.1, ?_⟩
  rcases h.2 with hn | ⟨g, cap, cur, e, hb, r⟩
  · exact .inl hn
  · exact .inr ⟨g, cap, cur, e, by omega, r⟩
theorem gr_belowM {w a b : World} {B : Nat} (h : Gr w a) (g : Below B a b) (hB : w.heap.size ≤ B) : Gr w b := ⟨h.b.trans (g.mono hB)⟩
theorem readsM_one (W : World) (g : Nat) (x : Mt) (h1 : W.cell? ⟨g, 0, none⟩ = some (.int .i64 x.k)) (h2 : W.cell? ⟨g, 1, none⟩ = some (.string x.n)) (h3 : W.cell? ⟨g, 2, none⟩ = some (.string x.v)) : ReadsM W (.slice (some ⟨g, 0, none⟩) 1 1) [x] :=
  ⟨_, 1, rfl, fun _ => ⟨g, 0, rfl, fun i y hy => by
    match i, hy with
    | 0, hy =>
      obtain rfl : x = y := by simpa using hy
      exact ⟨h1, h2, h3⟩⟩, Nat.le_refl _, by unfold maxLen; omega⟩
theorem readsM_new (W : World) (k : Int) (n v : ByteArray) : ReadsM (W.alloc (.cells #[.int .i64 k, .string n, .string v] 33)) (.slice (some ⟨W.heap.size, 0, none⟩) 1 1) [⟨k, n, v⟩] :=
  readsM_one _ _ ⟨k, n, v⟩ (by go_simp) (by go_simp) (by go_simp)
theorem readsM_two {W : World} {N : Nat} {k : Int} {n v : ByteArray} (h : W.heap[N]? = some (.cells #[.int .i64 k, .string n, .string v, .int .i64 k, .string n, .string v] 33 (0, 0))) : ReadsM W (.slice (some ⟨N, 0, none⟩) 2 2) [⟨k, n, v⟩, ⟨k, n, v⟩] := by
  refine ⟨_, 2, rfl, fun _ => ⟨N, 0, rfl, fun i y hy => ?_⟩, Nat.le_refl _, by unfold maxLen; omega⟩
  match i, hy with
  | 0, hy =>
    obtain rfl : (⟨k, n, v⟩ : Mt) = y := by simpa using hy
    exact ⟨cell_of_row W N 0 _ _ (0, 0) h, cell_of_row W N 1 _ _ (0, 0) h, cell_of_row W N 2 _ _ (0, 0) h⟩
  | 1, hy =>
    obtain rfl : (⟨k, n, v⟩ : Mt) = y := by simpa using hy
    exact ⟨cell_of_row W N 3 _ _ (0, 0) h, cell_of_row W N 4 _ _ (0, 0) h, cell_of_row W N 5 _ _ (0, 0) h⟩
end Go.Proofs.Ytnlfndhgdeapeaa
