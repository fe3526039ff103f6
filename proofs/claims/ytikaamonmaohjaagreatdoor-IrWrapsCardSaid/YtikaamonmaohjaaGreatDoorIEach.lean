/- each: what a function makes of each of a row of plans. -/
import Derived.Test.YtikaamonmaohjaaGreatDoorISize
import Derived.Maps.AppendAt
import Derived.Test.YtikaamonmaohjaaGreatDoorShelfI
import Derived.Laws.Rows
namespace Go.Proofs.YtikaamonmaohjaaGreatDoor.Ir
open Go.RowKit Go.Shelf
set_option maxRecDepth 100000
set_option maxHeartbeats 1000000

/-- whatever cell is told here is told so there -/
def Cm (W W' : World) : Prop := ∀ b o v, W.cell? ⟨b, o, none⟩ = some v → W'.cell? ⟨b, o, none⟩ = some v
theorem MatsAt.cm {W W' : World} (g : Cm W W') {A : Option Addr} {l : List Mt} (h : MatsAt W A l) : MatsAt W' A l := fun h0 => by
  obtain ⟨b, o, e, hc⟩ := h h0
  exact ⟨b, o, e, fun i x hx => ⟨g _ _ _ (hc i x hx).1, g _ _ _ (hc i x hx).2.1, g _ _ _ (hc i x hx).2.2⟩⟩
theorem StrsAt.cm {W W' : World} (g : Cm W W') {A : Option Addr} {l : List ByteArray} (h : StrsAt W A l) : StrsAt W' A l := fun h0 => by
  obtain ⟨b, o, e, hc⟩ := h h0
  exact ⟨b, o, e, fun i x hx => g _ _ _ (hc i x hx)⟩
theorem Nw.cm {W W' : World} (g : Cm W W') {d : Nf} {p : Np} {nk : Nat} (h : Nw W d p nk) : Nw W' d p nk := ⟨h.b, MatsAt.cm g h.m, StrsAt.cm g h.g, StrsAt.cm g h.x, StrsAt.cm g h.i⟩
mutual
theorem TrP.cm {W W' : World} (g : Cm W W') : ∀ (t : Tr) (p : Np), TrP W t p → TrP W' t p
  | .mk d ks, p, h => by
    unfold TrP at h ⊢
    exact ⟨Nw.cm g h.1, fun h0 => by
      obtain ⟨b, o, e, hk⟩ := h.2 h0
      exact ⟨b, o, e, KidsAt.cm g b o ks hk⟩⟩
theorem KidsAt.cm {W W' : World} (g : Cm W W') (b o : Nat) : ∀ (l : List Tr), KidsAt W b o l → KidsAt W' b o l
  | [], h => by unfold KidsAt; trivial
  | t :: r, h => by
    unfold KidsAt at h ⊢
    obtain ⟨⟨p, h1, h2⟩, h3⟩ := h
    exact ⟨⟨p, fun i v e => g _ _ _ (h1 i v e), TrP.cm g t p h2⟩, KidsAt.cm g b (o + 17) r h3⟩
end
end Go.Proofs.YtikaamonmaohjaaGreatDoor.Ir
namespace Go.Proofs.YtikaamonmaohjaaGreatDoor.Ir
open Go.RowKit Go.Shelf
set_option maxRecDepth 100000
set_option maxHeartbeats 1000000

/-- the world with these blocks alone -/
def only (W : World) (S : Nat → Bool) : World := { W with heap := W.heap.mapIdx fun i o => if S i then o else .deferred none }
theorem only_heap (W : World) (S : Nat → Bool) (b : Nat) : (only W S).heap[b]? = (W.heap[b]?).map fun o => if S b then o else .deferred none := by simp [only]
theorem only_cell {W : World} {S : Nat → Bool} {b o : Nat} {v : Value} : (only W S).cell? ⟨b, o, none⟩ = some v ↔ S b = true ∧ W.cell? ⟨b, o, none⟩ = some v := by
  cases hS : S b with
  | true =>
    have h : (only W S).heap[b]? = W.heap[b]? := by rw [only_heap, hS]; simp
    rw [World.cell?_of_block (a := ⟨b, o, none⟩) h]
    simp
  | false =>
    have h : (only W S).cell? ⟨b, o, none⟩ = none := by
      unfold World.cell?
      rw [only_heap, hS]
      cases W.heap[b]? <;> rfl
    rw [h]
    simp
theorem cm_only {W W' : World} {S S' : Nat → Bool} (h : ∀ b, S b = true → b < W.heap.size → S' b = true ∧ W'.heap[b]? = W.heap[b]?) : Cm (only W S) (only W' S') := fun b o v hc => by
  obtain ⟨h1, h2⟩ := only_cell.1 hc
  obtain ⟨h3, h4⟩ := h b h1 (World.block_lt_of_cell? W _ h2)
  exact only_cell.2 ⟨h3, (World.cell?_of_block (a := ⟨b, o, none⟩) h4).trans h2⟩
theorem cm_un {W : World} {S : Nat → Bool} : Cm (only W S) W := fun _ _ _ h => (only_cell.1 h).2
theorem cm_in {W : World} {S : Nat → Bool} (h : ∀ b, b < W.heap.size → S b = true) : Cm W (only W S) := fun b _ _ hc => only_cell.2 ⟨h b (World.block_lt_of_cell? W _ hc), hc⟩
theorem cm_gr {W W' : World} (g : Gr W W') : Cm W W' := fun _ _ _ h => g.cell h
theorem Cm.trans {A B C : World} (h : Cm A B) (k : Cm B C) : Cm A C := fun b o v e => k b o v (h b o v e)
/-- from N on -/
def from_ (N : Nat) : Nat → Bool := fun b => decide (N ≤ b)
theorem cm_from {W W' : World} {N M : Nat} (g : Gr W W') (h : M ≤ N) : Cm (only W (from_ N)) (only W' (from_ M)) := cm_only fun b hb hl => ⟨by unfold from_ at *; simp at *; omega, g.b.block b hl⟩
/-- a plan that reads in memory from N on -/
def NewT (N : Nat) (W : World) (t : Tr) (p : Np) : Prop := TrP (only W (from_ N)) t p
theorem NewT.real {N : Nat} {W : World} {t : Tr} {p : Np} (h : NewT N W t p) : TrP W t p := TrP.cm cm_un t p h
theorem NewT.gr {N M : Nat} {W W' : World} {t : Tr} {p : Np} (h : NewT N W t p) (g : Gr W W') (hm : M ≤ N) : NewT M W' t p := TrP.cm (cm_from g hm) t p h

theorem flat_get {α : Type} {enc : α → List Value} {sz : Nat} (hsz : ∀ x, (enc x).length = sz) : ∀ (cs : List α) (k : Nat) (hk : k < cs.length) (i : Nat) (u : Value), (enc cs[k])[i]? = some u → (cs.flatMap enc)[k * sz + i]? = some u
  | y :: r, 0, hk, i, u, hu => by
    have hi : i < (enc y).length := (List.getElem?_eq_some_iff.1 hu).1
    rw [List.flatMap_cons, Nat.zero_mul, Nat.zero_add, List.getElem?_append_left hi]
    simpa using hu
  | y :: r, k + 1, hk, i, u, hu => by
    rw [List.flatMap_cons, List.getElem?_append_right (by rw [hsz, Nat.add_mul]; omega), hsz]
    rw [show (k + 1) * sz + i - sz = k * sz + i by rw [Nat.add_mul]; omega]
    exact flat_get hsz r k (by simpa using hk) i u (by simpa using hu)
/-- a row that a call makes: its elements read apart from the row's own block -/
structure RowS {α : Type} (T : TypeId) (sz : Nat) (enc : α → List Value) (Rd : World → α → Prop) (lo : Nat) (w W : World) (v : Value) (cs : List α) : Prop where
  g : Gr w W
  own : W.ownsRow w.heap.size T sz v cs.length (cs.flatMap enc)
  rd : ∀ x ∈ cs, Rd (only W fun b => decide (lo ≤ b) && decide (v.ownBlock ≠ some b)) x
section
variable {α : Type} {T : TypeId} {sz : Nat} {enc : α → List Value} {Rd : World → α → Prop} {lo : Nat} {w W W' : World} {v v' : Value} {cs : List α}
theorem RowS.nil (T : TypeId) (sz : Nat) (enc : α → List Value) (Rd : World → α → Prop) (lo : Nat) (g : Gr w W) : RowS T sz enc Rd lo w W (.slice none 0 0) [] := ⟨g, World.ownsRow_nil _ _ _ _, fun x hx => by simp at hx⟩
theorem RowS.gr (hRd : ∀ A B x, Cm A B → Rd A x → Rd B x) (h : RowS T sz enc Rd lo w W v cs) (g : Gr W W') : RowS T sz enc Rd lo w W' v cs :=
  ⟨h.g.trans g, World.ownsRow.kept h.own (row := none) ⟨g.b.os, g.b.tape, g.b.output, g.b.size, fun k hk _ => g.b.block k hk⟩ (by cases v.ownBlock <;> simp), fun x hx => hRd _ _ x (cm_only fun b hb hl => ⟨hb, g.b.block b hl⟩) (h.rd x hx)⟩
theorem RowS.lt (h : RowS T sz enc Rd lo w W v cs) {k : Nat} (hk : v.ownBlock = some k) : w.heap.size ≤ k ∧ k < W.heap.size := World.ownsRow.lt h.own k hk
theorem RowS.app (hRd : ∀ A B x, Cm A B → Rd A x → Rd B x) (h : RowS T sz enc Rd lo w W v cs) {x : α} (hx : Rd (only W fun b => decide (lo ≤ b) && decide (v.ownBlock ≠ some b)) x)
    (ho : W'.ownsRow w.heap.size T sz v' (cs.length + 1) (cs.flatMap enc ++ enc x)) (g : W.grownBy W' v.ownBlock) (ha : v'.ownBlock = v.ownBlock ∨ v'.ownBlock = some W.heap.size) : RowS T sz enc Rd lo w W' v' (cs ++ [x]) := by
  have hcm : Cm (only W fun b => decide (lo ≤ b) && decide (v.ownBlock ≠ some b)) (only W' fun b => decide (lo ≤ b) && decide (v'.ownBlock ≠ some b)) := cm_only fun b hb hl => by
    simp only [Bool.and_eq_true, decide_eq_true_eq] at hb ⊢
    refine ⟨⟨hb.1, fun e => ?_⟩, g.block b hl (fun e => hb.2 e.symm)⟩
    rcases ha with e1 | e1
    · exact hb.2 (e1 ▸ e)
    · rw [e1] at e
      injection e with e
      omega
  refine ⟨⟨h.g.b.grown g h.g.b.size (fun k hk => (h.lt hk).1)⟩, ?_, fun y hy => ?_⟩
  · rw [List.flatMap_append, List.length_append]
    simpa using ho
  · rcases List.mem_append.1 hy with e | e
    · exact hRd _ _ y hcm (h.rd y e)
    · obtain rfl : y = x := by simpa using e
      exact hRd _ _ y hcm hx
/-- its form: a slice of the call's own, its elements' cells in their places -/
theorem RowS.form (hsz : ∀ x, (enc x).length = sz) (h : RowS T sz enc Rd lo w W v cs) : ∃ A c, v = .slice A cs.length c ∧ cs.length ≤ c ∧ c ≤ maxLen ∧
    (0 < cs.length → ∃ g, A = some ⟨g, 0, none⟩ ∧ w.heap.size ≤ g ∧ v.ownBlock = some g ∧ ∀ k (hk : k < cs.length), CellsAt W g (k * sz) (enc cs[k])) := by
  rcases h.own.2 with ⟨e, e0⟩ | ⟨g, cap, cur, rfl, hb, hg, h1, h2, h3, h4⟩
  · exact ⟨none, 0, by rw [e, e0], by omega, by unfold maxLen; omega, fun hh => absurd hh (by omega)⟩
  · refine ⟨_, cap, rfl, h1, h2, fun _ => ⟨g, rfl, hb, rfl, fun k hk i u hu => ?_⟩⟩
    have hcl := h.own.cells (g := g) rfl
    have hget := flat_get hsz cs k hk i u hu
    have := hcl _ _ hget
    rwa [show ∀ j, (⟨g, 0, none⟩ : Addr).add j = ⟨g, j, none⟩ from fun j => by unfold Addr.add; split <;> simp_all] at this
end
/-- an append onto such a row, as a step of a walk -/
theorem wp_appR {P : Program} {S : TypeId} {o : Oper} {a : Act} {W : World} {K : Act → World → Prop} {Q : Exit → Act → World → Prop} (s x : Operand)
    (ho : o.op = .call { callee := .builtin .append, args := #[s, x], argTypes := #[S, S] }) (hty : o.type = S) {v x' : Value} (hs : a.eval s = v) (hx : a.eval x = x') {R : Value → World → Prop}
    (hr : ∃ v' W', (Builtin.append_ #[S, S] S #[v, x']).run P W = .ok v' W' ∧ R v' W')
    (h : ∀ v' W', R v' W' → K (a.put o.dst v') W') : o.wp P a W K Q := by
  obtain ⟨v', W', hr, h1⟩ := hr
  unfold Oper.wp execOp
  simp only [ho, hty, resolve, invoke, builtin, Sem.run_bind, Sem.run_pure, Result.andThen_ok, List.map_toArray, List.map_cons, List.map_nil, hs, hx, hr]
  exact h v' W' h1
theorem wpList_appR {P : Program} {S : TypeId} {ops : Array Oper} {rest : List Oper} {o : Oper} {a : Act} {W : World} {Q : Exit → Act → World → Prop} (hgd : o.guard = none) (s x : Operand)
    (ho : o.op = .call { callee := .builtin .append, args := #[s, x], argTypes := #[S, S] }) (hty : o.type = S) {v x' : Value} (hs : a.eval s = v) (hx : a.eval x = x') {R : Value → World → Prop}
    (hr : ∃ v' W', (Builtin.append_ #[S, S] S #[v, x']).run P W = .ok v' W' ∧ R v' W')
    (h : ∀ v' W', R v' W' → wpList P ops Q rest (a.put o.dst v') W') : wpList P ops Q (o :: rest) a W :=
  wpList_plain hgd fun _ hK => wp_appR s x ho hty hs hx hr fun v' W' h1 => hK _ _ (h v' W' h1)
theorem row_run {P : Program} {α : Type} {T S : TypeId} {sz by_ : Nat} {enc : α → List Value} {Rd : World → α → Prop} {lo : Nat} {w W : World} {v z : Value} {cs : List α} (hRd : ∀ A B x, Cm A B → Rd A x → Rd B x) (hsz : ∀ x, (enc x).length = sz) (h1c : ∀ x, ∀ u ∈ enc x, u.oneCell' = true)
    (hS : P.underlying S = some (.slice T)) (hT : (P.info? T).map (fun i => (i.zero, i.size, i.bytes)) = some (some z, sz, by_)) (hz : z.cells.size = sz) (hz0 : 0 < sz) (hby : by_ ≤ 256)
    (h : RowS T sz enc Rd lo w W v cs) (hn : cs.length ≤ 1000000) {x : α} (g c : Nat) (hc : CellsAt W g 0 (enc x)) (hx : Rd (only W fun b => decide (lo ≤ b) && decide (v.ownBlock ≠ some b)) x) :
    ∃ v' W', (Builtin.append_ #[S, S] S #[v, .slice (some ⟨g, 0, none⟩) 1 c]).run P W = .ok v' W' ∧ RowS T sz enc Rd lo w W' v' (cs ++ [x]) := by
  obtain ⟨i0, hi, h0, h1, h2⟩ := info_parts hT
  obtain ⟨v', w', hr, h3, h4, _, h5⟩ := run_append_own_at (P := P) W w.heap.size S S T i0 z sz by_ hS hi h0 h1 h2 hz hz0 v cs.length _ h.own ⟨g, 0, none⟩ 1 c (enc x) (by rw [hsz]; omega)
    (fun j u hu => by
      have := hc j u hu
      rw [Nat.zero_add] at this
      rwa [show (⟨g, 0, none⟩ : Addr).add j = ⟨g, j, none⟩ by unfold Addr.add; split <;> simp_all]) (h1c x) (by unfold maxLen; omega) (by
        have : (cs.length + 1) * by_ ≤ 1000001 * 256 := Nat.mul_le_mul (by omega) hby
        omega) h.g.b.size
  exact ⟨v', w', hr, h.app hRd hx h3 h4 h5⟩

/-! rows of plans -/
def encT (x : Tr × Np) : List Value := nV x.1.d x.2 x.1.ks.length
def RdT (W : World) (x : Tr × Np) : Prop := TrP W x.1 x.2
theorem rdT_cm (A B : World) (x : Tr × Np) (h : Cm A B) (k : RdT A x) : RdT B x := TrP.cm h x.1 x.2 k
theorem encT_len (x : Tr × Np) : (encT x).length = 17 := rfl
theorem nV_one (d : Nf) (p : Np) (nk : Nat) : ∀ u ∈ nV d p nk, u.oneCell' = true := by simp [nV, Value.oneCell']
theorem encT_one (x : Tr × Np) : ∀ u ∈ encT x, u.oneCell' = true := nV_one _ _ _
/-- where the row lies its elements read, from lo on -/
theorem rowT_kids {T : TypeId} {lo : Nat} {w W : World} {v : Value} {cs : List (Tr × Np)} (h : RowS T 17 encT RdT lo w W v cs) (hlo : lo ≤ w.heap.size) : ∃ A c, v = .slice A cs.length c ∧ cs.length ≤ c ∧ c ≤ maxLen ∧
    (0 < cs.length → ∃ g, A = some ⟨g, 0, none⟩ ∧ KidsAt (only W (from_ lo)) g 0 (cs.map (·.1))) := by
  obtain ⟨A, c, hv, h1, h2, h3⟩ := h.form encT_len
  refine ⟨A, c, hv, h1, h2, fun h0 => ?_⟩
  obtain ⟨g, e, hg, ho, hc⟩ := h3 h0
  refine ⟨g, e, KidsAt.of fun k hk => ?_⟩
  have hk' : k < cs.length := by simpa using hk
  refine ⟨(cs[k]).2, fun i u hu => ?_, ?_⟩
  · rw [Nat.zero_add]
    refine only_cell.2 ⟨by unfold from_; simp; omega, hc k hk' i u ?_⟩
    simpa [encT] using hu
  · have := h.rd _ (List.getElem_mem hk')
    have h4 : TrP (only W (from_ lo)) (cs[k]).1 (cs[k]).2 := TrP.cm (cm_only fun b hb _ => ⟨by
      simp only [Bool.and_eq_true, decide_eq_true_eq] at hb
      unfold from_; simp; omega, rfl⟩) _ _ this
    simpa using h4
end Go.Proofs.YtikaamonmaohjaaGreatDoor.Ir
namespace Go.Proofs.YtikaamonmaohjaaGreatDoor.Ir
open Go.RowKit Go.Shelf Go.Sort
set_option maxRecDepth 100000
set_option maxHeartbeats 4000000
attribute [local irreducible] wpQuiet

theorem own_form {α : Type} {enc : α → List Value} {sz base : Nat} {T : TypeId} {W : World} {v : Value} (hsz : ∀ x, (enc x).length = sz) (cs : List α) (h : W.ownsRow base T sz v cs.length (cs.flatMap enc)) :
    ∃ A c, v = .slice A cs.length c ∧ cs.length ≤ c ∧ c ≤ maxLen ∧ (0 < cs.length → ∃ g, A = some ⟨g, 0, none⟩ ∧ base ≤ g ∧ ∀ k (hk : k < cs.length), CellsAt W g (k * sz) (enc cs[k])) := by
  have hcl := fun (g : Nat) (hg : v.ownBlock = some g) => h.cells hg
  rcases h.2 with ⟨e, e0⟩ | ⟨g, cap, cur, rfl, hb, hg, h1, h2, h3, h4⟩
  · exact ⟨none, 0, by rw [e, e0], by omega, by unfold maxLen; omega, fun hh => absurd hh (by omega)⟩
  · refine ⟨_, cap, rfl, h1, h2, fun _ => ⟨g, rfl, hb, fun k hk i u hu => ?_⟩⟩
    have hget := flat_get hsz cs k hk i u hu
    have := hcl g rfl _ _ hget
    rwa [show ∀ j, (⟨g, 0, none⟩ : Addr).add j = ⟨g, j, none⟩ from fun j => by unfold Addr.add; split <;> simp_all] at this
theorem flat_inv {α : Type} {enc : α → List Value} {sz : Nat} (hsz : ∀ x, (enc x).length = sz) : ∀ (cs : List α) (j : Nat) (u : Value), (cs.flatMap enc)[j]? = some u → ∃ k, ∃ hk : k < cs.length, ∃ i, j = k * sz + i ∧ (enc cs[k])[i]? = some u
  | [], j, u, h => by simp at h
  | y :: r, j, u, h => by
    rw [List.flatMap_cons] at h
    by_cases hj : j < (enc y).length
    · rw [List.getElem?_append_left hj] at h
      exact ⟨0, by simp, j, by simp, by simpa using h⟩
    · rw [List.getElem?_append_right (by omega), hsz] at h
      obtain ⟨k, hk, i, e, hu⟩ := flat_inv hsz r _ u h
      refine ⟨k + 1, by simpa using hk, i, ?_, by simpa using hu⟩
      rw [hsz] at hj
      rw [Nat.add_mul]
      omega
theorem flat_len {α : Type} {enc : α → List Value} {sz : Nat} (hsz : ∀ x, (enc x).length = sz) (cs : List α) : (cs.flatMap enc).length = cs.length * sz := by
  induction cs with
  | nil => simp
  | cons y r ih => rw [List.flatMap_cons, List.length_append, ih, hsz, List.length_cons, Nat.add_mul]; omega
def encMt (x : Mt) : List Value := [.int .i64 x.k, .string x.n, .string x.v]
def encSt (x : ByteArray) : List Value := [.string x]
/-- a list in new memory -/
def FrL (Rd : World → Option Addr → Prop) (n : Nat) (w : World) (e : Ending) (w' : World) : Prop := ∃ A' c', e = .returned (.slice A' n c') ∧ n ≤ c' ∧ c' ≤ maxLen ∧ Gr w w' ∧ Rd (only w' (from_ w.heap.size)) A'
theorem only_block {W : World} {N g o : Nat} {v : Value} (hg : N ≤ g) (h : W.cell? ⟨g, o, none⟩ = some v) : (only W (from_ N)).cell? ⟨g, o, none⟩ = some v := only_cell.2 ⟨by unfold from_; simp [hg], h⟩
theorem mt_info : (Tryz.prog.info? 48).map (fun i => (i.zero, i.size, i.bytes)) = some (some (.agg #[.int .i64 0, .string ⟨#[]⟩, .string ⟨#[]⟩]), 3, 40) := by kernel_rfl
theorem st_info : (Tryz.prog.info? 9).map (fun i => (i.zero, i.size, i.bytes)) = some (some (.string ⟨#[]⟩), 1, 16) := by kernel_rfl
theorem mclone (A : Option Addr) (c : Nat) (l : List Mt) (w : World) (h : MatsAt w A l) (hl : l.length ≤ 1000000) :
    Calls Tryz.prog 73 #[.slice A l.length c] w (FrL (fun W A => MatsAt W A l) l.length w) := by
  by_cases h0 : 0 < l.length
  · obtain ⟨b, o, rfl, hc⟩ := h h0
    obtain ⟨i0, hi, hz0, hz1, hz2⟩ := info_parts mt_info
    have hcon := AnyE.slices_Clone Tryz.cloneM i0 (.agg #[.int .i64 0, .string ⟨#[]⟩, .string ⟨#[]⟩]) 3 40 hi hz0 hz1 hz2 rfl (by omega) Tryz.sizeOf48 b o l.length c (l.flatMap encMt) w (flat_len (enc := encMt) (sz := 3) (fun _ => rfl) l) (by unfold maxLen; omega) (by omega) (fun j u hu => by
      obtain ⟨k, hk, i, rfl, hi⟩ := flat_inv (sz := 3) (fun _ => rfl) l j u hu
      obtain ⟨c1, c2, c3⟩ := hc k _ (List.getElem?_eq_getElem hk)
      match i, hi with
      | 0, hi => cases hi; rw [Nat.add_zero]; exact c1
      | 1, hi => cases hi; rw [← Nat.add_assoc]; exact c2
      | 2, hi => cases hi; rw [← Nat.add_assoc]; exact c3) (fun u hu => by
      obtain ⟨x, -, hx⟩ := List.mem_flatMap.1 hu
      simp [encMt] at hx
      rcases hx with rfl | rfl | rfl <;> rfl)
    change Calls Tryz.prog 73 _ _ _ at hcon
    refine hcon.mono fun e w' ⟨v', he, hown, _, hb⟩ => ?_
    obtain ⟨A', c', rfl, h1, h2, h3⟩ := own_form (enc := encMt) (fun _ => rfl) l hown
    refine ⟨A', c', he, h1, h2, ⟨hb⟩, fun h0 => ?_⟩
    obtain ⟨g, rfl, hg, hcc⟩ := h3 h0
    refine ⟨g, 0, rfl, fun i x hx => ?_⟩
    have hi := (List.getElem?_eq_some_iff.1 hx).1
    obtain rfl : l[i] = x := by rw [List.getElem?_eq_getElem hi] at hx; exact Option.some.inj hx
    have := hcc i hi
    rw [Nat.zero_add]
    exact ⟨only_block hg (this 0 _ rfl), only_block hg (this 1 _ rfl), only_block hg (this 2 _ rfl)⟩
  · have hn : l.length = 0 := by omega
    obtain rfl := List.eq_nil_of_length_eq_zero hn
    have q22 : ∀ (w : World) (a : Option Addr) (n c n' c' : Nat), (binOp .eql 23 (.slice a n c) (.slice none n' c')).run Tryz.prog w = .ok (.bool a.isNone) w := fun w a n c n' c' => Lib.run_eql_slice_nil w _ _ a n c n' c' Tryz.underlying23
    show Calls Tryz.prog 73 #[.slice A 0 c] w _
    cases A with
    | none =>
      go_enter Tryz.func73, Tryz.ntmps73
      go_wp2
      go_ret
      exact ⟨none, 0, rfl, Nat.le_refl _, Nat.zero_le _, Gr.refl _, fun h => absurd h (by simp)⟩
    | some a =>
      go_enter Tryz.func73, Tryz.ntmps73
      go_wp2
      go_ret
      exact ⟨_, 0, rfl, Nat.le_refl _, Nat.zero_le _, (Gr.refl _).alloc _ _, fun h => absurd h (by simp)⟩
theorem sclone (A : Option Addr) (c : Nat) (l : List ByteArray) (w : World) (h : StrsAt w A l) (hl : l.length ≤ 1000000) :
    Calls Tryz.prog 103 #[.slice A l.length c] w (FrL (fun W A => StrsAt W A l) l.length w) := by
  by_cases h0 : 0 < l.length
  · obtain ⟨b, o, rfl, hc⟩ := h h0
    obtain ⟨i0, hi, hz0, hz1, hz2⟩ := info_parts st_info
    have hcon := AnyE.slices_Clone Tryz.cloneS i0 (.string ⟨#[]⟩) 1 16 hi hz0 hz1 hz2 rfl (by omega) Tryz.sizeOf9 b o l.length c (l.flatMap encSt) w (flat_len (enc := encSt) (sz := 1) (fun _ => rfl) l) (by unfold maxLen; omega) (by omega) (fun j u hu => by
      obtain ⟨k, hk, i, rfl, hi⟩ := flat_inv (sz := 1) (fun _ => rfl) l j u hu
      have c1 := hc k _ (List.getElem?_eq_getElem hk)
      match i, hi with
      | 0, hi => cases hi; rw [Nat.add_zero, Nat.mul_one]; exact c1) (fun u hu => by
      obtain ⟨x, -, hx⟩ := List.mem_flatMap.1 hu
      simp [encSt] at hx
      subst hx; rfl)
    change Calls Tryz.prog 103 _ _ _ at hcon
    refine hcon.mono fun e w' ⟨v', he, hown, _, hb⟩ => ?_
    obtain ⟨A', c', rfl, h1, h2, h3⟩ := own_form (enc := encSt) (fun _ => rfl) l hown
    refine ⟨A', c', he, h1, h2, ⟨hb⟩, fun h0 => ?_⟩
    obtain ⟨g, rfl, hg, hcc⟩ := h3 h0
    refine ⟨g, 0, rfl, fun i x hx => ?_⟩
    have hi := (List.getElem?_eq_some_iff.1 hx).1
    obtain rfl : l[i] = x := by rw [List.getElem?_eq_getElem hi] at hx; exact Option.some.inj hx
    have := hcc i hi 0 _ rfl
    rw [Nat.mul_one, Nat.add_zero] at this
    rw [Nat.zero_add]
    exact only_block hg this
  · have hn : l.length = 0 := by omega
    obtain rfl := List.eq_nil_of_length_eq_zero hn
    have q22 : ∀ (w : World) (a : Option Addr) (n c n' c' : Nat), (binOp .eql 24 (.slice a n c) (.slice none n' c')).run Tryz.prog w = .ok (.bool a.isNone) w := fun w a n c n' c' => Lib.run_eql_slice_nil w _ _ a n c n' c' Tryz.underlying24
    show Calls Tryz.prog 103 #[.slice A 0 c] w _
    cases A with
    | none =>
      go_enter Tryz.func103, Tryz.ntmps103
      go_wp2
      go_ret
      exact ⟨none, 0, rfl, Nat.le_refl _, Nat.zero_le _, Gr.refl _, fun h => absurd h (by simp)⟩
    | some a =>
      go_enter Tryz.func103, Tryz.ntmps103
      go_wp2
      go_ret
      exact ⟨_, 0, rfl, Nat.le_refl _, Nat.zero_le _, (Gr.refl _).alloc _ _, fun h => absurd h (by simp)⟩
theorem grp_size : (Tryz.prog.info? 26).map (·.size) = some 2 := by kernel_rfl
theorem ibox (w : World) (cs : Array Value) (T : TypeId) : ∃ W, w.alloc (.cells cs T) = W ∧ Gr w W ∧ W.heap[w.heap.size]? = some (.cells cs T (0, 0)) ∧ W.heap.size = w.heap.size + 1 :=
  ⟨_, rfl, (Gr.refl w).alloc _ _, World.alloc_heap_new _ _, by simp⟩
theorem cell_h {W : World} {b : Nat} {cs : Array Value} {T : TypeId} {fr : Nat × Nat} (h : W.heap[b]? = some (.cells cs T fr)) (j : Nat) : W.cell? ⟨b, j, none⟩ = cs[j]? := Lib.cell_of_heap h j
theorem hgr {W W' : World} (g : Gr W W') {b : Nat} {o : Obj} (h : W.heap[b]? = some o) : W'.heap[b]? = some o := (g.b.block b (Array.getElem?_eq_some_iff.1 h).1).trans h
theorem set2_other (W : World) (b : Nat) (u v : Value) {k : Nat} (h : k ≠ b) : ((W.setCell ⟨b, 0, none⟩ u).setCell ⟨b, 1, none⟩ v).heap[k]? = W.heap[k]? :=
  (Below.heap_setCell _ _ _ _ (by show k ≠ b; exact h)).trans (Below.heap_setCell _ _ _ _ (by show k ≠ b; exact h))
theorem set2_same {W : World} {b : Nat} {u v : Value} {T : TypeId} (h : W.heap[b]? = some (.cells #[u, v] T (0, 0))) (u' v' : Value) : ((W.setCell ⟨b, 0, none⟩ u').setCell ⟨b, 1, none⟩ v').heap[b]? = some (.cells #[u', v'] T (0, 0)) := by
  have h1 := heap_setCell_same W b 0 _ _ u' h
  have h2 := heap_setCell_same _ b 1 _ _ v' h1
  simpa using h2
/-- a group in new memory -/
def FrG (how : Int) (l : List ByteArray) (w : World) (e : Ending) (w' : World) : Prop := ∃ A' c', e = .returned (.agg #[.int .i64 how, .slice A' l.length c']) ∧ l.length ≤ c' ∧ c' ≤ maxLen ∧ Gr w w' ∧ StrsAt (only w' (from_ w.heap.size)) A' l
theorem cgroup (how : Int) (A : Option Addr) (c : Nat) (l : List ByteArray) (w : World) (h : StrsAt w A l) (hl : l.length ≤ 1000000) :
    Calls Tryz.prog 75 #[.agg #[.int .i64 how, .slice A l.length c]] w (FrG how l w) := by
  have hres : Tryz.f75.results = #[.cell 2 26] := by kernel_rfl
  obtain ⟨W1, hW1, g1, b1, s1⟩ := ibox w #[.int .i64 how, .slice A l.length c] 26
  obtain ⟨W2, hW2, g2, b2, s2⟩ := ibox W1 #[.int .i64 0, .slice none 0 0] 26
  have hg := g1.trans g2
  have c0 := (cell_h (hgr g2 b1) 0).trans rfl
  have c1 := (cell_h (hgr g2 b1) 1).trans rfl
  rw [s1] at b2
  have CC := Lib.hid (fun W (g : Gr W2 W) => sclone A c l W (h.gr (hg.trans g)) hl)
  have HB2 := Lib.hid b2
  obtain ⟨N, hN⟩ : ∃ N, w.heap.size = N := ⟨_, rfl⟩
  rw [hN] at c0 c1 HB2 s1
  have HS2 : Hid (W2.heap.size = N + 2) := Lib.hid (by omega)
  obtain ⟨n, hn⟩ : ∃ n, l.length = n := ⟨_, rfl⟩
  unfold FrG
  rw [hn] at c1 CC hW1 ⊢
  have HN := Lib.hid hN; have HW1 := Lib.hid hW1; have HW2 := Lib.hid hW2; have HG := Lib.hid hg; have HS1 := Lib.hid s1
  have HLN := Lib.hid hn
  clear hN hW1 hW2 hg b1 b2 g1 g2 h s1 s2 hn
  go_enter Tryz.func75, Tryz.ntmps75
  go_upto_region 1 with fail
  rw [HW1.out, HW2.out, HN.out]
  have HNF : Hid (∀ W, Gr W2 W → W.cell? ⟨N + 1, 0, none⟩ = some (.int .i64 0) ∧ W.cell? ⟨N + 1, 1, none⟩ = some (.slice none 0 0) ∧ W.frozen? ⟨N + 1, 0, none⟩ = false ∧ W.frozen? ⟨N + 1, 1, none⟩ = false) := Lib.hid (fun W g => by
    have h1 := hgr g HB2.out
    exact ⟨(cell_h h1 0).trans rfl, (cell_h h1 1).trans rfl, Lib.frozen_of_heap h1 0, Lib.frozen_of_heap h1 1⟩)
  have ks0 : W2.drew.cell? ⟨N, 0, none⟩ = some (.int .i64 how) ∧ W2.drew.cell? ⟨N, 1, none⟩ = some (.slice A n c) := ⟨c0, c1⟩
  go_region_held3 (fun w' => w'.cell? ⟨N, 0, none⟩ = some (.int .i64 how) ∧ w'.cell? ⟨N, 1, none⟩ = some (.slice A n c))
    (first | with_reducible exact ksd | with_reducible exact ks0 | go_keep)
    (first
      | (go_simp
         go_at_call 103
         refine (CC.out _ (by first | exact Gr.refl _ | exact (Gr.refl _).drew)).mono ?_
         rintro e w4 ⟨A4, c4, rfl, h41, h42, g4, hs4⟩
         have gd4 : Gr W2 w4 := by first | exact g4 | exact (Gr.refl _).drew.trans g4
         have ksd : w4.cell? ⟨N, 0, none⟩ = some (.int .i64 how) ∧ w4.cell? ⟨N, 1, none⟩ = some (.slice A n c) := ⟨gd4.cell c0, gd4.cell c1⟩
         obtain ⟨x0, x1, x2, x3⟩ := HNF.out w4 gd4
         have x1' : ∀ u, (w4.setCell ⟨N + 1, 0, none⟩ u).cell? ⟨N + 1, 1, none⟩ = some (.slice none 0 0) := fun u => by rw [World.cell?_setCell_other _ _ _ _ (by simp)]; exact x1))
  have HX := Lib.hid (set2_same (hgr gd4 HB2.out) (.int .i64 how) (.slice A4 n c4))
  have HS4 := Lib.hid hs4; have GD4 := Lib.hid gd4
  go_wp2_with fail
  refine bodyPost_ret (v := .agg #[.int .i64 how, .slice A4 n c4]) (results_cell_row (p := 2) (ty := 26) hres _ _ (N + 1) _ _ (0, 0) _ rfl HX.out Tryz.underlying26 rfl grp_size) rfl ?_
  refine ⟨A4, c4, rfl, h41, h42, ((HG.out.trans GD4.out).setCell (by show w.heap.size ≤ N + 1; have := HN.out; omega) _).setCell (by show w.heap.size ≤ N + 1; have := HN.out; omega) _, StrsAt.cm (cm_only fun b hb hl => ?_) HS4.out⟩
  have h1 : W2.heap.size ≤ b := by unfold from_ at hb; exact of_decide_eq_true hb
  have h2 := HS2.out; have h3 := HN.out
  exact ⟨by unfold from_; simp; omega, set2_other _ _ _ _ (by omega)⟩
end Go.Proofs.YtikaamonmaohjaaGreatDoor.Ir
namespace Go.Proofs.YtikaamonmaohjaaGreatDoor.Ir
open Go.RowKit Go.Shelf Go.Sort
set_option maxRecDepth 100000
set_option maxHeartbeats 4000000

def d0 : Nf := ⟨0, 0, 0, [], 0, 0, 0, 0, [], 0, [], 0, [], false, ⟨#[]⟩, ⟨#[]⟩⟩
def pNil : Np := ⟨none, 0, none, 0, none, 0, none, 0, none, 0⟩
/-- a plan in new memory -/
def FrT (t : Tr) (w : World) (e : Ending) (w' : World) : Prop := ∃ p', e = .returned (.agg (nV t.d p' t.ks.length).toArray) ∧ Gr w w' ∧ NewT w.heap.size w' t p'
/-- what a function makes of a plan -/
def Chg (F : FuncId) (g : Tr → Tr) (w : World) (t : Tr) : Prop := ∀ (p : Np) (W : World), Gr w W → TrP W t p → Calls Tryz.prog F #[.agg (nV t.d p t.ks.length).toArray] W (FrT (g t) W)
/-- a row of plans in new memory -/
def FrK (l : List Tr) (w : World) (e : Ending) (w' : World) : Prop := ∃ A' c', e = .returned (.slice A' l.length c') ∧ l.length ≤ c' ∧ c' ≤ maxLen ∧ Gr w w' ∧ (0 < l.length → ∃ b, A' = some ⟨b, 0, none⟩ ∧ KidsAt (only w' (from_ w.heap.size)) b 0 l)
theorem node_info3 : (Tryz.prog.info? 31).map (fun i => (i.zero, i.size, i.bytes)) = some (some (.agg #[.int .i64 0, .float .f64 0, .int .i64 0, .slice none 0 0, .int .i64 0, .int .i64 0, .int .i64 0, .int .i64 0, .slice none 0 0, .int .i64 0, .slice none 0 0, .int .i64 0, .slice none 0 0, .bool false, .string ⟨#[]⟩, .string ⟨#[]⟩, .slice none 0 0]), 17, 232) := by kernel_rfl
theorem nd_fold (d : Nf) (p : Np) (nk : Nat) : List.foldl (fun (cs : Array Value) (x : Value × Nat) => cs.setIfInBounds x.snd x.fst)
    #[Value.int IntKind.i64 0, Value.float FloatKind.f64 0, Value.int IntKind.i64 0, Value.slice none 0 0, Value.int IntKind.i64 0, Value.int IntKind.i64 0, Value.int IntKind.i64 0, Value.int IntKind.i64 0, Value.slice none 0 0, Value.int IntKind.i64 0, Value.slice none 0 0, Value.int IntKind.i64 0, Value.slice none 0 0, Value.bool false, Value.string { data := #[] }, Value.string { data := #[] }, Value.slice none 0 0]
    (nV d p nk).zipIdx = (nV d p nk).toArray := by
  unfold nV
  simp [List.zipIdx_cons]
section
variable {ops : Array Oper} {rest : List Oper} {o : Oper} {a : Act} {w : World} {Q : Exit → Act → World → Prop} {d : Nf} {p : Np} {nk : Nat}
theorem build_nd (hgd : o.guard = none) (x : Operand) (ho : o.op = .buildSlice 29 1 #[(0, x)]) (hx : a.eval x = .agg (nV d p nk).toArray)
    (h : wpList Tryz.prog ops Q rest (a.put o.dst (.slice (some ⟨w.heap.size, 0, none⟩) 1 1)) (w.alloc (.cells (nV d p nk).toArray 31))) : wpList Tryz.prog ops Q (o :: rest) a w :=
  wpList_plain hgd fun _ hK => by
    unfold Oper.wp execOp
    simp only [ho, List.map_toArray, List.map_cons, List.map_nil, hx]
    simp [go_sem, nd_fold]
    exact hK _ _ h
end
theorem each_any (F : FuncId) (eg : ∀ args w, (callFunc F args).run Tryz.prog w = .ok (.enter F args) w) (g : Tr → Tr) (A : Option Addr) (c : Nat) (ks : List Tr) (w : World) (hk : 0 < ks.length → ∃ b o, A = some ⟨b, o, none⟩ ∧ KidsAt w b o ks) (hlen : ks.length ≤ 1000) (hF : ∀ t ∈ ks, Chg F g w t) :
    Calls Tryz.prog 81 #[.slice A ks.length c, .func (.func F) #[] #[]] w (FrK (ks.map g) w) := by
  have HK := Lib.hid hk; have HF := Lib.hid hF
  clear hk hF
  go_enter Tryz.func81, Tryz.ntmps81
  go_wp2
  go_loopw [5, 10] (fun v i wr => ∃ (k : Nat) (cs : List (Tr × Np)), k ≤ ks.length ∧ i = .int .i64 k ∧ Hid (cs.map (·.1) = (ks.take k).map g) ∧ Hid (RowS 31 17 encT RdT w.heap.size w wr v cs)) (fun _ i _ => ks.length - (intOf i).toNat)
  case atStart => exact ⟨0, [], Nat.zero_le _, rfl, Lib.hid rfl, Lib.hid (RowS.nil _ _ _ _ _ (Gr.refl _))⟩
  case round =>
    obtain ⟨k, cs, hk, rfl, HC, HR⟩ := hrel
    by_cases hlt : k < ks.length
    · obtain ⟨b, o, hA, hKs⟩ := HK.out (by omega)
      obtain ⟨q, hc, ht⟩ := (KidsAt.gr HR.out.g b o ks hKs).get hlt
      subst hA
      have HFk := Lib.hid (HF.out ks[k] (List.getElem_mem hlt))
      have HTK : Hid ((ks.take (k + 1)).map g = (ks.take k).map g ++ [g ks[k]]) := Lib.hid (by rw [List.take_succ_eq_append_getElem hlt, List.map_append]; rfl)
      obtain ⟨t, htt⟩ : ∃ t, ks[k] = t := ⟨_, rfl⟩
      rw [htt] at hc ht HFk HTK
      obtain ⟨W2, hW2, g2, hb2, -, -⟩ := nbox wr (nV t.d q t.ks.length) 31
      have HW2 := Lib.hid hW2
      have HR2 := Lib.hid (HR.out.gr rdT_cm g2)
      have CC := Lib.hid (HFk.out q W2 (HR2.out.g) (TrP.gr g2 t q ht))
      have hcs : cs.length ≤ 1000 := by
        have := congrArg List.length HC.out
        simp at this
        omega
      obtain ⟨u, hu⟩ : ∃ u, g t = u := ⟨_, rfl⟩
      rw [hu] at CC HTK
      clear htt hW2 hKs HR hu
      go_upto_region 5 with (first
        | (refine load_node rfl (.tmp 12) rfl _ _ rfl hc ?_)
        | (refine store_node rfl (.tmp 7) (.tmp 13) rfl rfl rfl rfl ?_; rw [HW2.out]))
      go_wp2_with (refine load_node rfl (.tmp 7) rfl _ _ rfl hb2 ?_)
      refine CC.out.mono ?_
      rintro e w3 ⟨p', rfl, g3, hn⟩
      obtain ⟨W4, hW4, g4, hb4, -, -⟩ := nbox w3 (nV u.d p' u.ks.length) 31
      have HA := row_run (P := Tryz.prog) (S := 29) (x := (u, p')) rdT_cm encT_len encT_one Tryz.underlying29 node_info3 rfl (by omega) (by omega) (HR2.out.gr rdT_cm (g3.trans g4)) (by omega) w3.heap.size 1 hb4 (by
        refine TrP.cm (cm_only fun b hb hl => ?_) u p' hn
        have hb : W2.heap.size ≤ b := by unfold from_ at hb; exact of_decide_eq_true hb
        have h1 := HR2.out.g.size
        refine ⟨?_, g4.b.block b hl⟩
        simp only [Bool.and_eq_true, decide_eq_true_eq]
        refine ⟨by omega, fun e => ?_⟩
        have := (HR2.out.lt e).2
        omega)
      have HA := Lib.hid HA; have HW4 := Lib.hid hW4
      clear hb4 hW4 g3 g4 hn
      go_wp2_with (first
        | (refine build_nd rfl (.tmp 17) rfl rfl ?_; rw [HW4.out])
        | (at_builtin; refine wpList_appR rfl (.tmp 14) (.tmp 18) rfl rfl rfl rfl HA.out ?_; rintro v7 w7 hr7))
      have HR7 := Lib.hid hr7
      clear hr7
      go_roundw
      case rel => exact ⟨k + 1, cs ++ [(u, p')], by omega, by go_num, Lib.hid (by rw [List.map_append, HC.out, HTK.out]; rfl), HR7⟩
      case measure => simp [intOf]; omega
    · obtain rfl : k = ks.length := by omega
      have hp := HC.out
      rw [List.take_length] at hp
      obtain ⟨A', c', hv, h1, h2, h3⟩ := rowT_kids HR.out (Nat.le_refl _)
      have hl : cs.length = (ks.map g).length := by rw [← hp]; simp
      subst hv
      have HG := Lib.hid HR.out.g
      clear HR HC
      go_wp2
      go_ret
      have hl2 : (ks.map g).length = ks.length := List.length_map _
      refine ⟨A', c', by (rw [hl]; (try rw [hl2]); rfl), by omega, h2, HG.out, fun h0 => ?_⟩
      rw [← hp]
      exact h3 (by omega)
end Go.Proofs.YtikaamonmaohjaaGreatDoor.Ir
