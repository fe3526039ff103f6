/- Check: the type of a plan, or the error. -/
import Derived.Test.YtikaamonmaohjaaGreatDoorIChn
import Derived.Test.YtikaamonmaohjaaGreatDoorITyp
import Derived.Test.YtikaamonmaohjaaGreatDoorIRng
import Derived.Test.YtikaamonmaohjaaGreatDoorEither
import Derived.RangeFuncNested
import Derived.RangeFuncBox
import Derived.BigFrameIn
import Derived.Maps.AppendAt
namespace Go.Proofs.YtikaamonmaohjaaGreatDoor.Ir
open Go.RowKit
set_option maxRecDepth 100000
set_option maxHeartbeats 1000000

/-- a run over the nodes: the types that wait; an error; too few that wait -/
inductive Rs where
  | ok (st : List Int)
  | er (e : Int)
  | un
def stp (st : List Int) (t : Tr) : Rs :=
  if errN t.d t.ks.length ≠ 0 then .er (errN t.d t.ks.length)
  else if st.length < t.ks.length then .un
  else if tyN t.d (st.drop (st.length - t.ks.length)) = 0 then .er 3
  else .ok (st.take (st.length - t.ks.length) ++ [tyN t.d (st.drop (st.length - t.ks.length))])
theorem stp_mk (st : List Int) (d : Nf) (ks : List Tr) : stp st (.mk d ks) = if errN d ks.length ≠ 0 then .er (errN d ks.length)
  else if st.length < ks.length then .un
  else if tyN d (st.drop (st.length - ks.length)) = 0 then .er 3
  else .ok (st.take (st.length - ks.length) ++ [tyN d (st.drop (st.length - ks.length))]) := rfl
def runR : List (Nat × Tr) → Rs → Rs
  | [], r => r
  | x :: l, .ok st => runR l (stp st x.2)
  | _ :: _, .er e => .er e
  | _ :: _, .un => .un
theorem runR_er (l : List (Nat × Tr)) (e : Int) : runR l (.er e) = .er e := by cases l <;> rfl
theorem runR_un (l : List (Nat × Tr)) : runR l .un = .un := by cases l <;> rfl
theorem runR_app (a b : List (Nat × Tr)) (r : Rs) : runR (a ++ b) r = runR b (runR a r) := by
  induction a generalizing r with
  | nil => rfl
  | cons x l ih =>
    cases r with
    | ok st => exact ih _
    | er e => rw [List.cons_append, runR, runR, runR_er]
    | un => rw [List.cons_append, runR, runR, runR_un]
mutual
/-- the type, or the error: kids first -/
def ckT : Tr → Except Int Int
  | .mk d ks => match ckK ks with
    | .error e => .error e
    | .ok ts => if errN d ks.length ≠ 0 then .error (errN d ks.length) else if tyN d ts = 0 then .error 3 else .ok (tyN d ts)
def ckK : List Tr → Except Int (List Int)
  | [] => .ok []
  | t :: r => match ckT t with
    | .error e => .error e
    | .ok a => match ckK r with
      | .error e => .error e
      | .ok ts => .ok (a :: ts)
end
theorem ckK_len : ∀ {ks : List Tr} {ts : List Int}, ckK ks = .ok ts → ts.length = ks.length
  | [], ts, h => by
    rw [ckK] at h
    injection h with h
    rw [← h]; rfl
  | t :: r, ts, h => by
    rw [ckK] at h
    split at h
    · cases h
    · split at h
      · cases h
      · rename_i ts' h'
        injection h with h
        rw [← h, List.length_cons, List.length_cons, ckK_len h']
def asR (st : List Int) : Except Int Int → Rs
  | .error e => .er e
  | .ok a => .ok (st ++ [a])
def asK (st : List Int) : Except Int (List Int) → Rs
  | .error e => .er e
  | .ok ts => .ok (st ++ ts)
mutual
theorem run_T : ∀ (t : Tr) (dp : Nat) (st : List Int), runR (nodesT dp t) (.ok st) = asR st (ckT t)
  | .mk d ks, dp, st => by
    rw [nodesT, runR_app, run_K ks (dp + 1) st, ckT]
    cases hk : ckK ks with
    | error e => simp only [asK]; rw [runR_er]; rfl
    | ok ts =>
      have hl := ckK_len hk
      simp only [asK, runR]
      have e1 : (st ++ ts).length - ks.length = st.length := by rw [List.length_append]; omega
      have e2 : (st ++ ts).drop ((st ++ ts).length - ks.length) = ts := by rw [e1, List.drop_left]
      have e3 : (st ++ ts).take ((st ++ ts).length - ks.length) = st := by rw [e1, List.take_left]
      rw [stp_mk]
      simp only [e2, e3]
      by_cases h0 : errN d ks.length ≠ 0
      · rw [if_pos h0, if_pos h0]; rfl
      · rw [if_neg h0, if_neg h0, if_neg (by rw [List.length_append]; omega)]
        by_cases h1 : tyN d ts = 0
        · rw [if_pos h1, if_pos h1]; rfl
        · rw [if_neg h1, if_neg h1]; rfl
theorem run_K : ∀ (ks : List Tr) (dp : Nat) (st : List Int), runR (nodesK dp ks) (.ok st) = asK st (ckK ks)
  | [], dp, st => by rw [nodesK, ckK]; simp [runR, asK]
  | t :: r, dp, st => by
    rw [nodesK, runR_app, run_T t dp st, ckK]
    cases ht : ckT t with
    | error e => simp only [asR]; rw [runR_er]; rfl
    | ok a =>
      simp only [asR]
      rw [run_K r dp (st ++ [a])]
      cases hr : ckK r with
      | error e => rfl
      | ok ts => simp [asK]
end
/-- never do too few wait -/
theorem run_pre {t : Tr} {pre : List (Nat × Tr)} {x : Nat × Tr} {st : List Int} (hp : pre ++ [x] <+: nodesT 1 t) (h : runR pre (.ok []) = .ok st) (he : errN x.2.d x.2.ks.length = 0) : x.2.ks.length ≤ st.length := by
  obtain ⟨suf, hs⟩ := hp
  have h1 := run_T t 1 []
  rw [← hs, runR_app, runR_app, h] at h1
  rcases Nat.lt_or_ge st.length x.2.ks.length with hlt | hge
  · have e2 : runR [x] (.ok st) = .un := by
      show stp st x.2 = _
      unfold stp
      rw [if_neg (by omega), if_pos hlt]
    rw [e2, runR_un] at h1
    cases hc : ckT t <;> rw [hc] at h1 <;> cases h1
  · exact hge
theorem runR_pre {t : Tr} {pre : List (Nat × Tr)} {e : Int} (hp : pre <+: nodesT 1 t) (h : runR pre (.ok []) = .er e) : ckT t = .error e := by
  obtain ⟨suf, hs⟩ := hp
  have h1 := run_T t 1 []
  rw [← hs, runR_app, h, runR_er] at h1
  cases hc : ckT t with
  | error e' => rw [hc] at h1; simp only [asR] at h1; injection h1 with h1; rw [h1]
  | ok a => rw [hc] at h1; simp only [asR] at h1; cases h1
theorem runR_all {t : Tr} {st : List Int} (h : runR (nodesT 1 t) (.ok []) = .ok st) : ∃ a, st = [a] ∧ ckT t = .ok a := by
  have h1 := run_T t 1 []
  rw [h] at h1
  cases hc : ckT t with
  | error e => rw [hc] at h1; simp only [asR] at h1; cases h1
  | ok a => rw [hc] at h1; simp only [asR] at h1; injection h1 with h1; exact ⟨a, by simpa using h1, rfl⟩
theorem run_len {l : List (Nat × Tr)} : ∀ {st st' : List Int}, runR l (.ok st) = .ok st' → st'.length ≤ st.length + l.length := by
  induction l with
  | nil => intro st st' h; rw [runR] at h; injection h with h; rw [h]; simp
  | cons x r ih =>
    intro st st' h
    rw [runR] at h
    unfold stp at h
    split at h
    · rw [runR_er] at h; cases h
    split at h
    · rw [runR_un] at h; cases h
    split at h
    · rw [runR_er] at h; cases h
    have := ih h
    simp only [List.length_append, List.length_take, List.length_cons, List.length_nil] at this ⊢
    omega
mutual
theorem nodes_len : ∀ (t : Tr) (dp : Nat), (nodesT dp t).length = cnt t
  | .mk d ks, dp => by rw [nodesT, List.length_append, nodesK_len ks (dp + 1), cnt]; rfl
theorem nodesK_len : ∀ (ks : List Tr) (dp : Nat), (nodesK dp ks).length = cnts ks
  | [], dp => by rw [nodesK, cnts]; rfl
  | t :: r, dp => by rw [nodesK, List.length_append, nodes_len t dp, nodesK_len r dp, cnts]
end
theorem kpI_or (b : Bool) (v : Int) : kpI b v = 0 ∨ kpI b v = v := by cases b; exact .inl rfl; exact .inr rfl
theorem binT_or (fn card xh : Int) (flag : Bool) (a b : Int) : binT fn card xh flag a b = 0 ∨ binT fn card xh flag a b = 1 ∨ binT fn card xh flag a b = 2 := by
  unfold binT
  repeat' split
  all_goals omega
theorem errN_ok {d : Nf} {nk : Nat} (h : errN d nk = 0) : okK d.k = true ∧ (nk : Int) = kdN d.k := by
  unfold errN at h
  split at h
  · cases h
  · rename_i h1
    refine ⟨?_, ?_⟩
    · cases e : okK d.k
      · exact absurd (.inl e) h1
      · rfl
    · exact Decidable.byContradiction fun e => h1 (.inr e)
theorem tyN_or {d : Nf} {ts : List Int} (hts : ∀ x ∈ ts, x = 1 ∨ x = 2) : tyN d ts = 0 ∨ tyN d ts = 1 ∨ tyN d ts = 2 := by
  have hg : ts.getD 0 0 = 0 ∨ ts.getD 0 0 = 1 ∨ ts.getD 0 0 = 2 := by
    cases ts with
    | nil => exact .inl rfl
    | cons x r => rcases hts x (by simp) with h | h <;> simp [h]
  unfold tyN
  split
  · exact .inr (.inl rfl)
  split
  · exact .inr (.inr rfl)
  split
  · exact hg
  split
  · rcases kpI_or (ts.getD 0 0 == 2) 2 with h | h <;> rw [h] <;> omega
  split
  · rcases kpI_or (ts.getD 0 0 == 2) 1 with h | h <;> rw [h] <;> omega
  split
  · rcases kpI_or (ts.getD 0 0 == 1) 2 with h | h <;> rw [h] <;> omega
  · exact binT_or _ _ _ _ _ _
/-- what Check answers: the type, the error -/
def limB (t : Tr) : Bool := decide (400 < cnt t) || decide (40 < dep t) || !fit t 1
def chkV (t : Tr) : Int × Int := if limB t then (0, 6) else match ckT t with | .error e => (0, e) | .ok a => (a, 0)
theorem nodes_seq (n Bt : Nat) (t : Tr) (p : Np) (W0 w : World) (hT : TrP W0 t p) (hg : Gr W0 w) (hB : CellsAt w Bt 0 (nV t.d p t.ks.length)) (hdep : dep t ≤ 1000) :
    SeqG n 35 #[.pointer (some ⟨Bt, 0, none⟩)] (Nx.vs (W0 := W0)) W0.heap.size (fun ys => ys.map Nx.key = nodesT 1 t) (fun pre => pre.map Nx.key <+: nodesT 1 t) (fun pre x => (pre ++ [x]).map Nx.key <+: nodesT 1 t) w := fun l J Jx W hW hJ hY h0 => by
  have hbl := World.block_lt_of_cell? w ⟨Bt, 0 + 0, none⟩ (hB 0 _ rfl)
  have hB' : CellsAt W Bt 0 (nV t.d p t.ks.length) := fun j v e => (hW.cell (p := ⟨Bt, 0 + j, none⟩) hbl).trans (hB j v e)
  exact nodes1_in Fence.wide rfl n trivial trivial rfl l Bt t p W0 J Jx hJ hY W hT ⟨hg.b.trans (hW.mono hg.size)⟩ hB' hdep h0
end Go.Proofs.YtikaamonmaohjaaGreatDoor.Ir
namespace Go.Proofs.YtikaamonmaohjaaGreatDoor.Ir
open Go.RowKit Go.Shelf
set_option maxRecDepth 100000
set_option maxHeartbeats 1000000

section
variable {F : Fence} {nF : Nat} {ops : Array Oper} {rest : List Oper} {o : Oper} {a : Act} {w : World} {Q : Exit → Act → World → Prop} {d : Nf} {p : Np} {nk : Nat}
/-- a node is loaded where a guard lets it -/
theorem load_nodeInG (x : Operand) (ho : o.op = .load 31 x) (hw : Region.wanted o (yielded ops a.tmps) = true) (b of : Nat) (hx : a.eval x = .pointer (some ⟨b, of, none⟩)) (hc : CellsAt w b of (nV d p nk))
    (h : wpListIn F nF Tryz.prog ops Q rest (a.put o.dst (.agg (nV d p nk).toArray)) w) : wpListIn F nF Tryz.prog ops Q (o :: rest) a w := by
  refine BigFrame.wpListIn_want hw fun K hK => ?_
  unfold Oper.wpIn
  refine ⟨by simp [Oper.about, ho], ?_⟩
  rw [Oper.semAt_plain F _ _ (by rw [ho]; intro c hc'; cases hc')]
  have hrun := run_loadAt_mid (P := Tryz.prog) w b of 31 (nV d p nk) _ hc Tryz.underlying31 rfl info_node
  simp [execOp, ho, hx, hrun, Result.andThen]
  exact hK _ _ h
end
theorem cells_turn {W W' : World} {row : Option Nat} (hg : W.grownBy W' row) (hr : ∀ r, row = some r → ∃ o : Obj, W.heap[r]? = some o ∧ o.isCells = false) {b : Nat} {cs : Array Value} {T : TypeId} {fr : Nat × Nat} (h : W.heap[b]? = some (.cells cs T fr)) : W'.heap[b]? = some (.cells cs T fr) :=
  (hg.block b (Array.getElem?_eq_some_iff.1 h).1 (fun e => by
    obtain ⟨o, ho, hc⟩ := hr b e.symm
    rw [h] at ho
    obtain rfl := Option.some.inj ho
    cases hc)).trans h
theorem own_block {W : World} {base : Nat} {e : TypeId} {size : Nat} {v : Value} {n : Nat} {xs : List Value} (h : W.ownsRow base e size v n xs) {k : Nat} (hk : v.ownBlock = some k) : ∃ cur, W.heap[k]? = some (.cells cur e (0, 0)) := by
  rcases h.2 with ⟨e1, -⟩ | ⟨g, cap, cur, e1, -, hg, -⟩
  · rw [e1] at hk; cases hk
  · rw [e1] at hk
    obtain rfl : g = k := Option.some.inj hk
    exact ⟨cur, hg⟩
theorem own_turn {W W' : World} {row : Option Nat} (hg : W.grownBy W' row) (hr : ∀ r, row = some r → ∃ o : Obj, W.heap[r]? = some o ∧ o.isCells = false) {base : Nat} {e : TypeId} {size : Nat} {v : Value} {n : Nat} {xs : List Value} (h : W.ownsRow base e size v n xs) : W'.ownsRow base e size v n xs := by
  refine h.kept hg ?_
  cases hb : v.ownBlock with
  | none => exact .inl rfl
  | some k =>
    refine .inr fun e' => ?_
    obtain ⟨o, ho, hc⟩ := hr k e'.symm
    obtain ⟨cur, hcur⟩ := own_block h hb
    rw [hcur] at ho
    obtain rfl := Option.some.inj ho
    cases hc
theorem own_take {W : World} {base : Nat} {e : TypeId} {A : Option Addr} {n c : Nat} {xs : List Value} (h : W.ownsRow base e 1 (.slice A n c) n xs) {k : Nat} (hk : k ≤ n) : W.ownsRow base e 1 (.slice A k c) k (xs.take k) := by
  obtain ⟨h1, h2⟩ := h
  refine ⟨by rw [List.length_take, h1]; omega, ?_⟩
  rcases h2 with ⟨e1, e2⟩ | ⟨g, cap, cur, e1, hb, hg, hn, hm, hs, hx⟩
  · simp only [Value.slice.injEq] at e1
    obtain ⟨rfl, rfl, rfl⟩ := e1
    obtain rfl : k = 0 := by omega
    exact .inl ⟨rfl, rfl⟩
  · simp only [Value.slice.injEq] at e1
    obtain ⟨rfl, -, rfl⟩ := e1
    refine .inr ⟨g, c, cur, rfl, hb, hg, by omega, hm, hs, ?_⟩
    rw [← hx, List.take_take]
    congr 1
    omega
theorem own_ints {W : World} {base : Nat} {v : Value} {st : List Int} {T : TypeId} (h : W.ownsRow base T 1 v st.length (st.map (Value.int .i64))) : ∃ A c, v = .slice A st.length c ∧ st.length ≤ c ∧ c ≤ maxLen ∧ (0 < st.length → ∃ g, A = some ⟨g, 0, none⟩ ∧ ∀ i x, st[i]? = some x → W.cell? ⟨g, i, none⟩ = some (.int .i64 x)) := by
  have hcl := fun (g : Nat) (hg : v.ownBlock = some g) => h.cells hg
  rcases h.2 with ⟨e, e0⟩ | ⟨g, cap, cur, rfl, hb, hg, h1, h2, h3, h4⟩
  · exact ⟨none, 0, by rw [e, e0], by omega, by unfold maxLen; omega, fun hh => absurd hh (by omega)⟩
  · refine ⟨_, cap, rfl, h1, h2, fun _ => ⟨g, rfl, fun i x hx => ?_⟩⟩
    have := hcl g rfl i (.int .i64 x) (by rw [List.getElem?_map, hx]; rfl)
    have hadd : (⟨g, 0, none⟩ : Addr).add i = ⟨g, i, none⟩ := by unfold Addr.add; split <;> simp_all
    rw [hadd] at this
    exact this
/-- what Check's own memory holds while the loop runs: the types that wait -/
structure CkI (w : World) (R2 R3 T NB : Nat) (st : List Int) (W : World) : Prop where
  g : Gr w W
  r2 : W.heap[R2]? = some (.cells #[.int .i64 0] 3 (0, 0))
  r3 : W.heap[R3]? = some (.cells #[.int .i64 0] 42 (0, 0))
  row : ∃ v, W.heap[T]? = some (.cells #[v] 58 (0, 0)) ∧ W.ownsRow NB 3 1 v st.length (st.map (Value.int .i64))
/-- what it holds once an error is told -/
structure CkX (w : World) (R2 R3 : Nat) (a e : Int) (W : World) : Prop where
  g : Gr w W
  r2 : W.heap[R2]? = some (.cells #[.int .i64 a] 3 (0, 0))
  r3 : W.heap[R3]? = some (.cells #[.int .i64 e] 42 (0, 0))
theorem Gr.turn {w W W' : World} (h : Gr w W) {row : Option Nat} (hg : W.grownBy W' row) (hr : ∀ r, row = some r → w.heap.size ≤ r) : Gr w W' := ⟨h.b.grown hg h.b.size hr⟩
theorem CkI.turn {w W W' : World} {R2 R3 T NB : Nat} {st : List Int} (h : CkI w R2 R3 T NB st W) {row : Option Nat} (hg : W.grownBy W' row) (hr : ∀ r, row = some r → w.heap.size ≤ r ∧ ∃ o : Obj, W.heap[r]? = some o ∧ o.isCells = false) : CkI w R2 R3 T NB st W' := by
  obtain ⟨v, h1, h2⟩ := h.row
  exact ⟨Gr.turn h.g hg (fun r e => (hr r e).1), cells_turn hg (fun r e => (hr r e).2) h.r2, cells_turn hg (fun r e => (hr r e).2) h.r3, v, cells_turn hg (fun r e => (hr r e).2) h1, own_turn hg (fun r e => (hr r e).2) h2⟩
theorem CkX.turn {w W W' : World} {R2 R3 : Nat} {a e : Int} (h : CkX w R2 R3 a e W) {row : Option Nat} (hg : W.grownBy W' row) (hr : ∀ r, row = some r → w.heap.size ≤ r ∧ ∃ o : Obj, W.heap[r]? = some o ∧ o.isCells = false) : CkX w R2 R3 a e W' :=
  ⟨Gr.turn h.g hg (fun r e => (hr r e).1), cells_turn hg (fun r e => (hr r e).2) h.r2, cells_turn hg (fun r e => (hr r e).2) h.r3⟩
theorem grown_of_gr {W W' : World} (g : Gr W W') : W.grownBy W' none := ⟨g.b.os, g.b.tape, g.b.output, g.b.size, fun k hk _ => g.b.block k hk⟩
theorem heap_gr {W W' : World} (g : Gr W W') {b : Nat} {o : Obj} (h : W.heap[b]? = some o) : W'.heap[b]? = some o := (g.b.block b (Array.getElem?_eq_some_iff.1 h).1).trans h
theorem CkI.gr {w W W' : World} {R2 R3 T NB : Nat} {st : List Int} (h : CkI w R2 R3 T NB st W) (g : Gr W W') : CkI w R2 R3 T NB st W' := h.turn (grown_of_gr g) (fun r e => by cases e)
theorem Gr.keepsFrom {W W' : World} (g : Gr W W') (B : Nat) : KeepsFrom B W W' := KeepsFrom.of_grownBy (grown_of_gr g) (fun r e => by cases e)
/-- both results are stored -/
theorem res_of {w W : World} {R2 R3 : Nat} (hg : Gr w W) (r2 : W.heap[R2]? = some (.cells #[.int .i64 0] 3 (0, 0))) (r3 : W.heap[R3]? = some (.cells #[.int .i64 0] 42 (0, 0))) (a e : Int) (h2 : w.heap.size ≤ R2) (h3 : w.heap.size ≤ R3) : CkX w R2 R3 a e ((W.setCell ⟨R2, 0, none⟩ (.int .i64 a)).setCell ⟨R3, 0, none⟩ (.int .i64 e)) := by
  have hne : R2 ≠ R3 := fun e => by
    rw [e, r3] at r2
    have h4 := Option.some.inj r2
    injection h4 with _ h5
    exact absurd h5 (by decide)
  refine ⟨(hg.setCell h2 _).setCell h3 _, ?_, ?_⟩
  · rw [Below.heap_setCell _ _ _ _ (by show R2 ≠ R3; exact hne)]
    have := heap_setCell_same W R2 0 _ _ (.int .i64 a) r2
    simpa using this
  · have h3' := (Below.heap_setCell W ⟨R2, 0, none⟩ (.int .i64 a) R3 (by show R3 ≠ R2; exact hne.symm)).trans r3
    have := heap_setCell_same _ R3 0 _ _ (.int .i64 e) h3'
    simpa using this
theorem CkI.err {w W : World} {R2 R3 T NB : Nat} {st : List Int} (h : CkI w R2 R3 T NB st W) (a e : Int) (h2 : w.heap.size ≤ R2) (h3 : w.heap.size ≤ R3) : CkX w R2 R3 a e ((W.setCell ⟨R2, 0, none⟩ (.int .i64 a)).setCell ⟨R3, 0, none⟩ (.int .i64 e)) := res_of h.g h.r2 h.r3 a e h2 h3
/-- Check's two results, out of their cells -/
theorem results_ck {w W : World} {R2 R3 : Nat} {a e : Int} (h : CkX w R2 R3 a e W) (tmps : Array Value) (h2 : tmps.getD 2 undef = .pointer (some ⟨R2, 0, none⟩)) (h3 : tmps.getD 3 undef = .pointer (some ⟨R3, 0, none⟩)) :
    (results Tryz.f10 tmps).run Tryz.prog W = .ok (.tuple #[.int .i64 a, .int .i64 e]) W := by
  have hres : Tryz.f10.results = #[.cell 2 3, .cell 3 42] := by kernel_rfl
  have c2 := cell_of_row W R2 0 _ _ (0, 0) h.r2
  have c3 := cell_of_row W R3 0 _ _ (0, 0) h.r3
  simp only [List.getElem?_toArray, List.getElem?_cons_zero] at c2 c3
  have h2' : tmps[2]?.getD undef = .pointer (some ⟨R2, 0, none⟩) := by simpa using h2
  have h3' : tmps[3]?.getD undef = .pointer (some ⟨R3, 0, none⟩) := by simpa using h3
  simp [results, h2', h3', go_sem, c2, c3]
theorem two_new (W1 : World) : ∀ W, Gr ((W1.alloc (.cells #[.int .i64 0] 3)).alloc (.cells #[.int .i64 0] 42)) W → W.heap[W1.heap.size]? = some (.cells #[.int .i64 0] 3 (0, 0)) ∧ W.heap[W1.heap.size + 1]? = some (.cells #[.int .i64 0] 42 (0, 0)) := fun W g => by
  refine ⟨heap_gr g (heap_gr ((Gr.refl _).alloc _ _) (World.alloc_heap_new W1 _)), heap_gr g ?_⟩
  have := World.alloc_heap_new (W1.alloc (.cells #[.int .i64 0] 3)) (.cells #[.int .i64 0] 42)
  rwa [World.size_alloc] at this
theorem err_keeps (W : World) (R2 R3 B : Nat) (u v : Value) : KeepsFrom B W ((W.setCell ⟨R2, 0, none⟩ u).setCell ⟨R3, 0, none⟩ v) :=
  ((KeepsOthers.setCell _ _ _).trans (KeepsOthers.setCell _ _ _)).from B
theorem next_T {W W2 w3 : World} {T NB : Nat} {st : List Int} {v : Value} (g : Gr W W2) (hv : W.heap[T]? = some (.cells #[v] 58 (0, 0))) (hvo : W.ownsRow NB 3 1 v st.length (st.map (Value.int .i64))) (hg3 : W2.grownBy w3 v.ownBlock) : w3.heap[T]? = some (.cells #[v] 58 (0, 0)) :=
  (hg3.block T (Array.getElem?_eq_some_iff.1 (heap_gr g hv)).1 (fun e => by
    obtain ⟨cur, hcur⟩ := own_block hvo e.symm
    rw [hv] at hcur
    have h4 := Option.some.inj hcur
    injection h4 with _ h5
    exact absurd h5 (by decide))).trans (heap_gr g hv)
theorem info_int : (Tryz.prog.info? 3).map (fun i => (i.zero, i.size, i.bytes)) = some (some (.int .i64 0), 1, 8) := by kernel_rfl
/-- the round's end: the types that wait, one more -/
theorem CkI.next {w W W2 w3 : World} {R2 R3 T NB : Nat} {st st' : List Int} {v v2 : Value} (h : CkI w R2 R3 T NB st W) (g : Gr W W2) (hv : W.heap[T]? = some (.cells #[v] 58 (0, 0))) (hvo : W.ownsRow NB 3 1 v st.length (st.map (Value.int .i64)))
    (hg3 : W2.grownBy w3 v.ownBlock) (hown : w3.ownsRow NB 3 1 v2 st'.length (st'.map (Value.int .i64))) (hT : w.heap.size ≤ T) (hNB : w.heap.size ≤ NB) (hTl : T < NB) (hRl : R2 < NB) :
    CkI w R2 R3 T NB st' (w3.setCell ⟨T, 0, none⟩ v2) ∧ (∀ n₀, n₀ ≤ w.heap.size → Kn n₀ W (w3.setCell ⟨T, 0, none⟩ v2)) ∧ (∀ B, KeepsFrom B W (w3.setCell ⟨T, 0, none⟩ v2)) := by
  have _ := hNB
  have hob := fun (k : Nat) (hk : v.ownBlock = some k) => own_block hvo hk
  have hrow : ∀ r, v.ownBlock = some r → NB ≤ r := fun r e => (hvo.lt r e).1
  have key : ∀ {b : Nat} {cs : Array Value} {t : TypeId} {fr : Nat × Nat}, t ≠ 3 → W.heap[b]? = some (.cells cs t fr) → w3.heap[b]? = some (.cells cs t fr) := fun {b cs t fr} ht hb =>
    (hg3.block b (Array.getElem?_eq_some_iff.1 (heap_gr g hb)).1 (fun e => by
      obtain ⟨cur, hcur⟩ := hob _ e.symm
      rw [hb] at hcur
      have h4 := Option.some.inj hcur
      injection h4 with _ h5
      exact ht h5)).trans (heap_gr g hb)
  have h3T := key (by decide) hv
  have hR2 : w3.heap[R2]? = some (.cells #[.int .i64 0] 3 (0, 0)) :=
    (hg3.block R2 (Array.getElem?_eq_some_iff.1 (heap_gr g h.r2)).1 (fun e => by have := hrow _ e.symm; omega)).trans (heap_gr g h.r2)
  have hR3 := key (by decide) h.r3
  have hRT2 : R2 ≠ T := fun e => by
    have h2 := h.r2
    rw [e, hv] at h2
    have h4 := Option.some.inj h2
    injection h4 with _ h5
    exact absurd h5 (by decide)
  have hRT3 : R3 ≠ T := fun e => by
    have h2 := h.r3
    rw [e, hv] at h2
    have h4 := Option.some.inj h2
    injection h4 with _ h5
    exact absurd h5 (by decide)
  refine ⟨⟨?_, ?_, ?_, v2, ?_, ?_⟩, fun n₀ hn => ⟨?_, ?_⟩, fun B => ?_⟩
  · exact (Gr.turn (h.g.trans g) hg3 (fun r e => by have := hrow r e; omega)).setCell hT _
  · exact (Below.heap_setCell _ _ _ _ (by show R2 ≠ T; exact hRT2)).trans hR2
  · exact (Below.heap_setCell _ _ _ _ (by show R3 ≠ T; exact hRT3)).trans hR3
  · have := heap_setCell_same w3 T 0 _ _ v2 h3T
    simpa using this
  · exact ownsRow_setCell_below hown (by show T < NB; exact hTl) _
  · exact (((g.b.mono (by have := h.g.size; omega)).grown hg3 (by have := h.g.size; have := g.size; omega) (fun r e => by have := hrow r e; omega))).setCell (by show n₀ ≤ T; omega) _
  · intro b cs fr hb
    have hne : b ≠ T := fun e => by
      rw [e, hv] at hb
      have h4 := Option.some.inj hb
      injection h4 with _ h5
      exact absurd h5 (by decide)
    exact (Below.heap_setCell _ _ _ _ (by show b ≠ T; exact hne)).trans (key (by decide) hb)
  · refine ((Gr.keepsFrom g B).trans ?_).trans ((KeepsOthers.setCell _ _ _).from B)
    exact ⟨hg3.size, fun k o _ hk ho => (hg3.block k (Array.getElem?_eq_some_iff.1 hk).1 (fun e => by
      obtain ⟨cur, hcur⟩ := hob _ e.symm
      have := heap_gr g hcur
      rw [this] at hk
      obtain rfl := Option.some.inj hk
      cases ho)).trans hk⟩
end Go.Proofs.YtikaamonmaohjaaGreatDoor.Ir
namespace Go.Proofs.YtikaamonmaohjaaGreatDoor.Ir
open Go.RowKit Go.Shelf
set_option maxRecDepth 100000
set_option maxHeartbeats 1000000
attribute [local go_sem] Oper.semAt_some

def CkPost (t : Tr) (w : World) (e : Ending) (w' : World) : Prop := e = .returned (.tuple #[.int .i64 (chkV t).1, .int .i64 (chkV t).2]) ∧ Gr w w'
theorem chk_any (t : Tr) (p : Np) (w : World) (h : TrP w t p) (hl : Lt w) (hm : ∀ x ∈ nodesT 1 t, x.2.d.m.length ≤ 1000000) :
    Calls Tryz.prog 10 #[.agg (nV t.d p t.ks.length).toArray] w (CkPost t w) := by
  obtain ⟨W1, hW1, g1, hb1, -, hsz⟩ := nbox w (nV t.d p t.ks.length) 31
  obtain ⟨P, hP⟩ : ∃ P, w.heap.size = P := ⟨_, rfl⟩
  rw [hP] at hb1 hsz
  have HP := Lib.hid hP; have HW1 := Lib.hid hW1; have HG1 := Lib.hid g1
  have HT := Lib.hid h
  have HB : Hid (∀ W, Gr W1 W → CellsAt W P 0 (nV t.d p t.ks.length)) := Lib.hid (fun W g => hb1.gr g)
  have HSZ := Lib.hid hsz
  have cs := fun W (g : Gr W1 W) => isize_any t p W (TrP.gr (g1.trans g) t p h)
  have cd := fun W (g : Gr W1 W) => idepth_any t p W (TrP.gr (g1.trans g) t p h)
  have cf := fun W (g : Gr W1 W) => fit_any t p 1 W (TrP.gr (g1.trans g) t p h) (by omega) (by omega)
  have CS := Lib.hid cs
  have CD := Lib.hid cd; have CF := Lib.hid cf
  have HL := Lib.hid hl; have HM := Lib.hid hm
  clear hW1 g1 hb1 hsz hP h cs cd cf hl hm
  refine (callsIn_wide (n := 9)).1 ?_
  refine callsIn_of_wp_marks Tryz.func10 rfl trivial ?_ rfl
  simp only [Tryz.ntmps10, List.size_toArray, List.length_cons, List.length_nil, Nat.reduceAdd, Nat.reduceSub, Array.replicate_succ, Array.replicate_zero, List.push_toArray, List.append_toArray, List.nil_append, List.cons_append]
  have hfit : ((1 : Nat) : Int) = 1 := rfl
  clear hfit
  by_cases hc : 400 < cnt t
  · have HVE : Hid (chkV t = (0, 6)) := Lib.hid (by unfold chkV limB; rw [decide_eq_true hc]; simp)
    obtain ⟨s1, hs1e⟩ : ∃ s, min (cnt t) 401 = s := ⟨_, rfl⟩
    obtain ⟨s2, hs2e⟩ : ∃ s, min (dep t) 41 = s := ⟨_, rfl⟩
    have hd1 : decide ((400 : Int) < (s1 : Int)) = true := decide_eq_true (by omega)
    rw [hs1e] at CS; rw [hs2e] at CD
    have kk : w.heap.size ≤ W1.heap.size := HG1.out.size
    have KK := Lib.hid kk
    clear kk hs1e hs2e hc
    gi_wp2_with (first
      | (refine box_nodeIn rfl (.tmp 0) rfl rfl ?_; rw [HW1.out, HP.out])
      | (refine load_nodeIn rfl (.tmp 1) rfl _ _ rfl (HB.out _ (by first | assumption | exact ((Gr.refl _).alloc _ _).alloc _ _ | exact Gr.alloc (by assumption) _ _)) ?_)
      | (refine load_nodeInG (.tmp 1) rfl (by rfl) _ _ rfl (HB.out _ (by assumption)) ?_)
      | (refine ⟨trivial, ?_⟩; gi_at_call 11; refine (callsIn_wide.2 (CS.out _ (((Gr.refl _).alloc _ _).alloc _ _))).mono ?_; rintro e w4 ⟨rfl, r4⟩; have g4 : Gr W1 w4 := (((Gr.refl _).alloc _ _).alloc _ _).trans r4; have t2 := (two_new W1 w4 (r4)).1; have t3 := (two_new W1 w4 (r4)).2; have c2 := cell_of_row w4 _ 0 _ _ (0, 0) t2; have f2 := frozen_of_row w4 _ 0 _ _ t2; have c3 := cell_of_row w4 _ 0 _ _ (0, 0) t3; have f3 := frozen_of_row w4 _ 0 _ _ t3; simp only [List.getElem?_toArray, List.getElem?_cons_zero] at c2 c3; have T2 := Lib.hid t2; have T3 := Lib.hid t3; clear t2 t3)
      | (refine ⟨trivial, ?_⟩; gi_at_call 12; refine (callsIn_wide.2 (CD.out _ g4)).mono ?_; rintro e w5 ⟨rfl, r5⟩; have g5 : Gr W1 w5 := g4.trans r5; skip)
      | (refine ⟨trivial, ?_⟩; gi_at_call 18; refine (callsIn_wide.2 (CF.out _ g5)).mono ?_; rintro e w6 ⟨rfl, r6⟩; have g6 : Gr W1 w6 := g5.trans r6; skip))
    refine ⟨trivial, ?_⟩
    gi_wp2
    refine ⟨trivial, ?_⟩
    gi_wp2
    have hX := res_of (HG1.out.trans g4) T2.out T3.out 0 6 KK.out (Nat.le_succ_of_le KK.out)
    refine ⟨_, results_ck hX _ rfl rfl, ?_, hX.g⟩
    rw [HVE.out]
  by_cases hdp : 40 < dep t
  · have HVE : Hid (chkV t = (0, 6)) := Lib.hid (by unfold chkV limB; rw [decide_eq_true hdp]; simp)
    obtain ⟨s1, hs1e⟩ : ∃ s, min (cnt t) 401 = s := ⟨_, rfl⟩
    obtain ⟨s2, hs2e⟩ : ∃ s, min (dep t) 41 = s := ⟨_, rfl⟩
    have hd1 : decide ((400 : Int) < (s1 : Int)) = false := decide_eq_false (by omega)
    have hd2 : decide ((40 : Int) < (s2 : Int)) = true := decide_eq_true (by omega)
    rw [hs1e] at CS; rw [hs2e] at CD
    have kk : w.heap.size ≤ W1.heap.size := HG1.out.size
    have KK := Lib.hid kk
    clear kk hs1e hs2e hc hdp
    gi_wp2_with (first
      | (refine box_nodeIn rfl (.tmp 0) rfl rfl ?_; rw [HW1.out, HP.out])
      | (refine load_nodeIn rfl (.tmp 1) rfl _ _ rfl (HB.out _ (by first | assumption | exact ((Gr.refl _).alloc _ _).alloc _ _ | exact Gr.alloc (by assumption) _ _)) ?_)
      | (refine load_nodeInG (.tmp 1) rfl (by rfl) _ _ rfl (HB.out _ (by assumption)) ?_)
      | (refine ⟨trivial, ?_⟩; gi_at_call 11; refine (callsIn_wide.2 (CS.out _ (((Gr.refl _).alloc _ _).alloc _ _))).mono ?_; rintro e w4 ⟨rfl, r4⟩; have g4 : Gr W1 w4 := (((Gr.refl _).alloc _ _).alloc _ _).trans r4; skip)
      | (refine ⟨trivial, ?_⟩; gi_at_call 12; refine (callsIn_wide.2 (CD.out _ g4)).mono ?_; rintro e w5 ⟨rfl, r5⟩; have g5 : Gr W1 w5 := g4.trans r5; have t2 := (two_new W1 w5 (r4.trans r5)).1; have t3 := (two_new W1 w5 (r4.trans r5)).2; have c2 := cell_of_row w5 _ 0 _ _ (0, 0) t2; have f2 := frozen_of_row w5 _ 0 _ _ t2; have c3 := cell_of_row w5 _ 0 _ _ (0, 0) t3; have f3 := frozen_of_row w5 _ 0 _ _ t3; simp only [List.getElem?_toArray, List.getElem?_cons_zero] at c2 c3; have T2 := Lib.hid t2; have T3 := Lib.hid t3; clear t2 t3)
      | (refine ⟨trivial, ?_⟩; gi_at_call 18; refine (callsIn_wide.2 (CF.out _ g5)).mono ?_; rintro e w6 ⟨rfl, r6⟩; have g6 : Gr W1 w6 := g5.trans r6; skip))
    refine ⟨trivial, ?_⟩
    gi_wp2
    have hX := res_of (HG1.out.trans g5) T2.out T3.out 0 6 KK.out (Nat.le_succ_of_le KK.out)
    refine ⟨_, results_ck hX _ rfl rfl, ?_, hX.g⟩
    rw [HVE.out]
  cases hft : fit t 1
  · have HVE : Hid (chkV t = (0, 6)) := Lib.hid (by unfold chkV limB; rw [hft]; simp)
    obtain ⟨s1, hs1e⟩ : ∃ s, min (cnt t) 401 = s := ⟨_, rfl⟩
    obtain ⟨s2, hs2e⟩ : ∃ s, min (dep t) 41 = s := ⟨_, rfl⟩
    have hd1 : decide ((400 : Int) < (s1 : Int)) = false := decide_eq_false (by omega)
    have hd2 : decide ((40 : Int) < (s2 : Int)) = false := decide_eq_false (by omega)
    rw [hs1e] at CS; rw [hs2e] at CD
    rw [hft] at CF
    have kk : w.heap.size ≤ W1.heap.size := HG1.out.size
    have KK := Lib.hid kk
    clear kk hs1e hs2e hc hdp hft
    gi_wp2_with (first
      | (refine box_nodeIn rfl (.tmp 0) rfl rfl ?_; rw [HW1.out, HP.out])
      | (refine load_nodeIn rfl (.tmp 1) rfl _ _ rfl (HB.out _ (by first | assumption | exact ((Gr.refl _).alloc _ _).alloc _ _ | exact Gr.alloc (by assumption) _ _)) ?_)
      | (refine load_nodeInG (.tmp 1) rfl (by rfl) _ _ rfl (HB.out _ (by assumption)) ?_)
      | (refine ⟨trivial, ?_⟩; gi_at_call 11; refine (callsIn_wide.2 (CS.out _ (((Gr.refl _).alloc _ _).alloc _ _))).mono ?_; rintro e w4 ⟨rfl, r4⟩; have g4 : Gr W1 w4 := (((Gr.refl _).alloc _ _).alloc _ _).trans r4; skip)
      | (refine ⟨trivial, ?_⟩; gi_at_call 12; refine (callsIn_wide.2 (CD.out _ g4)).mono ?_; rintro e w5 ⟨rfl, r5⟩; have g5 : Gr W1 w5 := g4.trans r5; skip)
      | (refine ⟨trivial, ?_⟩; gi_at_call 18; refine (callsIn_wide.2 (CF.out _ g5)).mono ?_; rintro e w6 ⟨rfl, r6⟩; have g6 : Gr W1 w6 := g5.trans r6; have t2 := (two_new W1 w6 ((r4.trans r5).trans r6)).1; have t3 := (two_new W1 w6 ((r4.trans r5).trans r6)).2; have c2 := cell_of_row w6 _ 0 _ _ (0, 0) t2; have f2 := frozen_of_row w6 _ 0 _ _ t2; have c3 := cell_of_row w6 _ 0 _ _ (0, 0) t3; have f3 := frozen_of_row w6 _ 0 _ _ t3; simp only [List.getElem?_toArray, List.getElem?_cons_zero] at c2 c3; have T2 := Lib.hid t2; have T3 := Lib.hid t3; clear t2 t3))
    have hX := res_of (HG1.out.trans g6) T2.out T3.out 0 6 KK.out (Nat.le_succ_of_le KK.out)
    refine ⟨_, results_ck hX _ rfl rfl, ?_, hX.g⟩
    rw [HVE.out]
  have hs1 : ((min (cnt t) 401 : Nat) : Int) ≤ 400 := by omega
  have hs2 : ((min (dep t) 41 : Nat) : Int) ≤ 40 := by omega
  obtain ⟨s1, hs1e⟩ : ∃ s, min (cnt t) 401 = s := ⟨_, rfl⟩
  obtain ⟨s2, hs2e⟩ : ∃ s, min (dep t) 41 = s := ⟨_, rfl⟩
  rw [hs1e] at hs1 CS; rw [hs2e] at hs2 CD; rw [hft] at CF
  have HV : Hid (chkV t = match ckT t with | .error e => (0, e) | .ok a => (a, 0)) := Lib.hid (by unfold chkV limB; rw [decide_eq_false hc, decide_eq_false hdp, hft]; rfl)
  have HDP : Hid (dep t ≤ 1000) := Lib.hid (by omega)
  have HCN : Hid (cnt t ≤ 400) := Lib.hid (by omega)
  clear hc hdp hft hs1e hs2e
  have hd1 : decide ((400 : Int) < (s1 : Int)) = false := decide_eq_false (by omega)
  have hd2 : decide ((40 : Int) < (s2 : Int)) = false := decide_eq_false (by omega)
  clear hs1 hs2
  gi_wp2_with (first
    | (refine box_nodeIn rfl (.tmp 0) rfl rfl ?_; rw [HW1.out, HP.out])
    | (refine load_nodeIn rfl (.tmp 1) rfl _ _ rfl (HB.out _ (by first | assumption | exact ((Gr.refl _).alloc _ _).alloc _ _ | exact Gr.alloc (by assumption) _ _)) ?_)
    | (refine load_nodeInG (.tmp 1) rfl (by rfl) _ _ rfl (HB.out _ (by assumption)) ?_)
    | (refine ⟨trivial, ?_⟩; gi_at_call 11; refine (callsIn_wide.2 (CS.out _ (((Gr.refl _).alloc _ _).alloc _ _))).mono ?_; rintro e w4 ⟨rfl, r4⟩; have g4 : Gr W1 w4 := (((Gr.refl _).alloc _ _).alloc _ _).trans r4)
    | (refine ⟨trivial, ?_⟩; gi_at_call 12; refine (callsIn_wide.2 (CD.out _ g4)).mono ?_; rintro e w5 ⟨rfl, r5⟩; have g5 : Gr W1 w5 := g4.trans r5)
    | (refine ⟨trivial, ?_⟩; gi_at_call 18; refine (callsIn_wide.2 (CF.out _ g5)).mono ?_; rintro e w6 ⟨rfl, r6⟩; have g6 : Gr W1 w6 := g5.trans r6)
    | (refine ⟨trivial, ?_⟩; gi_at_call 19; refine (callsIn_wide.2 (nodes_any t p _)).mono ?_; rintro e w7 ⟨rfl, rfl⟩))
  obtain ⟨W2, hW2⟩ : ∃ W2, (W1.alloc (.cells #[.int .i64 0] 3)).alloc (.cells #[.int .i64 0] 42) = W2 := ⟨_, rfl⟩
  rw [hW2] at r4
  have q2 : W2.heap[W1.heap.size]? = some (.cells #[.int .i64 0] 3 (0, 0)) := by
    rw [← hW2]
    exact heap_gr ((Gr.refl _).alloc _ _) (World.alloc_heap_new W1 _)
  have q3 : W2.heap[W1.heap.size + 1]? = some (.cells #[.int .i64 0] 42 (0, 0)) := by
    rw [← hW2]
    have := World.alloc_heap_new (W1.alloc (.cells #[.int .i64 0] 3)) (.cells #[.int .i64 0] 42)
    rwa [World.size_alloc] at this
  have gW2 : Gr W1 W2 := by rw [← hW2]; exact ((Gr.refl _).alloc _ _).alloc _ _
  have r26 : Gr W2 w6 := (r4.trans r5).trans r6
  obtain ⟨Wt, hWt⟩ : ∃ Wt, w6.alloc (.cells #[.slice none 0 0] 58) = Wt := ⟨_, rfl⟩
  obtain ⟨Wn, hWn⟩ : ∃ Wn, Wt.alloc (.cells (nV t.d p t.ks.length).toArray 31) = Wn := ⟨_, rfl⟩
  have gt : Gr w6 Wt := by rw [← hWt]; exact (Gr.refl _).alloc _ _
  have gn : Gr Wt Wn := by rw [← hWn]; exact (Gr.refl _).alloc _ _
  have szt : Wt.heap.size = w6.heap.size + 1 := by rw [← hWt, World.size_alloc]
  have szn : Wn.heap.size = w6.heap.size + 2 := by rw [← hWn, World.size_alloc, szt]
  have hTc : Wn.heap[w6.heap.size]? = some (.cells #[.slice none 0 0] 58 (0, 0)) := heap_gr gn (by rw [← hWt]; exact World.alloc_heap_new w6 _)
  have hBn : Wn.heap[w6.heap.size + 1]? = some (.cells (nV t.d p t.ks.length).toArray 31 (0, 0)) := by
    rw [← hWn, ← szt]; exact World.alloc_heap_new Wt _
  rw [hWt, hWn]
  have GN : Gr w Wn := ((((HG1.out.trans gW2).trans r26).trans gt).trans gn)
  have g6n : Gr W2 Wn := (r26.trans gt).trans gn
  have hR2 := heap_gr g6n q2
  have hR3 := heap_gr g6n q3
  have hs26 := r26.size
  have hs12 := (Array.getElem?_eq_some_iff.1 q3).1
  have hsw := HG1.out.size
  obtain ⟨R2, hR2e⟩ : ∃ x, W1.heap.size = x := ⟨_, rfl⟩
  obtain ⟨R3, hR3e⟩ : ∃ x, R2 + 1 = x := ⟨_, rfl⟩
  obtain ⟨T, hTe⟩ : ∃ x, w6.heap.size = x := ⟨_, rfl⟩
  obtain ⟨Bn, hBe⟩ : ∃ x, T + 1 = x := ⟨_, rfl⟩
  rw [hR2e] at hR2 hR3 hs12 hsw ⊢
  rw [hR3e] at hR3 hs12 ⊢
  rw [hTe] at hTc hBn szn hs26 ⊢
  rw [hBe] at hBn ⊢
  have kR : R2 < R3 := by omega
  have kR2 : w.heap.size ≤ R2 := hsw
  have kR3 : w.heap.size ≤ R3 := by omega
  have kT : R3 < T := by omega
  have kN : T + 2 = Wn.heap.size := szn.symm
  have HCI : Hid (CkI w R2 R3 T Wn.heap.size [] Wn) := Lib.hid ⟨GN, hR2, hR3, _, hTc, World.ownsRow_nil _ _ _ _⟩
  have HGN := Lib.hid GN
  have HLL := Lib.hid hTe
  have hfresh : ∀ x ∈ nodesT 1 t, x.2.d.m.length ≤ 1000000 := HM.out
  clear hW2 r4 q2 q3 gW2 r5 r6 r26 hWt hWn gt gn szt szn hTc g6n hR2 hR3 hs26 hs12 hsw hR2e hR3e hTe hBe g4 g5 g6 CS CD CF HSZ HB hd1 hd2 hfresh GN
  have HBN := Lib.hid (box_cells hBn)
  have HKD : Hid (R2 < Wn.heap.size ∧ w.heap.size ≤ T ∧ w.heap.size ≤ Wn.heap.size ∧ T < Wn.heap.size) := Lib.hid ⟨by omega, by omega, by omega, by omega⟩
  clear hBn
  refine wp_range_next (gf := 35) (lb := #[.pointer (some ⟨Bn, 0, none⟩)]) rfl (enters_of Tryz.func35 (by kernel_rfl) rfl)
    (nodes_seq 8 Bn t p w Wn HT.out HGN.out HBN.out HDP.out) (by have := HKD.out; omega) (Below.refl _ _) (fun _ => rfl)
    (fun pre W => ∃ st, runR (pre.map Nx.key) (.ok []) = .ok st ∧ (∀ x ∈ st, x = 1 ∨ x = 2) ∧ Wn.heap.size ≤ W.heap.size ∧ CkI w R2 R3 T Wn.heap.size st W)
    (fun c pre W => c = .ret ∧ ∃ e, runR (pre.map Nx.key) (.ok []) = .er e ∧ CkX w R2 R3 0 e W)
    ?hI ?hIx ⟨[], rfl, fun x hx => absurd hx (by simp), Nat.le_refl _, HCI.out⟩
    (fun x a' W => ∃ Bx, Wn.heap.size ≤ Bx ∧ W.heap[Bx]? = some (.cells (nV x.t.d x.p x.t.ks.length).toArray 31 (0, 0)) ∧ a' = { tmps := #[.agg (nV t.d p t.ks.length).toArray, .pointer (some ⟨P, 0, none⟩), .pointer (some ⟨R2, 0, none⟩), .pointer (some ⟨R3, 0, none⟩), .pointer (some ⟨T, 0, none⟩), undef, .pointer (some ⟨Bx, 0, none⟩), undef, undef, undef, .agg (nV t.d p t.ks.length).toArray, .int .i64 s1, .bool false, .bool false, .agg (nV t.d p t.ks.length).toArray, .int .i64 s2, .bool false, .bool false, .bool false, .agg (nV t.d p t.ks.length).toArray, .bool true, .bool false, .bool false, .agg (nV t.d p t.ks.length).toArray, .func (.func 35) #[] #[.pointer (some ⟨Bn, 0, none⟩)], .int .i64 x.dp, .agg (nV x.t.d x.p x.t.ks.length).toArray, undef, undef, undef, undef, undef, undef, undef, undef, undef, undef, undef, undef, undef, undef, undef, undef, undef, undef, undef, undef, undef, undef, undef, undef, undef, undef, undef], defers := [] })
    (fun x a' _ X Y row hs hg hr => by obtain ⟨Bx, h1, h2, h3⟩ := hs; exact ⟨Bx, h1, cells_turn hg (fun r e => (hr r e).2) h2, h3⟩)
    ?assign ?body ?done ?stop
  case hI =>
    rintro s A B row ⟨st, h1, h2, h3, h4⟩ hg hr
    exact ⟨st, h1, h2, Nat.le_trans h3 hg.size, h4.turn hg (fun r e => ⟨by have := (hr r e).1; have := HKD.out; omega, (hr r e).2⟩)⟩
  case hIx =>
    rintro c s A B row ⟨h0, e, h1, h2⟩ hg hr
    exact ⟨h0, e, h1, h2.turn hg (fun r e => ⟨by have := (hr r e).1; have := HKD.out; omega, (hr r e).2⟩)⟩
  case assign =>
    rintro l1 pre x W K ⟨st, h1, h2, h3, h4⟩ hK
    unfold Nx.vs
    gi_wp2_with (refine store_nodeIn rfl (.tmp 6) (.tmp 26) rfl rfl rfl rfl ?_)
    exact hK _ _ ((KeepsOthers.alloc _ _).from _) (Gr.kn ((Gr.refl W).alloc _ _) h4.g.size) ⟨st, h1, h2, by rw [World.size_alloc]; omega, h4.gr ((Gr.refl W).alloc _ _)⟩ ⟨W.heap.size, h3, World.alloc_heap_new W _, rfl⟩
  case body =>
    rintro l1 pre x a' W hl1 ⟨st, h1, h2, h3, h4⟩ ⟨Bx, hBx, bX, rfl⟩ hG
    have HX1 := Lib.hid h1
    have HG := Lib.hid hG
    have hkey : x.key ∈ nodesT 1 t := hG.subset (by simp)
    have hlen : st.length + 1 ≤ 400 := by
      have := run_len h1
      have h6 := hG.length_le
      rw [nodes_len] at h6
      have := HCN.out
      simp only [List.length_map, List.length_append, List.length_cons, List.length_nil] at *
      omega
    have hnw := (TrP.gr h4.g x.t x.p x.h).w
    have CN := Lib.hid (chn_any x.t.d x.p x.t.ks.length W hnw (HL.out.gr h4.g) (by have := HM.out _ hkey; exact Nat.le_trans this (by omega)))
    have hk1 := hnw.b.k1
    have hk2 := hnw.b.k2
    have H4 := Lib.hid h4
    have hbx := box_cells bX
    have HT2 := Lib.hid h2
    have HB3 := Lib.hid bX
    have hR23 : R2 ≠ R3 := by omega
    have hR32 : R3 ≠ R2 := by omega
    clear h1 h2 hG hkey hnw bX
    obtain ⟨ev, hev⟩ : ∃ e, errN x.t.d x.t.ks.length = e := ⟨_, rfl⟩
    have HEV := Lib.hid hev
    rw [hev] at CN
    clear hev
    rcases (Decidable.em (ev = 0)).symm with he | he
    · have hb : (ev != 0) = true := by simpa using he
      have HRE : Hid (runR ((pre ++ [x]).map Nx.key) (.ok []) = .er ev) := Lib.hid (by
        rw [List.map_append, runR_app, HX1.out]
        show stp st x.t = _
        unfold stp
        rw [HEV.out, if_pos he])
      clear he h4
      gi_wp2_with (first
        | (refine load_nodeIn rfl (.tmp 6) rfl _ _ rfl hbx ?_)
        | (refine ⟨trivial, ?_⟩; gi_at_call 20; refine (CallsIn.inRound l1 (callsIn_wide.2 CN.out)).mono ?_; rintro e w1 ⟨rfl, g1⟩
           have H5 := Lib.hid (H4.out.gr g1)
           have c2 := cell_of_row w1 R2 0 _ _ (0, 0) H5.out.r2
           have f2 := frozen_of_row w1 R2 0 _ _ H5.out.r2
           have c3 := cell_of_row w1 R3 0 _ _ (0, 0) H5.out.r3
           have f3 := frozen_of_row w1 R3 0 _ _ H5.out.r3
           simp only [List.getElem?_toArray, List.getElem?_cons_zero] at c2 c3))
      exact ⟨(Gr.keepsFrom g1 _).trans (err_keeps _ _ _ _ _ _), rfl, ev, HRE.out, H5.out.err 0 ev kR2 kR3⟩
    · subst he
      have hle : x.t.ks.length ≤ st.length := run_pre (by have := HG.out; rw [List.map_append] at this; exact this) HX1.out HEV.out
      obtain ⟨v, hv, hvo⟩ := h4.row
      obtain ⟨A, c, rfl, hc1, hc2, hA⟩ := own_ints hvo
      obtain ⟨m, hm⟩ : ∃ m, st.length - x.t.ks.length = m := ⟨_, rfl⟩
      have hmi : (st.length : Int) - (x.t.ks.length : Int) = (m : Int) := by omega
      have hml : m ≤ st.length := by omega
      have HV := Lib.hid hv; have HVO := Lib.hid hvo; have HA := Lib.hid hA; have HM2 := Lib.hid hm
      unfold maxLen at hc2
      clear h4 hv hvo hA hm
      gi_wp2_with (first
        | (refine load_nodeIn rfl (.tmp 6) rfl _ _ rfl hbx ?_)
        | (refine ⟨trivial, ?_⟩; gi_at_call 20; refine (CallsIn.inRound l1 (callsIn_wide.2 CN.out)).mono ?_; rintro e w1 ⟨rfl, g1⟩
           have cT := cell_of_row w1 T 0 _ _ (0, 0) (heap_gr g1 HV.out)
           simp only [List.getElem?_toArray, List.getElem?_cons_zero] at cT
           have b16 := (hbx.gr g1) 16 _ rfl
           simp only [Nat.zero_add] at b16))
      have HG1' := Lib.hid g1
      obtain ⟨ts, hts⟩ : ∃ ts, st.drop m = ts := ⟨_, rfl⟩
      have htl : ts.length = x.t.ks.length := by rw [← hts, List.length_drop]; omega
      obtain ⟨A2, hA2⟩ : ∃ A2, (if c = m then A else A.map (·.add m)) = A2 := ⟨_, rfl⟩
      have hia : IntsAt w1 A2 ts := fun h0 => by
        obtain ⟨g, rfl, hcell⟩ := HA.out (by omega)
        refine ⟨g, m, ?_, fun i y hy => ?_⟩
        · rw [← hA2, if_neg (by omega)]
          simp only [Option.map_some]
          unfold Addr.add
          split <;> simp_all
        · rw [← hts, List.getElem?_drop] at hy
          exact g1.cell (hcell _ _ hy)
      obtain ⟨hok, hkn⟩ := errN_ok HEV.out
      have ct := fun W' (g : Gr w1 W') => typ_any x.t.d x.p x.t.ks.length A2 (c - m) ts W' (fun y hy => HT2.out y (by rw [← hts] at hy; exact List.mem_of_mem_drop hy)) (by rw [htl]; exact hkn) hok (hia.gr g)
      rw [htl] at ct
      obtain ⟨ty, hty⟩ : ∃ ty, tyN x.t.d ts = ty := ⟨_, rfl⟩
      rw [hty] at ct
      have CT := Lib.hid ct
      have HTY := Lib.hid hty; have HTS := Lib.hid hts; have HTL := Lib.hid htl; have HA2 := Lib.hid hA2
      have hS : w1.drew.rangeAt Bx 0 (nV x.t.d x.p x.t.ks.length) ∧ w1.drew.cell? ⟨T, 0, none⟩ = some (.slice A st.length c) := ⟨hbx.gr g1.drew, cT⟩
      have HS := Lib.hid hS
      clear ct hty hts htl hA2 hia hok hkn hS cT b16 g1
      refine region_in_round (S := fun w' => w'.rangeAt Bx 0 (nV x.t.d x.p x.t.ks.length) ∧ w'.cell? ⟨T, 0, none⟩ = some (.slice A st.length c)) (by kernel_rfl) ?hQ ?hd ?_
      case hQ => rintro ⟨a, w, h⟩; exact h
      case hd => simp
      refine wpAnyH_take (i := 0) (oi := _) (v := .agg (nV x.t.d x.p x.t.ks.length).toArray) rfl (by kernel_rfl) (by kernel_rfl) (by kernel_rfl) (fun _ _ _ h => h) (yieldsIf_load_mid (by rfl) 31 (.tmp 6) rfl Bx 0 rfl (nV x.t.d x.p x.t.ks.length) _ (fun w' h => h.1) Tryz.underlying31 rfl info_node) HS.out ?_
      simp only [Act.put, List.setIfInBounds_toArray]
      refine wpAnyH_take (i := 1) (oi := _) (v := .slice A st.length c) rfl (by kernel_rfl) (by kernel_rfl) (by kernel_rfl) (fun _ _ _ h => h) (Or.inl ⟨by rfl, ?_⟩) HS.out ?_
      · intro w' hS
        obtain ⟨-, s1⟩ := hS
        go_simp
      simp only [Act.put]
      refine wpAnyH_take (i := 2) (oi := _) (v := .int .i64 m) rfl (by kernel_rfl) (by kernel_rfl) (by kernel_rfl) (fun _ _ _ h => h) (Or.inl ⟨by rfl, ?_⟩) HS.out ?_
      · intro w' hS
        go_simp
      simp only [Act.put]
      refine wpAnyH_take (i := 3) (oi := _) (v := .slice A2 x.t.ks.length (c - m)) rfl (by kernel_rfl) (by kernel_rfl) (by kernel_rfl) (fun _ _ _ h => h) (Or.inl ⟨by rfl, ?_⟩) HS.out ?_
      · intro w' hS
        clear hS
        go_simp
        exact ⟨HA2.out, by have := HM2.out; omega⟩
      simp only [Act.put]
      refine wpAnyH_ready (rs := [4]) (by kernel_rfl) (by simp) ?_
      refine AllReadyH.cons rfl (fun K hK => ?_) AllReadyH.nil
      go_simp
      refine (CT.out _ (Gr.refl w1).drew).mono ?_
      rintro e w2 ⟨rfl, g2⟩
      have HS2 := Lib.hid (show w2.rangeAt Bx 0 (nV x.t.d x.p x.t.ks.length) ∧ w2.cell? ⟨T, 0, none⟩ = some (.slice A st.length c) from ⟨CellsAt.gr HS.out.1 g2, g2.cell HS.out.2⟩)
      have G2 : Hid (Gr W w2) := Lib.hid (HG1'.out.drew.trans g2)
      clear g2
      dsimp only
      refine hK.out _ _ HS2.out (fun _ => ?_)
      clear hK K
      refine wpAnyH_ready (rs := [5]) (by kernel_rfl) (by simp) ?_
      refine AllReadyH.cons rfl (fun K hK => ?_) AllReadyH.nil
      go_simp
      refine hK.out _ _ HS2.out (fun _ => ?_)
      clear hK K
      refine wpAnyH_done (by kernel_rfl) ?_ _
      have H6 := Lib.hid (H4.out.gr G2.out)
      have cT2 := HS2.out.2
      rcases (Decidable.em (ty = 0)) with hz | hz
      · have HRE : Hid (runR ((pre ++ [x]).map Nx.key) (.ok []) = .er 3) := Lib.hid (by
          rw [List.map_append, runR_app, HX1.out]
          show stp st x.t = _
          unfold stp
          rw [HEV.out, if_neg (by simp), if_neg (by omega), HM2.out, HTS.out, HTY.out, if_pos hz])
        subst hz
        have c2 := cell_of_row w2 R2 0 _ _ (0, 0) H6.out.r2
        have f2 := frozen_of_row w2 R2 0 _ _ H6.out.r2
        have c3 := cell_of_row w2 R3 0 _ _ (0, 0) H6.out.r3
        have f3 := frozen_of_row w2 R3 0 _ _ H6.out.r3
        simp only [List.getElem?_toArray, List.getElem?_cons_zero] at c2 c3
        gi_wp2
        exact ⟨(Gr.keepsFrom G2.out _).trans (err_keeps _ _ _ _ _ _), rfl, 3, HRE.out, H6.out.err 0 3 kR2 kR3⟩
      · have HRE : Hid (runR ((pre ++ [x]).map Nx.key) (.ok []) = .ok (st.take m ++ [ty])) := Lib.hid (by
          rw [List.map_append, runR_app, HX1.out]
          show stp st x.t = _
          unfold stp
          rw [HEV.out, if_neg (by simp), if_neg (by omega), HM2.out, HTS.out, HTY.out, if_neg hz])
        have HZ := Lib.hid hz
        have hzb : (ty == 0) = false := by simpa using hz
        have hml2 : (st.take m).length = m := by rw [List.length_take]; omega
        have hown : w2.ownsRow Wn.heap.size 3 1 (.slice A m c) m ((st.take m).map (Value.int .i64)) := by
          have := own_take (World.ownsRow.kept HVO.out (grown_of_gr G2.out) (by cases (Value.slice A st.length c).ownBlock <;> simp)) hml
          rwa [← List.map_take] at this
        have HOW := Lib.hid hown
        have HML2 := Lib.hid hml2
        have hmc : (m : Int) ≤ (c : Int) := by omega
        have hm0 : (0 : Int) ≤ (m : Int) := by omega
        have hmc2 : m ≤ c := by omega
        have hzW : Wn.heap.size ≤ w2.heap.size := Nat.le_trans h3 G2.out.size
        have fT := frozen_of_row w2 T 0 _ _ (heap_gr G2.out HV.out)
        clear hz hown hml2
        obtain ⟨i0, hi, hi0, hi1, hi2⟩ := info_parts info_int
        have hob : (Value.slice A m c).ownBlock = (Value.slice A st.length c).ownBlock := by cases A <;> rfl
        have HOB := Lib.hid hob
        clear hob
        gi_wp2_with (gi_at_builtin; refine wpListIn_append_own _ rfl (.tmp 47) (.tmp 49) 58 rfl Wn.heap.size 3 i0 (.int .i64 0) 1 8 Tryz.underlying58 hi hi0 hi1 hi2 rfl (by decide) (.slice A m c) m ((st.take m).map (Value.int .i64)) rfl (HOW.out.alloc _) ⟨w2.heap.size, 0, none⟩ 1 1 [.int .i64 ty] rfl rfl (cell_one_new _ _ _) (by simp [Value.oneCell']) (by unfold maxLen; omega) (by omega) (by rw [World.size_alloc]; omega) ?_; intro v2 w3 hown3 hgrow3 _; rw [HOB.out] at hgrow3; have hT3 := next_T (G2.out.alloc _ _) HV.out HVO.out hgrow3; have cT3 := cell_of_row w3 T 0 _ _ (0, 0) hT3; have fT3 := frozen_of_row w3 T 0 _ _ hT3; simp only [List.getElem?_toArray, List.getElem?_cons_zero] at cT3; have HO3 := Lib.hid hown3; have HG3 := Lib.hid hgrow3; have hz3 := hgrow3.size; obtain ⟨g', cap', rfl⟩ := ownsRow_succ hown3; clear hown3 hgrow3 hT3)
        have hst : (st.take m ++ [ty]).length = m + 1 := by rw [List.length_append, HML2.out]; rfl
        obtain ⟨n1, n2, n3⟩ := H4.out.next (st' := st.take m ++ [ty]) (G2.out.alloc _ _) HV.out HVO.out HG3.out (by rw [hst, List.map_append]; exact HO3.out) HKD.out.2.1 HKD.out.2.2.1 HKD.out.2.2.2 HKD.out.1
        refine ⟨n3 _, n2 _ (Nat.le_refl _), st.take m ++ [ty], HRE.out, fun y hy => ?_, ?_, n1⟩
        · rcases List.mem_append.1 hy with hy | hy
          · exact HT2.out y (List.mem_of_mem_take hy)
          · obtain rfl : y = ty := by simpa using hy
            rcases tyN_or (d := x.t.d) (ts := ts) (fun z hz => HT2.out z (by rw [← HTS.out] at hz; exact List.mem_of_mem_drop hz)) with h | h
            · exact absurd (HTY.out.symm.trans h) HZ.out
            · rw [HTY.out] at h; exact h
        · rw [World.size_alloc] at hz3
          show _ ≤ (w3.setCell _ _).heap.size
          simp only [World.setCell, Array.size_modify]
          omega
  case done =>
    rintro D ys W hD hS ⟨st, h1, h2, h3, h4⟩ hK
    rw [hS] at h1
    obtain ⟨a, rfl, hck⟩ := runR_all h1
    have HVA : Hid (chkV t = (a, 0)) := Lib.hid (by rw [HV.out, hck])
    have H4 := Lib.hid h4
    obtain ⟨v, hv, hvo⟩ := h4.row
    obtain ⟨A, c, rfl, hc1, hc2, hA⟩ := own_ints hvo
    obtain ⟨g, rfl, hcell⟩ := hA (by simp)
    have c0 := hcell 0 a rfl
    have c2 := cell_of_row W R2 0 _ _ (0, 0) h4.r2
    have f2 := frozen_of_row W R2 0 _ _ h4.r2
    have c3 := cell_of_row W R3 0 _ _ (0, 0) h4.r3
    have f3 := frozen_of_row W R3 0 _ _ h4.r3
    have cT := cell_of_row W T 0 _ _ (0, 0) hv
    simp only [List.getElem?_toArray, List.getElem?_cons_zero] at c2 c3 cT
    have hR23 : R2 ≠ R3 := by omega
    have hR32 : R3 ≠ R2 := by omega
    simp only [List.length_cons, List.length_nil, Nat.zero_add] at hc1 cT
    have HKK := Lib.hid hK
    clear h1 h2 hS h4 hv hvo hck hcell hK
    gi_wp2
    have hK2 := (KeepsOthers.trans (KeepsOthers.setCell W ⟨R2, 0, none⟩ (.int .i64 a)) (KeepsOthers.setCell _ ⟨R3, 0, none⟩ (.int .i64 0))).same D _ HKK.out rfl
    have hX := H4.out.err a 0 kR2 kR3
    refine ⟨by simp, .inl ⟨_, _, rfl, run_takeDeferred hK2, ?_⟩⟩
    have hX2 := hX.turn (grownBy_putObj' _ D (.deferred none)) (fun r e => by cases e; exact ⟨by have := HKD.out; omega, _, hK2, rfl⟩)
    refine ⟨_, results_ck hX2 _ rfl rfl, ?_, hX2.g⟩
    rw [HVA.out]
  case stop =>
    rintro D c pre W hD hSp ⟨rfl, e, h1, h2⟩ hK
    have hck := runR_pre hSp h1
    have HVA : Hid (chkV t = (0, e)) := Lib.hid (by rw [HV.out, hck])
    clear hck h1 hSp
    gi_wp2
    refine ⟨by simp, .inl ⟨_, _, rfl, run_takeDeferred hK, ?_⟩⟩
    have hX2 := h2.turn (grownBy_putObj' _ D (.deferred none)) (fun r e => by cases e; exact ⟨by have := HKD.out; omega, _, hK, rfl⟩)
    refine ⟨_, results_ck hX2 _ rfl rfl, ?_, hX2.g⟩
    rw [HVA.out]
end Go.Proofs.YtikaamonmaohjaaGreatDoor.Ir
