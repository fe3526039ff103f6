/- The reference's nodes: 258 cells, taken as they come. -/
import Derived.Test.YtnlfndhgdeapeaaNodeApp
import Derived.Deep.MidRow
import Derived.Laws.OwnMore
import Derived.Laws.CopyOwn
import Derived.Lib.AppendZeros
import Derived.Test.YtnlfndhgdeapeaaItem
import Derived.Deep.LoopGhost
import Derived.Test.YtnlfndhgdeapeaaPLe
import Derived.Deep.Cut
import Derived.Deep.CutRange
import Derived.Deep.CutBlock
namespace Go.Proofs.Ytnlfndhgdeapeaa
open Go.RowKit
set_option maxRecDepth 100000
set_option maxHeartbeats 1000000

def nodeC (k : Int) (v : Value) : Array Value := #[.int .i64 k, v] ++ Array.replicate 256 (.bool false)
theorem nodeC_size (k : Int) (v : Value) : (nodeC k v).size = 258 := by simp [nodeC]
theorem rn_info : (Try.prog.info? 66).map (fun i => (i.zero, i.size, i.bytes)) = some (some (.agg (nodeC 0 (.slice none 0 0))), 258, 288) := by kernel_rfl
theorem rn_size : (Try.prog.info? 66).map (·.size) = some 258 := by
  obtain ⟨i, hi, -, h1, -⟩ := info_parts rn_info
  rw [hi]; simp [h1]
theorem rn_zero (w : World) : (zeroValue 66).run Try.prog w = .ok (.agg (nodeC 0 (.slice none 0 0))) w := by
  obtain ⟨i, hi, h0, -, -⟩ := info_parts rn_info
  simp [zeroValue, typeInfo, hi, h0]
/-- a block of a node -/
def RB (W : World) (N : Nat) (cs : Array Value) : Prop := W.heap[N]? = some (.cells cs 66 (0, 0)) ∧ cs.size = 258 ∧ cs.all (·.oneCell') = true
/-- a node's value -/
def RV (v : Value) (cs : Array Value) : Prop := v = .agg cs ∧ cs.size = 258 ∧ cs.all (·.oneCell') = true
theorem nodeC_one (k : Int) {v : Value} (h : v.oneCell' = true) : (nodeC k v).all (·.oneCell') = true := by
  unfold nodeC
  refine Array.all_eq_true_iff_forall_mem.2 fun u hu => ?_
  rcases Array.mem_append.1 hu with e | e
  · simp only [List.mem_toArray, List.mem_cons, List.not_mem_nil, or_false] at e
    rcases e with rfl | rfl
    · rfl
    · exact h
  · obtain ⟨-, rfl⟩ := Array.mem_replicate.1 e
    rfl
theorem RB.lt {W : World} {N : Nat} {cs : Array Value} (h : RB W N cs) : N < W.heap.size := (Array.getElem?_eq_some_iff.1 h.1).1
theorem RB.of {W W' : World} {N : Nat} {cs : Array Value} (h : RB W N cs) (e : W'.heap[N]? = W.heap[N]?) : RB W' N cs := ⟨e.trans h.1, h.2⟩
theorem RB.gr {W W' : World} {N : Nat} {cs : Array Value} (h : RB W N cs) (g : Gr W W') : RB W' N cs := h.of (g.b.block N h.lt)
theorem RB.only {W W' : World} {b N : Nat} {cs : Array Value} (h : RB W N cs) (g : Only W W' b) (hne : N ≠ b) : RB W' N cs := h.of (g.blk h.lt hne)
theorem RB.new (w : World) (k : Int) {v : Value} (h : v.oneCell' = true) : RB (w.alloc (.cells (nodeC k v) 66)) w.heap.size (nodeC k v) := ⟨heap_alloc_new w _, nodeC_size k v, nodeC_one k h⟩
theorem RB.setSame {W : World} {N : Nat} {cs : Array Value} (h : RB W N cs) (o : Nat) {v : Value} (h1 : v.oneCell' = true) : RB (W.setCell ⟨N, o, none⟩ v) N (cs.setIfInBounds o v) := by
  refine ⟨?_, by rw [Array.size_setIfInBounds]; exact h.2.1, ?_⟩
  · have := heap_setCell_same W N o _ _ v h.1
    exact this
  · rw [Array.all_eq_true_iff_forall_mem]
    intro u hu
    rcases Array.mem_or_eq_of_mem_setIfInBounds hu with e | e
    · exact (Array.all_eq_true_iff_forall_mem.1 h.2.2) u e
    · rw [e]; exact h1
theorem RB.setOther {W : World} {N M o : Nat} {cs : Array Value} (h : RB W N cs) (hne : N ≠ M) (v : Value) : RB (W.setCell ⟨M, o, none⟩ v) N cs := h.of (Below.heap_setCell W _ _ N (by show N ≠ M; exact hne))
theorem RB.setRowSame {W : World} {N : Nat} {cs cs' : Array Value} (h : RB W N cs) (h1 : cs'.size = 258) (h2 : cs'.all (·.oneCell') = true) : RB (W.setRow N cs') N cs' := by
  refine ⟨?_, h1, h2⟩
  have := h.1
  unfold World.setRow
  simp [Array.getElem?_modify, this]
theorem setRow_other (W : World) {N M : Nat} (hne : N ≠ M) (cs : Array Value) : (W.setRow M cs).heap[N]? = W.heap[N]? := by
  unfold World.setRow
  simp [Array.getElem?_modify, Ne.symm hne]
theorem RB.setRowOther {W : World} {N M : Nat} {cs : Array Value} (h : RB W N cs) (hne : N ≠ M) (cs' : Array Value) : RB (W.setRow M cs') N cs := h.of (setRow_other W hne cs')
theorem Only.setRowFar {w W : World} {b P : Nat} (h : Only w W b) (hP : w.heap.size ≤ P) (cs : Array Value) : Only w (W.setRow P cs) b :=
  ⟨h.os, h.tape, h.output, by simpa using h.size, fun i hi hne => (setRow_other W (by omega) cs).trans (h.block i hi hne)⟩
theorem Gr.setRowFar {w W : World} {P : Nat} (h : Gr w W) (hP : w.heap.size ≤ P) (cs : Array Value) : Gr w (W.setRow P cs) := ⟨below_setRow h.b hP cs⟩

section
variable {Q : Exit → Act → World → Prop} {ops : Array Oper} {rest : List Oper} {o : Oper} {a : Act} {w : World}
theorem wpList_allocR (hgd : o.guard = none) (ho : o.op = .alloc 66)
    (h : wpList Try.prog ops Q rest (a.put o.dst (.pointer (some ⟨w.heap.size, 0, none⟩))) (w.alloc (.cells (nodeC 0 (.slice none 0 0)) 66))) : wpList Try.prog ops Q (o :: rest) a w :=
  wpList_plain hgd fun _ hK => by
    unfold Oper.wp execOp
    simp only [ho, Instr.alloc, Sem.run_bind, Sem.run_pure, Result.andThen_ok, rn_zero, newVar, newRow, Value.cells, run_newObj_alloc]
    exact hK _ _ h
theorem built_one (k : Int) : Try.prog.built 66 [(0, .int .i64 k)] = some (nodeC k (.slice none 0 0)) := by kernel_rfl
theorem built_two (k : Int) (A : Option Addr) (n c : Nat) : Try.prog.built 66 [(0, .int .i64 k), (1, .slice A n c)] = some (nodeC k (.slice A n c)) := by kernel_rfl
theorem built_none : Try.prog.built 66 [] = some (nodeC 0 (.slice none 0 0)) := by kernel_rfl
theorem fold_fill : ∀ (l : List Value) (k : Nat) (acc : Array Value), k + l.length ≤ acc.size → ((l.zipIdx k).foldl (fun cs p => cs.setIfInBounds (0 + p.2) p.1) acc).size = acc.size ∧ ∀ i, ((l.zipIdx k).foldl (fun cs p => cs.setIfInBounds (0 + p.2) p.1) acc)[i]? = if k ≤ i ∧ i < k + l.length then l[i - k]? else acc[i]?
  | [], k, acc, h => ⟨rfl, fun i => by
    rw [if_neg (by simp only [List.length_nil]; omega)]
    rfl⟩
  | x :: r, k, acc, h => by
    rw [List.length_cons] at h
    obtain ⟨h1, h2⟩ := fold_fill r (k + 1) (acc.setIfInBounds (0 + k) x) (by rw [Array.size_setIfInBounds]; omega)
    rw [List.zipIdx_cons, List.foldl_cons]
    refine ⟨by rw [h1, Array.size_setIfInBounds], fun i => ?_⟩
    rw [h2 i, List.length_cons, Array.getElem?_setIfInBounds]
    by_cases e1 : i = k
    · subst e1
      rw [if_neg (by omega), if_pos (by omega), if_pos (by omega), if_pos (by omega), Nat.sub_self]
      rfl
    · by_cases e2 : k + 1 ≤ i ∧ i < k + 1 + r.length
      · rw [if_pos e2, if_pos (by omega), show i - k = (i - (k + 1)) + 1 by omega]
        rfl
      · rw [if_neg e2, if_neg (by omega), if_neg (by omega)]
theorem fill_all (cs z : Array Value) (h : z.size = cs.size) : cs.zipIdx.foldl (fun (cs : Array Value) (p : Value × Nat) => cs.setIfInBounds (0 + p.2) p.1) z = cs := by
  rw [← Array.foldl_toList, Array.toList_zipIdx]
  obtain ⟨h1, h2⟩ := fold_fill cs.toList 0 z (by rw [Array.length_toList]; omega)
  apply Array.ext_getElem?
  intro i
  rw [h2 i]
  by_cases hi : i < cs.size
  · rw [if_pos ⟨Nat.zero_le _, by rw [Array.length_toList]; omega⟩, Nat.sub_zero, Array.getElem?_toList]
  · rw [if_neg (by rw [Array.length_toList]; omega), Array.getElem?_eq_none (by omega), Array.getElem?_eq_none (by omega)]
theorem run_buildR (w : World) (cs : Array Value) (h : cs.size = 258) : (Instr.buildSlice 63 1 #[(0, .agg cs)]).run Try.prog w = .ok (.slice (some ⟨w.heap.size, 0, none⟩) 1 1) (w.alloc (.cells cs 66)) := by
  obtain ⟨i, hi, h0, h1, -⟩ := info_parts rn_info
  have hf : ∀ z : Array Value, z.size = 258 → Instr.fill (fun i => some (i * 258, 258)) z [(0, .agg cs)] = some cs := fun z hz => by
    unfold Instr.fill
    simp only [Value.cells, h, Nat.zero_mul, hz]
    rw [if_neg (by simp)]
    unfold Instr.fill
    rw [fill_all cs z (by rw [hz, h])]
  simp [Instr.buildSlice, run_underlying Try.underlying63, sizeOf, typeInfo, hi, h1]
  rw [hf _ (by simp)]
  simp [newRow]
theorem wpList_buildSliceR (hgd : o.guard = none) (x : Operand) (ho : o.op = .buildSlice 63 1 #[(0, x)]) {cs : Array Value} (hx : a.eval x = .agg cs) (h1 : cs.size = 258)
    (h : wpList Try.prog ops Q rest (a.put o.dst (.slice (some ⟨w.heap.size, 0, none⟩) 1 1)) (w.alloc (.cells cs 66))) : wpList Try.prog ops Q (o :: rest) a w :=
  wpList_plain hgd fun _ hK => by
    unfold Oper.wp execOp
    simp only [ho, List.map_toArray, List.map_cons, List.map_nil, hx, Sem.run_bind, Sem.run_pure, run_buildR w cs h1, Result.andThen_ok]
    exact hK _ _ h
theorem wpList_build0 (hgd : o.guard = none) (ho : o.op = .build 66 #[])
    (h : wpList Try.prog ops Q rest (a.put o.dst (.agg (nodeC 0 (.slice none 0 0)))) w) : wpList Try.prog ops Q (o :: rest) a w := by
  have e : Try.prog.built 66 ((#[] : Array (Nat × Operand)).map fun (i, x) => (i, a.eval x)).toList = some (nodeC 0 (.slice none 0 0)) := by
    simp only [List.map_toArray, List.map_nil]
    exact built_none
  exact wpList_build hgd _ _ ho (by rw [e]; rfl) (by rw [e]; exact h)
theorem wpList_build1 (hgd : o.guard = none) (x : Operand) (ho : o.op = .build 66 #[(0, x)]) (k : Int) (hx : a.eval x = .int .i64 k)
    (h : wpList Try.prog ops Q rest (a.put o.dst (.agg (nodeC k (.slice none 0 0)))) w) : wpList Try.prog ops Q (o :: rest) a w := by
  have e : Try.prog.built 66 ((#[(0, x)] : Array (Nat × Operand)).map fun (i, x) => (i, a.eval x)).toList = some (nodeC k (.slice none 0 0)) := by
    simp only [List.map_toArray, List.map_cons, List.map_nil, hx]
    exact built_one k
  exact wpList_build hgd _ _ ho (by rw [e]; rfl) (by rw [e]; exact h)
theorem wpList_build2 (hgd : o.guard = none) (x y : Operand) (ho : o.op = .build 66 #[(0, x), (1, y)]) (k : Int) (hx : a.eval x = .int .i64 k) (A : Option Addr) (n c : Nat) (hy : a.eval y = .slice A n c)
    (h : wpList Try.prog ops Q rest (a.put o.dst (.agg (nodeC k (.slice A n c)))) w) : wpList Try.prog ops Q (o :: rest) a w := by
  have e : Try.prog.built 66 ((#[(0, x), (1, y)] : Array (Nat × Operand)).map fun (i, x) => (i, a.eval x)).toList = some (nodeC k (.slice A n c)) := by
    simp only [List.map_toArray, List.map_cons, List.map_nil, hx, hy]
    exact built_two k A n c
  exact wpList_build hgd _ _ ho (by rw [e]; rfl) (by rw [e]; exact h)
theorem wpList_loadR (hgd : o.guard = none) (x : Operand) (ho : o.op = .load 66 x) (N : Nat) (hx : a.eval x = .pointer (some ⟨N, 0, none⟩)) {cs : Array Value} (hb : RB w N cs)
    (h : wpList Try.prog ops Q rest (a.put o.dst (.agg cs)) w) : wpList Try.prog ops Q (o :: rest) a w :=
  wpList_load_row hgd _ x ho N hx _ cs (0, 0) _ hb.1 Try.underlying66 rfl (by rw [rn_size, hb.2.1]) h
theorem wpList_storeR (hgd : o.guard = none) (x y : Operand) (ho : o.op = .store 66 x y) (N : Nat) {cs : Array Value} (hx : a.eval x = .pointer (some ⟨N, 0, none⟩)) (hy : a.eval y = .agg cs) {old : Array Value} (hb : RB w N old) (h1 : cs.size = 258) (h2 : cs.all (·.oneCell') = true)
    (h : wpList Try.prog ops Q rest (a.put o.dst undef) (w.setRow N cs)) : wpList Try.prog ops Q (o :: rest) a w :=
  wpList_store_row hgd _ x y ho N cs hx hy _ old hb.1 (by rw [rn_size, h1]) (by rw [hb.2.1, h1]) h2 h
/-- a row of n nodes of the call's own -/
def OwnR (W : World) (B : Nat) (v : Value) (n : Nat) : Prop := ∃ xs, W.ownsRow B 66 258 v n xs
theorem wpList_appR (hgd : o.guard = none) (s x : Operand)
    (ho : o.op = .call { callee := .builtin .append, args := #[s, x], argTypes := #[63, 63] }) (hty : o.type = 63)
    {B n g c : Nat} {v : Value} {cs : Array Value} (hs : a.eval s = v) (hown : OwnR w B v n) (hx : a.eval x = .slice (some ⟨g, 0, none⟩) 1 c) (hg : RB w g cs) (hn : n ≤ 1000000) (hB : B ≤ w.heap.size)
    (h : ∀ v' W', OwnR W' B v' (n + 1) → w.grownBy W' v.ownBlock → wpList Try.prog ops Q rest (a.put o.dst v') W') : wpList Try.prog ops Q (o :: rest) a w := by
  obtain ⟨i0, hi, hz0, hz1, hz2⟩ := info_parts rn_info
  obtain ⟨xs, hxs⟩ := hown
  have hadd : ∀ j, (⟨g, 0, none⟩ : Addr).add j = ⟨g, j, none⟩ := fun j => by unfold Addr.add; split <;> simp_all
  obtain ⟨v', w', hr, h2, h3, _, _⟩ := run_append_own_at (P := Try.prog) w B 63 63 66 i0 _ 258 288 Try.underlying63 hi hz0 hz1 hz2 (nodeC_size _ _) (by omega) v n xs hxs ⟨g, 0, none⟩ 1 c cs.toList (by simp [hg.2.1]) (fun j u hu => by
    rw [hadd, cell_of_row w g j cs _ (0, 0) hg.1, ← hu, Array.getElem?_toList]) (fun u hu => (Array.all_eq_true_iff_forall_mem.1 hg.2.2) u (by simpa using hu)) (by unfold maxLen; omega) (by omega) hB
  refine Lib.wpList_append_run w hgd s x _ _ ho v _ hs hx v' w' ?_ (h v' w' ⟨_, h2⟩ h3)
  rw [hty]; exact hr
theorem Gr.size_alloc (w : World) (c : Array Value) (t : TypeId) : (w.alloc (.cells c t)).heap.size = w.heap.size + 1 := by simp
/- the same, their worlds as variables -/
theorem allocA (N : Nat) (hN : w.heap.size = N) (hgd : o.guard = none) (ho : o.op = .alloc 66)
    (h : ∀ W', RB W' N (nodeC 0 (.slice none 0 0)) → Gr w W' → W'.heap.size = N + 1 → wpList Try.prog ops Q rest (a.put o.dst (.pointer (some ⟨N, 0, none⟩))) W') : wpList Try.prog ops Q (o :: rest) a w := by
  subst hN
  exact wpList_allocR hgd ho (h _ (RB.new w 0 (by rfl)) ((Gr.refl w).alloc _ _) (Gr.size_alloc w _ _))
theorem storeA (x y : Operand) (N : Nat) (hgd : o.guard = none ∧ o.dst = none) (ho : o.op = .store 66 x y) {cs : Array Value} (hx : a.eval x = .pointer (some ⟨N, 0, none⟩)) (hy : a.eval y = .agg cs) {old : Array Value} (hb : RB w N old) (h1 : cs.size = 258) (h2 : cs.all (·.oneCell') = true)
    (h : ∀ W', RB W' N cs → Only w W' N → W'.heap.size = w.heap.size → wpList Try.prog ops Q rest a W') : wpList Try.prog ops Q (o :: rest) a w :=
  wpList_storeR hgd.1 x y ho N hx hy hb h1 h2 (by rw [show a.put o.dst undef = a by rw [hgd.2]; rfl]; exact h _ (hb.setRowSame h1 h2) ⟨rfl, rfl, rfl, by simp, fun i _ hne => setRow_other w (fun e => hne (by rw [e])) cs⟩ (by simp))
theorem buildSliceA (N : Nat) (hN : w.heap.size = N) (x : Operand) (hgd : o.guard = none) (ho : o.op = .buildSlice 63 1 #[(0, x)]) {cs : Array Value} (hx : a.eval x = .agg cs) (h1 : cs.size = 258) (h2 : cs.all (·.oneCell') = true)
    (h : ∀ W', RB W' N cs → Gr w W' → W'.heap.size = N + 1 → (∀ B, B ≤ N → OwnR W' B (.slice (some ⟨N, 0, none⟩) 1 1) 1) → wpList Try.prog ops Q rest (a.put o.dst (.slice (some ⟨N, 0, none⟩) 1 1)) W') : wpList Try.prog ops Q (o :: rest) a w := by
  subst hN
  exact wpList_buildSliceR hgd x ho hx h1 (h _ ⟨heap_alloc_new w _, h1, h2⟩ ((Gr.refl w).alloc _ _) (Gr.size_alloc w _ _) (fun B hB => ⟨_, World.ownsRow_lit w cs 1 hB (by unfold maxLen; omega) (by rw [h1])⟩))
theorem OwnR.lt {W : World} {B n : Nat} {v : Value} (h : OwnR W B v n) : ∀ k, v.ownBlock = some k → B ≤ k ∧ k < W.heap.size := by
  obtain ⟨xs, h⟩ := h
  exact h.lt
theorem OwnR.form {W : World} {B n : Nat} {v : Value} (h : OwnR W B v n) : ∃ (A : Option Addr) (m c : Nat), v = .slice A m c := by
  obtain ⟨xs, h⟩ := h
  rcases h.2 with ⟨e, -⟩ | ⟨g, cap, cur, e, -⟩
  · exact ⟨none, 0, 0, e⟩
  · exact ⟨_, _, _, e⟩
theorem OwnR.one {W : World} {B n : Nat} {v : Value} (h : OwnR W B v n) : v.oneCell' = true := by
  obtain ⟨A, m, c, rfl⟩ := h.form
  rfl
theorem OwnR.keep {W W' : World} {B n : Nat} {v : Value} (h : OwnR W B v n) (g : ∀ c, B ≤ c → c < W.heap.size → W'.heap[c]? = W.heap[c]?) : OwnR W' B v n := by
  have hlt := h.lt
  obtain ⟨xs, h⟩ := h
  refine ⟨xs, h.1, ?_⟩
  rcases h.2 with e | ⟨q, cap, cur, e1, e2, e3, e4⟩
  · exact .inl e
  · exact .inr ⟨q, cap, cur, e1, e2, by rw [g q e2 (hlt q (by rw [e1]; rfl)).2]; exact e3, e4⟩
theorem OwnR.nil (W : World) (B : Nat) : OwnR W B (.slice none 0 0) 0 := ⟨[], World.ownsRow_nil _ _ _ _⟩
theorem OwnR.lit (w : World) {B : Nat} {cs : Array Value} (h : cs.size = 258) (hB : B ≤ w.heap.size) : OwnR (w.alloc (.cells cs 66)) B (.slice (some ⟨w.heap.size, 0, none⟩) 1 1) 1 :=
  ⟨_, World.ownsRow_lit w cs 1 hB (by unfold maxLen; omega) (by rw [h])⟩
end
end Go.Proofs.Ytnlfndhgdeapeaa
/- The reference's reader: its block; among, fail, more, escaped. -/
namespace Go.Proofs.Ytnlfndhgdeapeaa
open Go.RowKit
set_option maxRecDepth 100000
set_option maxHeartbeats 2000000

theorem rAmong_any (c : UInt8) (s : ByteArray) (w : World) (hs : s.size ≤ 1000000) :
    Calls Try.prog 46 #[.int .u8 c.toNat, .string s] w fun e w' => e = .returned (.bool (amongB s.data.toList c)) ∧ w = w' := by
  have hlen : s.data.toList.length = s.size := by simp
  have HL := Lib.hid hlen
  clear hlen
  go_enter Try.func46, Try.ntmps46
  go_wp2
  go_loopw [5] (fun v wr => ∃ k : Nat, k ≤ s.size ∧ v = .int .i64 k ∧ wr = w ∧ Hid (c ∉ s.data.toList.take k)) (fun v _ => s.size - (intOf v).toNat)
  case atStart => exact ⟨0, Nat.zero_le _, rfl, rfl, Lib.hid (by simp)⟩
  case round =>
    obtain ⟨k, hk, rfl, rfl, HN⟩ := hrel
    by_cases hlt : k < s.size
    · have hst : s.data.toList.take (k + 1) = s.data.toList.take k ++ [s[k]] := by
        rw [List.take_succ_eq_append_getElem (by rw [HL.out]; exact hlt)]; rfl
      have n3 : (k : Int) < (s.size : Int) := by omega
      by_cases e : s[k] = c
      · have H : Hid (amongB s.data.toList c = true) := Lib.hid (decide_eq_true (by rw [← e]; exact List.getElem_mem (by rw [HL.out]; exact hlt)))
        subst e
        clear hst
        go_wp2
        go_ret
        exact ⟨by rw [H.out]; rfl, rfl⟩
      · have H : Hid (c ∉ s.data.toList.take (k + 1)) := Lib.hid (by
          rw [hst]
          intro h
          rcases List.mem_append.1 h with h | h
          · exact HN.out h
          · exact e (List.mem_singleton.1 h).symm)
        have e3 : ¬ s[k].toNat = c.toNat := fun h => e (UInt8.toNat_inj.1 h)
        have e4 : ((s[k].toNat : Int) == (c.toNat : Int)) = false := by simp; omega
        clear hst
        go_wp2
        go_roundw
        case rel => exact ⟨k + 1, by omega, by go_num, by trivial, H⟩
        case measure => simp [intOf]; omega
    · obtain rfl : k = s.size := by omega
      have H : Hid (amongB s.data.toList c = false) := Lib.hid (decide_eq_false (by have := HN.out; rwa [List.take_of_length_le (by rw [HL.out]; exact Nat.le_refl _)] at this))
      go_wp2
      go_ret
      exact ⟨by rw [H.out]; rfl, rfl⟩

/-- the reader's block -/
def RdR (W : World) (b : Nat) (s : ByteArray) (k d : Nat) (e bad : Int) : Prop := W.heap[b]? = some (.cells #[.string s, .int .i64 k, .int .i64 d, .int .i64 e, .int .i64 bad] 99 (0, 0))
theorem RdR.lt {W : World} {b k d : Nat} {s : ByteArray} {e bad : Int} (h : RdR W b s k d e bad) : b < W.heap.size := (Array.getElem?_eq_some_iff.1 h).1
theorem RdR.facts {W : World} {b k d : Nat} {s : ByteArray} {e bad : Int} (h : RdR W b s k d e bad) :
    W.cell? ⟨b, 0, none⟩ = some (.string s) ∧ W.cell? ⟨b, 1, none⟩ = some (.int .i64 k) ∧ W.cell? ⟨b, 2, none⟩ = some (.int .i64 d) ∧ W.cell? ⟨b, 3, none⟩ = some (.int .i64 e) ∧ W.cell? ⟨b, 4, none⟩ = some (.int .i64 bad) ∧
    W.frozen? ⟨b, 1, none⟩ = false ∧ W.frozen? ⟨b, 2, none⟩ = false ∧ W.frozen? ⟨b, 3, none⟩ = false ∧ W.frozen? ⟨b, 4, none⟩ = false :=
  ⟨cell_of_row W b 0 _ _ (0, 0) h, cell_of_row W b 1 _ _ (0, 0) h, cell_of_row W b 2 _ _ (0, 0) h, cell_of_row W b 3 _ _ (0, 0) h, cell_of_row W b 4 _ _ (0, 0) h,
   frozen_of_row W b 1 _ _ h, frozen_of_row W b 2 _ _ h, frozen_of_row W b 3 _ _ h, frozen_of_row W b 4 _ _ h⟩
theorem RdR.of {W W' : World} {b k d : Nat} {s : ByteArray} {e bad : Int} (h : RdR W b s k d e bad) (g : W'.heap[b]? = W.heap[b]?) : RdR W' b s k d e bad := g.trans h
theorem RdR.gr {W W' : World} {b k d : Nat} {s : ByteArray} {e bad : Int} (h : RdR W b s k d e bad) (g : Gr W W') : RdR W' b s k d e bad := h.of (g.b.block b h.lt)
theorem RdR.drewN {W : World} {b k d : Nat} {s : ByteArray} {e bad : Int} (h : RdR W b s k d e bad) (n : Nat) : RdR (W.drewN n) b s k d e bad := h
theorem RdR.setAt {W : World} {b k d : Nat} {s : ByteArray} {e bad : Int} (h : RdR W b s k d e bad) (j : Nat) : RdR (W.setCell ⟨b, 1, none⟩ (.int .i64 j)) b s j d e bad := by
  have := heap_setCell_same W b 1 _ _ (.int .i64 j) h
  unfold RdR; simpa using this
theorem RdR.setDeep {W : World} {b k d : Nat} {s : ByteArray} {e bad : Int} (h : RdR W b s k d e bad) (j : Nat) : RdR (W.setCell ⟨b, 2, none⟩ (.int .i64 j)) b s k j e bad := by
  have := heap_setCell_same W b 2 _ _ (.int .i64 j) h
  unfold RdR; simpa using this
theorem RdR.setErr {W : World} {b k d : Nat} {s : ByteArray} {e bad : Int} (h : RdR W b s k d e bad) (j : Int) : RdR (W.setCell ⟨b, 3, none⟩ (.int .i64 j)) b s k d j bad := by
  have := heap_setCell_same W b 3 _ _ (.int .i64 j) h
  unfold RdR; simpa using this
theorem RdR.setBad {W : World} {b k d : Nat} {s : ByteArray} {e bad : Int} (h : RdR W b s k d e bad) (j : Int) : RdR (W.setCell ⟨b, 4, none⟩ (.int .i64 j)) b s k d e j := by
  have := heap_setCell_same W b 4 _ _ (.int .i64 j) h
  unfold RdR; simpa using this
theorem fail_any (b k d : Nat) (s : ByteArray) (e at_ : Int) (w : World) (h : RdR w b s k d 0 0) :
    Calls Try.prog 45 #[.pointer (some ⟨b, 0, none⟩), .int .i64 e, .int .i64 at_] w fun en w' => en = .returned (.tuple #[]) ∧ RdR w' b s k d e at_ ∧ Only w w' b := by
  obtain ⟨c0, c1, c2, c3, c4, f1, f2, f3, f4⟩ := h.facts
  have HR := Lib.hid h
  clear h
  go_enter Try.func45, Try.ntmps45
  go_wp2
  go_end0
  exact ⟨rfl, (HR.out.setErr e).setBad at_, ((Only.refl w b).setCell (by rfl) _).setCell (by rfl) _⟩
theorem more_any (b k d : Nat) (s : ByteArray) (e bad : Int) (w : World) (h : RdR w b s k d e bad) :
    Calls Try.prog 59 #[.pointer (some ⟨b, 0, none⟩)] w fun en w' => en = .returned (.bool (decide (e = 0) && decide (k < s.size))) ∧ ∃ n, w' = w.drewN n := by
  obtain ⟨c0, c1, c2, c3, c4, f1, f2, f3, f4⟩ := h.facts
  clear h
  by_cases he : e = 0
  · subst he
    go_enter Try.func59, Try.ntmps59
    go_wp2_with fail
    go_quiet (fail)
    go_wp2
    go_ret
    exact ⟨by simp, _, rfl⟩
  · have h1 : (e == 0) = false := by simpa using he
    go_enter Try.func59, Try.ntmps59
    go_wp2_with fail
    go_quiet (fail)
    go_wp2
    go_ret
    exact ⟨by simp [he], _, rfl⟩
/-- a reading has come to its end: at k, or by an error -/
def Out (b : Nat) (s : ByteArray) (d : Nat) (ok : Bool) (k m : Nat) (w w' : World) : Prop :=
  Only w w' b ∧ (ok = true → RdR w' b s k d 0 0) ∧ (ok = false → ∃ (j : Nat) (e bad : Int), e ≠ 0 ∧ j ≤ m ∧ RdR w' b s j d e bad)
theorem Out.no {b d k j m : Nat} {s : ByteArray} {e bad : Int} {w w' : World} (h : RdR w' b s j d e bad) (he : e ≠ 0) (hj : j ≤ m) (o : Only w w' b) : Out b s d false k m w w' := ⟨o, fun h => (by cases h), fun _ => ⟨j, e, bad, he, hj, h⟩⟩
theorem Out.yes {b d k m : Nat} {s : ByteArray} {w w' : World} (h : RdR w' b s k d 0 0) (o : Only w w' b) : Out b s d true k m w w' := ⟨o, fun _ => h, fun h => (by cases h)⟩
theorem Out.from {b d k m : Nat} {s : ByteArray} {ok : Bool} {w w0 w' : World} (h : Out b s d ok k m w0 w') (o : Only w w0 b) : Out b s d ok k m w w' := ⟨o.trans h.1, h.2⟩
theorem Out.place {b d k k' m m' : Nat} {s : ByteArray} {ok : Bool} {w w' : World} (h : Out b s d ok k m w w') (e : ok = true → k = k') (hm : m ≤ m') : Out b s d ok k' m' w w' :=
  ⟨h.1, fun g => e g ▸ h.2.1 g, fun g => by
    obtain ⟨j, x, y, h1, h2, h3⟩ := h.2.2 g
    exact ⟨j, x, y, h1, by omega, h3⟩⟩
/-- behind a stroke at k -/
def escR (s : List UInt8) (L : List UInt8) (k : Nat) : Bool × UInt8 := match s[k + 1]? with
  | none => (false, 0)
  | some c => if amongB L c then (true, c) else (false, 0)
theorem escaped_any (b k d : Nat) (s L : ByteArray) (w : World) (h : RdR w b s k d 0 0) (hk : k < s.size) (hs : s.size ≤ 1000000) (hL : L.size ≤ 1000000) :
    Calls Try.prog 72 #[.pointer (some ⟨b, 0, none⟩), .string L] w fun en w' => en = .returned (.int .u8 (escR s.data.toList L.data.toList k).2.toNat) ∧ Out b s d (escR s.data.toList L.data.toList k).1 (k + 2) s.size w w' := by
  have CA := Lib.hid (fun (c : UInt8) W => rAmong_any c L W hL)
  have CF := Lib.hid (fun W (h : RdR W b s (k + 1) d 0 0) => fail_any b (k + 1) d s 2 ((k + 1 : Nat) : Int) W h)
  obtain ⟨c0, c1, c2, c3, c4, f1, f2, f3, f4⟩ := h.facts
  have HR := Lib.hid (h.setAt (k + 1))
  have HO := Lib.hid ((Only.refl w b).setCell (p := ⟨b, 1, none⟩) (by rfl) (.int .i64 ((k + 1 : Nat) : Int)))
  clear h
  by_cases hlt : k + 1 < s.size
  · have hg : s.data.toList[k + 1]? = some s[k + 1] := by rw [List.getElem?_eq_getElem (by simpa using hlt)]; rfl
    obtain ⟨c, hc⟩ : ∃ c, s[k + 1] = c := ⟨_, rfl⟩
    rw [hc] at hg
    obtain ⟨a, ha⟩ : ∃ a, amongB L.data.toList c = a := ⟨_, rfl⟩
    have C1 := Lib.hid (fun W => CA.out c W)
    rw [ha] at C1
    have n3 : ((k + 1 : Nat) : Int) < (s.size : Int) := by omega
    have n4 : decide ((s.size : Int) ≤ (k : Int) + 1) = false := decide_eq_false (by omega)
    cases a
    · have H : Hid (escR s.data.toList L.data.toList k = (false, 0)) := Lib.hid (by unfold escR; rw [hg]; simp [ha])
      clear hg ha CA
      go_enter Try.func72, Try.ntmps72
      go_wp2_with fail
      go_quiet ((go_at_call 46; exact quiet_left (C1.out _)))
      go_wp2_with fail
      refine (CF.out _ (HR.out.drewN _)).mono ?_
      rintro e w1 ⟨rfl, hr1, ho1⟩
      go_wp2
      go_ret
      exact ⟨by rw [H.out]; rfl, by rw [H.out]; exact Out.no hr1 (by decide) (by omega) ((HO.out.drewN _).trans ho1)⟩
    · have H : Hid (escR s.data.toList L.data.toList k = (true, c)) := Lib.hid (by unfold escR; rw [hg]; simp [ha])
      obtain ⟨d0, d1, -⟩ := HR.out.facts
      clear hg ha CA
      go_enter Try.func72, Try.ntmps72
      go_wp2_with fail
      go_quiet ((go_at_call 46; exact quiet_left (C1.out _)))
      go_wp2_with fail
      go_quiet (fail)
      go_wp2
      go_ret
      exact ⟨by rw [H.out]; rfl, by rw [H.out]; exact Out.yes ((HR.out.drewN _).setAt (k + 2)) ((HO.out.drewN _).setCell (by rfl) _)⟩
  · have hks : k + 1 = s.size := by omega
    have H : Hid (escR s.data.toList L.data.toList k = (false, 0)) := Lib.hid (by unfold escR; rw [List.getElem?_eq_none (by simp; omega)])
    have n4 : decide ((s.size : Int) ≤ (k : Int) + 1) = true := decide_eq_true (by omega)
    clear CA
    go_enter Try.func72, Try.ntmps72
    go_wp2_with fail
    go_quiet (fail)
    go_wp2_with fail
    refine (CF.out _ (HR.out.drewN _)).mono ?_
    rintro e w1 ⟨rfl, hr1, ho1⟩
    go_wp2
    go_ret
    exact ⟨by rw [H.out]; rfl, by rw [H.out]; exact Out.no hr1 (by decide) (by omega) ((HO.out.drewN _).trans ho1)⟩
end Go.Proofs.Ytnlfndhgdeapeaa
/- The reference's item: a byte in brackets. -/
namespace Go.Proofs.Ytnlfndhgdeapeaa
open Go.RowKit
set_option maxRecDepth 100000
set_option maxHeartbeats 2000000

theorem among_perm {a b : List UInt8} (h : a.isPerm b = true) (c : UInt8) : amongB a c = amongB b c := by
  unfold amongB
  rw [decide_eq_decide]
  exact (List.isPerm_iff.1 h).mem_iff
theorem letter_esc {s ba sk L : List UInt8} {k : Nat} (h : isAt s k 92 = true) (hL : L.isPerm sk = true) : letterS s ba sk k = ((escR s L k).1, (escR s L k).2, if (escR s L k).1 then k + 2 else k + 1) := by
  unfold letterS escR
  simp only [h, if_true]
  cases e : s[k + 1]? with
  | none => rfl
  | some c =>
    simp only [among_perm hL]
    cases amongB sk c <;> rfl
theorem letter_plain {s ba sk : List UInt8} {k : Nat} {c : UInt8} (hc : s[k]? = some c) (h : c ≠ 92) : letterS s ba sk k = if amongB ba c then (false, 0, k) else (true, c, k + 1) := by
  have e : isAt s k 92 = false := by
    unfold isAt; rw [hc]; simpa using h
  unfold letterS
  simp only [e, Bool.false_eq_true, if_false, hc]
  cases amongB ba c <;> rfl
theorem letter_end {s ba sk : List UInt8} {k : Nat} (hc : s[k]? = none) : letterS s ba sk k = (false, 0, k) := by
  have e : isAt s k 92 = false := by
    unfold isAt; rw [hc]; rfl
  unfold letterS
  simp only [e, Bool.false_eq_true, if_false, hc]
theorem rItem_any (b k d : Nat) (s : ByteArray) (w : World) (h : RdR w b s k d 0 0) (hk : k ≤ s.size) (hs : s.size ≤ 1000000) :
    Calls Try.prog 75 #[.pointer (some ⟨b, 0, none⟩)] w fun en w' => en = .returned (.int .u8 (letterS s.data.toList sbL sqL k).2.1.toNat) ∧ Out b s d (letterS s.data.toList sbL sqL k).1 (letterS s.data.toList sbL sqL k).2.2 s.size w w' := by
  have CF := Lib.hid (fun W (h : RdR W b s k d 0 0) => fail_any b k d s 2 (k : Int) W h)
  obtain ⟨c0, c1, c2, c3, c4, f1, f2, f3, f4⟩ := h.facts
  have HR := Lib.hid h
  by_cases hlt : k < s.size
  · have CE := Lib.hid (fun W (h : RdR W b s k d 0 0) => escaped_any b k d s ⟨#[93, 91, 92, 45, 94, 46, 40, 41, 124, 42, 43, 63]⟩ W h hlt hs (by decide))
    have hg : s.data.toList[k]? = some s[k] := by rw [List.getElem?_eq_getElem (by simpa using hlt)]; rfl
    have n3 : (k : Int) < (s.size : Int) := by omega
    have n4 : decide ((s.size : Int) ≤ (k : Int)) = false := decide_eq_false (by omega)
    obtain ⟨c, hc⟩ : ∃ c, s[k] = c := ⟨_, rfl⟩
    have hcn : s[k].toNat = c.toNat := by rw [hc]
    rw [hc] at hg
    by_cases e92 : c = 92
    · subst e92
      have e5 : s[k].toNat = 92 := hcn
      have hL := letter_esc (ba := sbL) (sk := sqL) (L := [93, 91, 92, 45, 94, 46, 40, 41, 124, 42, 43, 63]) (s := s.data.toList) (k := k) (by unfold isAt; rw [hg]; rfl) (by decide)
      have HE := Lib.hid hL
      clear hg hc hcn hL h CF
      go_enter Try.func75, Try.ntmps75
      go_wp2_with fail
      go_quiet (fail)
      go_wp2_with fail
      go_quiet (fail)
      go_wp2_with fail
      refine (CE.out _ (HR.out.drewN _)).mono ?_
      rintro e w1 ⟨rfl, ho1⟩
      go_wp2
      go_ret
      rw [HE.out]
      exact ⟨rfl, (ho1.from ((Only.refl w b).drewN _)).place (fun e => by
        have e' : (escR s.data.toList [93, 91, 92, 45, 94, 46, 40, 41, 124, 42, 43, 63] k).1 = true := e
        simp only [e', if_true]) (Nat.le_refl _)⟩
    · have e3 : ¬ s[k].toNat = 92 := fun h => e92 (UInt8.toNat_inj.1 (by rw [← hcn, h]; rfl))
      have hL := letter_plain (ba := sbL) (sk := sqL) hg e92
      by_cases hb : c = 93 ∨ c = 45 ∨ c = 94
      · have H : Hid (letterS s.data.toList sbL sqL k = (false, 0, k)) := Lib.hid (by rw [hL]; rcases hb with rfl | rfl | rfl <;> rfl)
        clear hL hg
        rcases hb with rfl | rfl | rfl
        all_goals
          have e5 := hcn
          simp only [UInt8.reduceToNat] at e5
          clear hcn hc e92
          go_enter Try.func75, Try.ntmps75
          go_wp2_with fail
          go_quiet (fail)
          go_wp2_with fail
          go_quiet (fail)
          go_wp2_with fail
          refine (CF.out _ (HR.out.drewN _)).mono ?_
          rintro e w1 ⟨rfl, hr1, ho1⟩
          go_wp2
          go_ret
          rw [H.out]
          exact ⟨rfl, Out.no hr1 (by decide) hk (((Only.refl w b).drewN _).trans ho1)⟩
      · have hb' : amongB sbL c = false := decide_eq_false (by
          simp only [sbL, List.mem_cons, List.not_mem_nil, or_false]
          intro h
          rcases h with h | h | h | h
          · exact hb (.inl h)
          · exact e92 h
          · exact hb (.inr (.inl h))
          · exact hb (.inr (.inr h)))
        have H : Hid (letterS s.data.toList sbL sqL k = (true, c, k + 1)) := Lib.hid (by rw [hL, hb']; rfl)
        have g1 : ¬ s[k].toNat = 93 := fun h => hb (.inl (UInt8.toNat_inj.1 (by rw [← hcn, h]; rfl)))
        have g2 : ¬ s[k].toNat = 45 := fun h => hb (.inr (.inl (UInt8.toNat_inj.1 (by rw [← hcn, h]; rfl))))
        have g3 : ¬ s[k].toNat = 94 := fun h => hb (.inr (.inr (UInt8.toNat_inj.1 (by rw [← hcn, h]; rfl))))
        have q1 : ((s[k].toNat : Int) == 93) = false := by simp; omega
        have q2 : ((s[k].toNat : Int) == 45) = false := by simp; omega
        have q3 : ((s[k].toNat : Int) == 94) = false := by simp; omega
        have HN := Lib.hid hcn
        clear hL hg hb' hb hcn hc e92
        go_enter Try.func75, Try.ntmps75
        go_wp2_with fail
        go_quiet (fail)
        go_wp2_with fail
        go_quiet (fail)
        go_wp2
        go_ret
        rw [H.out]
        exact ⟨by rw [← HN.out]; rfl, Out.yes ((HR.out.drewN _).setAt (k + 1)) (((Only.refl w b).drewN _).setCell (by rfl) _)⟩
  · obtain rfl : k = s.size := by omega
    have H : Hid (letterS s.data.toList sbL sqL s.size = (false, 0, s.size)) := Lib.hid (letter_end (List.getElem?_eq_none (by simp)))
    go_enter Try.func75, Try.ntmps75
    go_wp2_with fail
    go_quiet (fail)
    go_wp2_with fail
    refine (CF.out _ (HR.out.drewN _)).mono ?_
    rintro e w1 ⟨rfl, hr1, ho1⟩
    go_wp2
    go_ret
    rw [H.out]
    exact ⟨rfl, Out.no hr1 (by decide) hk (((Only.refl w b).drewN _).trans ho1)⟩
end Go.Proofs.Ytnlfndhgdeapeaa
/- The reference's class: where it ends. -/
namespace Go.Proofs.Ytnlfndhgdeapeaa
open Go.RowKit
set_option maxRecDepth 100000
set_option maxHeartbeats 4000000

def itemE (s : List UInt8) (k : Nat) : Option Nat := if (itemS s k).1 then some (itemS s k).2.2.2 else none
theorem itemE_eq (s : List UInt8) (k : Nat) : itemE s k = if (letterS s sbL sqL k).1 then (if isAt s (letterS s sbL sqL k).2.2 45 then (if (letterS s sbL sqL ((letterS s sbL sqL k).2.2 + 1)).1 then (if (letterS s sbL sqL ((letterS s sbL sqL k).2.2 + 1)).2.1.toNat < (letterS s sbL sqL k).2.1.toNat then none else some (letterS s sbL sqL ((letterS s sbL sqL k).2.2 + 1)).2.2) else none) else some (letterS s sbL sqL k).2.2) else none := by
  unfold itemE itemS
  obtain ⟨r, hr⟩ : ∃ r, letterS s sbL sqL k = r := ⟨_, rfl⟩
  rw [hr]
  obtain ⟨ok, c, j⟩ := r
  cases ok
  · rfl
  simp only [if_true]
  cases isAt s j 45
  · rfl
  simp only [if_true]
  obtain ⟨q, hq⟩ : ∃ q, letterS s sbL sqL (j + 1) = q := ⟨_, rfl⟩
  rw [hq]
  obtain ⟨ok2, c2, j2⟩ := q
  cases ok2
  · rfl
  simp only [if_true]
  by_cases h : c2.toNat < c.toNat
  · simp only [if_pos h]
    rfl
  · simp only [if_neg h]
    rfl
def clsG (s : List UInt8) : Nat → Bool → Nat → Option Nat
  | 0, _, _ => none
  | f + 1, fst, k => if !fst && isAt s k 93 then some (k + 1) else match itemE s k with
    | none => none
    | some k' => clsG s f false k'
theorem clsG_s (s : List UInt8) (f : Nat) (fst : Bool) (k : Nat) : clsG s (f + 1) fst k = if !fst && isAt s k 93 then some (k + 1) else match itemE s k with
    | none => none
    | some k' => clsG s f false k' := rfl
/-- an end of a reading, as two cells -/
def endO (r : Option Nat) (x : Bool × Nat) : Prop := r.isSome = x.1 ∧ ∀ k, r = some k → x.2 = k
theorem clsG_setF (s : List UInt8) : ∀ (f k : Nat) (p : Nat → Bool), endO (clsG s f false k) ((setF s f k p).1, (setF s f k p).2.2)
  | 0, k, p => ⟨rfl, fun _ h => by cases h⟩
  | f + 1, k, p => by
    rw [clsG_s, setF_s]
    cases isAt s k 93
    · simp only [Bool.not_false, Bool.and_false, Bool.false_eq_true, if_false]
      unfold itemE
      cases e : (itemS s k).1
      · simp only [Bool.false_eq_true, if_false]
        exact ⟨rfl, fun _ h => by cases h⟩
      · simp only [if_true]
        exact clsG_setF s f _ _
    · simp only [Bool.not_false, Bool.and_true, if_true]
      exact ⟨rfl, fun _ h => by cases h; rfl⟩
/-- behind the opening bracket at k -/
def clsS (s : List UInt8) (k : Nat) : Option Nat := clsG s (s.length + 2) true (if isAt s (k + 1) 94 then k + 2 else k + 1)
theorem clsS_set (s : List UInt8) (k : Nat) : endO (clsS s k) ((setS s (k + 1)).1, (setS s (k + 1)).2.2) := by
  unfold clsS setS
  rw [clsG_s]
  simp only [Bool.not_true, Bool.false_and, Bool.false_eq_true, if_false]
  unfold itemE
  cases e : (itemS s (if isAt s (k + 1) 94 then k + 1 + 1 else k + 1)).1
  · simp only [Bool.false_eq_true, if_false]
    exact ⟨rfl, fun _ h => by cases h⟩
  · simp only [if_true]
    exact clsG_setF s _ _ _
/-- a block of a node whose set is there -/
def RN (W : World) (M : Nat) : Prop := ∃ cs, RB W M cs ∧ ∀ i, i < 256 → ∃ x, cs[2 + i]? = some (.bool x)
theorem RN.set {W : World} {M : Nat} (h : RN W M) {i : Nat} (hi : i < 256) (x : Bool) : RN (W.setCell ⟨M, 2 + i, none⟩ (.bool x)) M := by
  obtain ⟨cs, h1, h2⟩ := h
  refine ⟨_, h1.setSame (2 + i) (by rfl), fun j hj => ?_⟩
  rw [Array.getElem?_setIfInBounds]
  by_cases e : 2 + i = 2 + j
  · rw [if_pos e, if_pos (by rw [h1.2.1]; omega)]
    exact ⟨x, rfl⟩
  · rw [if_neg e]
    exact h2 j hj
theorem RN.cell {W : World} {M : Nat} (h : RN W M) {i : Nat} (hi : i < 256) : ∃ x, W.cell? ⟨M, 2 + i, none⟩ = some (.bool x) ∧ W.frozen? ⟨M, 2 + i, none⟩ = false := by
  obtain ⟨cs, h1, h2⟩ := h
  obtain ⟨x, hx⟩ := h2 i hi
  exact ⟨x, (cell_of_row W M (2 + i) cs _ (0, 0) h1.1).trans hx, frozen_of_row W M (2 + i) cs _ h1.1⟩
theorem RN.lt {W : World} {M : Nat} (h : RN W M) : M < W.heap.size := by
  obtain ⟨cs, h1, -⟩ := h
  exact h1.lt
theorem RN.of {W W' : World} {M : Nat} (h : RN W M) (e : W'.heap[M]? = W.heap[M]?) : RN W' M := by
  obtain ⟨cs, h1, h2⟩ := h
  exact ⟨cs, h1.of e, h2⟩
theorem RN.new {W : World} {M : Nat} (k : Int) {v : Value} (h : RB W M (nodeC k v)) : RN W M := ⟨_, h, fun i hi => ⟨false, by
  unfold nodeC
  rw [Array.getElem?_append_right (by simp)]
  simp [hi]⟩⟩
def RBx (W : World) (N : Nat) : Prop := ∃ cs, RB W N cs
theorem RBx.of {W W' : World} {M : Nat} (h : RBx W M) (e : W'.heap[M]? = W.heap[M]?) : RBx W' M := by
  obtain ⟨cs, h⟩ := h
  exact ⟨cs, h.of e⟩
theorem RBx.lt {W : World} {M : Nat} (h : RBx W M) : M < W.heap.size := by
  obtain ⟨cs, h1⟩ := h
  exact h1.lt
theorem RN.x {W : World} {M : Nat} (h : RN W M) : RBx W M := by
  obtain ⟨cs, h1, -⟩ := h
  exact ⟨cs, h1⟩
theorem Only.far {w W W' : World} {b M : Nat} (h : Only w W b) (g : Only W W' M) (hM : w.heap.size ≤ M) : Only w W' b :=
  ⟨g.os.trans h.os, g.tape.trans h.tape, g.output.trans h.output, Nat.le_trans h.size g.size, fun i hi hne => (g.block i (Nat.lt_of_lt_of_le hi h.size) (fun e => by have := Option.some.inj e; omega)).trans (h.block i hi hne)⟩
/-- in a class: the result's block N, the node's block behind it -/
structure ClsSt (b d : Nat) (s : ByteArray) (Q : Option Nat) (w W : World) (g : Nat) (fst : Bool) : Prop where
  o : Only w W b
  n : RN W (w.heap.size + 1)
  r : RBx W w.heap.size
  q : (∃ j, RdR W b s j d 0 0 ∧ j ≤ s.size ∧ s.size + 1 ≤ j + g ∧ clsG s.data.toList g fst j = Q) ∨ (Q = none ∧ ∃ (j : Nat) (e bad : Int), e ≠ 0 ∧ j ≤ s.size ∧ RdR W b s j d e bad)
theorem ClsSt.onM {b d g : Nat} {s : ByteArray} {Q : Option Nat} {w W W' : World} {fst : Bool} (h : ClsSt b d s Q w W g fst) (hb : b < w.heap.size) (o : Only W W' (w.heap.size + 1)) (n : RN W' (w.heap.size + 1)) : ClsSt b d s Q w W' g fst := by
  have hr : ∀ {j : Nat} {e bad : Int}, RdR W b s j d e bad → RdR W' b s j d e bad := fun h => h.of (o.blk h.lt (by omega))
  refine ⟨h.o.far o (by omega), n, h.r.of (o.blk h.r.lt (by omega)), ?_⟩
  rcases h.q with ⟨j, h1, h2⟩ | ⟨h1, j, e, bad, h2, h3, h4⟩
  · exact .inl ⟨j, hr h1, h2⟩
  · exact .inr ⟨h1, j, e, bad, h2, h3, hr h4⟩
/-- on the way: at j, or behind an error -/
structure ClsAt (b d : Nat) (s : ByteArray) (w W : World) (ok : Bool) (j m : Nat) : Prop where
  o : Only w W b
  n : RN W (w.heap.size + 1)
  r : RBx W w.heap.size
  y : ok = true → RdR W b s j d 0 0
  x : ok = false → ∃ (j : Nat) (e bad : Int), e ≠ 0 ∧ j ≤ m ∧ RdR W b s j d e bad
theorem ClsAt.out {b d j j' m m' : Nat} {s : ByteArray} {w W W' : World} {ok ok' : Bool} (h : ClsAt b d s w W ok j m) (hb : b < w.heap.size) (o : Out b s d ok' j' m' W W') : ClsAt b d s w W' ok' j' m' :=
  ⟨h.o.trans o.1, h.n.of (o.1.blk h.n.lt (by omega)), h.r.of (o.1.blk h.r.lt (by omega)), o.2.1, o.2.2⟩
theorem ClsAt.onR {b d j j' m m' : Nat} {s : ByteArray} {w W W' : World} {ok ok' : Bool} (h : ClsAt b d s w W ok j m) (hb : b < w.heap.size) (o : Only W W' b) (y : ok' = true → RdR W' b s j' d 0 0) (x : ok' = false → ∃ (j : Nat) (e bad : Int), e ≠ 0 ∧ j ≤ m' ∧ RdR W' b s j d e bad) : ClsAt b d s w W' ok' j' m' :=
  ⟨h.o.trans o, h.n.of (o.blk h.n.lt (by omega)), h.r.of (o.blk h.r.lt (by omega)), y, x⟩
theorem ClsAt.onM {b d j m : Nat} {s : ByteArray} {w W W' : World} {ok : Bool} (h : ClsAt b d s w W ok j m) (hb : b < w.heap.size) (o : Only W W' (w.heap.size + 1)) (n : RN W' (w.heap.size + 1)) : ClsAt b d s w W' ok j m := by
  have hr : ∀ {j : Nat} {e bad : Int}, RdR W b s j d e bad → RdR W' b s j d e bad := fun h => h.of (o.blk h.lt (by omega))
  exact ⟨h.o.far o (by omega), n, h.r.of (o.blk h.r.lt (by omega)), fun e => hr (h.y e), fun e => by
    obtain ⟨j, e, bad, h2, h3, h4⟩ := h.x e
    exact ⟨j, e, bad, h2, h3, hr h4⟩⟩
theorem ClsAt.drewN {b d j m : Nat} {s : ByteArray} {w W : World} {ok : Bool} (h : ClsAt b d s w W ok j m) (n : Nat) : ClsAt b d s w (W.drewN n) ok j m := ⟨h.o.drewN n, h.n, h.r, h.y, h.x⟩
theorem ClsAt.step {b d j m : Nat} {s : ByteArray} {w W : World} (h : ClsAt b d s w W true j m) (hb : b < w.heap.size) (j' m' : Nat) : ClsAt b d s w (W.setCell ⟨b, 1, none⟩ (.int .i64 j')) true j' m' :=
  h.onR hb ((Only.refl W b).setCell (by rfl) _) (fun _ => (h.y rfl).setAt j') (fun e => (by cases e))
theorem ClsAt.no {b d j m : Nat} {s : ByteArray} {w W : World} (h : ClsAt b d s w W false j m) (j' : Nat) : ClsAt b d s w W false j' m := ⟨h.o, h.n, h.r, fun e => (by cases e), h.x⟩
theorem ibeq (n m : Nat) : ((n : Int) == (m : Int)) = decide (n = m) := by rw [Bool.eq_iff_iff]; simp only [beq_iff_eq, decide_eq_true_eq]; omega
theorem ineq (n m : Nat) : ((n : Int) != (m : Int)) = !decide (n = m) := by rw [← ibeq]; rfl
theorem more_quiet {b k d : Nat} {s : ByteArray} {e bad : Int} {w : World} (h : RdR w b s k d e bad) (v : Bool) (hv : (decide (e = 0) && decide (k < s.size)) = v) (n : Nat) :
    Calls Try.prog 59 #[.pointer (some ⟨b, 0, none⟩)] (w.drewN n) fun en w' => en = .returned (.bool v) ∧ ∃ m, w' = w.drewN m :=
  (more_any b k d s e bad _ (h.drewN n)).mono fun _ _ ⟨h1, m, h2⟩ => ⟨by rw [h1, hv], n + m, h2.trans (by simp only [World.drewN, Nat.add_assoc])⟩
theorem class_any (b k d : Nat) (s : ByteArray) (w : World) (h : RdR w b s k d 0 0) (hk : k < s.size) (hs : s.size ≤ 1000000) :
    Calls Try.prog 73 #[.pointer (some ⟨b, 0, none⟩)] w fun en w' => (∃ cs, en = .returned (.agg cs) ∧ cs.size = 258 ∧ cs.all (·.oneCell') = true) ∧ Out b s d (clsS s.data.toList k).isSome ((clsS s.data.toList k).getD 0) (s.size + 1) w w' := by
  have hlen : s.data.toList.length = s.size := by simp
  have hbN := h.lt
  have CI := Lib.hid (fun (k : Nat) W (h : RdR W b s k d 0 0) (hk : k ≤ s.size) => rItem_any b k d s W h hk hs)
  have CF := Lib.hid (fun (k : Nat) (a : Int) W (h : RdR W b s k d 0 0) => fail_any b k d s 2 a W h)
  obtain ⟨Q, hQ⟩ : ∃ Q, clsS s.data.toList k = Q := ⟨_, rfl⟩
  rw [hQ]
  unfold clsS at hQ
  rw [hlen] at hQ
  obtain ⟨wo, hwo⟩ : ∃ wo, isAt s.data.toList (k + 1) 94 = wo := ⟨_, rfl⟩
  rw [hwo] at hQ
  have hwl : wo = true → k + 1 < s.size := fun e => by
    have := isAt_len (hwo.trans e)
    omega
  have HQ := Lib.hid hQ
  have HR := Lib.hid h
  obtain ⟨N, hN⟩ : ∃ N, w.heap.size = N := ⟨_, rfl⟩
  clear h hQ
  go_enter Try.func73, Try.ntmps73
  go_upto_region 3 with (first
    | (refine allocA N hN rfl rfl ?_; intro W1 hb1 hg1 hs1)
    | (refine allocA (N + 1) hs1 rfl rfl ?_; intro W2 hb2 hg2 hs2)
    | (refine wpList_build1 rfl _ rfl 3 rfl ?_)
    | (refine storeA (.tmp 3) (.tmp 11) (N + 1) ⟨rfl, rfl⟩ rfl rfl rfl hb2 (nodeC_size _ _) (nodeC_one _ rfl) ?_; intro W3 hb3 ho3 hs3
       have HA3 : Hid (ClsAt b d s w W3 true k 0) := Lib.hid ⟨(((Only.refl w b).gr hg1).gr hg2).far ho3 (by omega), by rw [hN]; exact RN.new 3 hb3, by rw [hN]; exact ⟨_, (hb1.gr hg2).of (ho3.blk (hb1.gr hg2).lt (by omega))⟩, fun _ => ((HR.out.gr hg1).gr hg2).of (ho3.blk ((HR.out.gr hg1).gr hg2).lt (by omega)), fun e => (by cases e)⟩
       obtain ⟨c0, c1, -, -, -, f1, -⟩ := (HA3.out.y rfl).facts
       clear hb1 hg1 hs1 hb2 hg2 hs2 hb3 ho3 HR))
  go_cut [4] from 11 (fun s4 wx => s4 = .bool wo ∧ Hid (ClsAt b d s w wx true (k + 1) 0))
  case first =>
    have HA4 := Lib.hid (HA3.out.step hbN (k + 1) 0)
    obtain ⟨d0, d1, -⟩ := (HA4.out.y rfl).facts
    have CM := Lib.hid (more_quiet (HA4.out.y rfl))
    by_cases hlt : k + 1 < s.size
    · have n3 : (k : Int) + 1 < (s.size : Int) := by omega
      have n4 : (0 : Int) ≤ (k : Int) + 1 := by omega
      have C1 := Lib.hid (CM.out true (by simp [hlt]))
      have hg : s.data.toList[k + 1]? = some s[k + 1] := by rw [List.getElem?_eq_getElem (by simpa using hlt)]; rfl
      have H : Hid ((decide (s[k + 1].toNat = 94)) = wo) := Lib.hid (by
        rw [← hwo]; unfold isAt; rw [hg]
        simp [← UInt8.toNat_inj])
      clear hg
      go_quiet ((go_at_call 59; exact C1.out _))
      go_wp2_with fail
      go_meet
      exact ⟨by rw [← H.out]; exact congrArg Value.bool (ibeq _ 94), Lib.hid (HA4.out.drewN _)⟩
    · have C1 := Lib.hid (CM.out false (by simp [hlt]))
      have H : Hid (wo = false) := Lib.hid (by cases wo; rfl; exact absurd (hwl rfl) hlt)
      go_quiet ((go_at_call 59; exact C1.out _))
      go_wp2_with fail
      go_meet
      exact ⟨by rw [H.out], Lib.hid (HA4.out.drewN _)⟩
  case rest =>
  obtain ⟨rfl, HA5⟩ := hcut
  clear HA3 c0 c1 f1
  subst hN
  go_upto_if 33 with fail
  go_cut [4] from 11 (fun s4 wx => s4 = .bool wo ∧ Hid (ClsAt b d s w wx true (if wo then k + 2 else k + 1) 0))
  case first =>
    obtain ⟨d0, d1, -, -, -, f1, -⟩ := (HA5.out.y rfl).facts
    cases wo
    · go_wp2_with fail
      go_meet
      exact ⟨rfl, HA5⟩
    · go_wp2_with fail
      go_meet
      exact ⟨rfl, Lib.hid (HA5.out.step hbN (k + 2) 0)⟩
  case rest =>
  obtain ⟨rfl, HA6⟩ := hcut
  clear HA5
  obtain ⟨k1, hk1⟩ : ∃ k1, (if wo then k + 2 else k + 1) = k1 := ⟨_, rfl⟩
  have hk1s : k1 ≤ s.size := by
    rw [← hk1]
    cases wo
    · show k + 1 ≤ _; omega
    · have := hwl rfl; show k + 2 ≤ _; omega
  rw [hk1] at HQ HA6
  clear hk1 hwl hwo hlen
  go_upto_block 0 with fail
  go_cut [] from 11 (fun wx => (Hid (∃ j, ClsAt b d s w wx true j 0 ∧ j < s.size ∧ Q = some (j + 1))) ∨ (Q = none ∧ Hid (ClsAt b d s w wx false 0 s.size)))
  case first =>
    go_wp2_with fail
    go_loopg [5] (s.size + 2) (fun g vf wx => ∃ fst, vf = .bool fst ∧ ((Hid (∃ j, ClsAt b d s w wx true j 0 ∧ j ≤ s.size ∧ s.size + 1 ≤ j + g ∧ clsG s.data.toList g fst j = Q)) ∨ (Q = none ∧ Hid (ClsAt b d s w wx false 0 s.size))))
    case atStart => exact ⟨true, rfl, .inl (Lib.hid ⟨k1, HA6.out, hk1s, by omega, HQ.out⟩)⟩
    case round =>
      clear HA6 HQ
      obtain ⟨fst, rfl, hst | ⟨rfl, HE⟩⟩ := hrel
      · obtain ⟨j, hA, hj, hf, hG⟩ := hst.out
        have HA := Lib.hid hA
        clear hA
        cases gk with
        | zero => omega
        | succ f =>
          rw [clsG_s] at hG
          have HG := Lib.hid hG
          clear hG hst
          obtain ⟨t, ht⟩ : ∃ t, (!fst && isAt s.data.toList j 93) = t := ⟨_, rfl⟩
          rw [ht] at HG
          have htl : t = true → j < s.size := fun e => by
            have := isAt_len (Bool.and_eq_true_iff.1 (ht.trans e)).2
            simp at this; omega
          go_upto_region 7 with fail
          go_cut [72] from 41 to 126 (fun s72 wx => s72 = .bool (!t) ∧ Hid (ClsAt b d s w wx true j 0))
          case first =>
            obtain ⟨c0, c1, -, c3, -⟩ := (HA.out.y rfl).facts
            cases fst
            case true =>
              have H : Hid (t = false) := Lib.hid ht.symm
              clear ht HG
              go_wp2_with fail
              go_quiet (fail)
              go_wp2_with fail
              go_meet
              exact ⟨by rw [H.out]; rfl, Lib.hid (HA.out.drewN _)⟩
            by_cases hlt : j < s.size
            · have hg : s.data.toList[j]? = some s[j] := by rw [List.getElem?_eq_getElem (by simpa using hlt)]; rfl
              have H : Hid ((decide (s[j].toNat = 93)) = t) := Lib.hid (by
                rw [← ht]; unfold isAt; rw [hg]
                simp [← UInt8.toNat_inj])
              have n3 : (j : Int) < (s.size : Int) := by omega
              have n4 : decide (s.size ≤ j) = false := decide_eq_false (by omega)
              clear ht HG hg
              go_wp2_with fail
              go_quiet (fail)
              go_wp2_with fail
              go_meet
              exact ⟨by rw [← H.out]; exact congrArg Value.bool (ineq _ 93), Lib.hid (HA.out.drewN _)⟩
            · have H : Hid (t = false) := Lib.hid (by cases t; rfl; exact absurd (htl rfl) hlt)
              have n4 : decide (s.size ≤ j) = true := decide_eq_true (by omega)
              clear ht HG
              go_wp2_with fail
              go_quiet (fail)
              go_wp2_with fail
              go_meet
              exact ⟨by rw [H.out]; rfl, Lib.hid (HA.out.drewN _)⟩
          case rest =>
          obtain ⟨rfl, HA1⟩ := hcut
          clear HA ht
          cases t
          case true =>
            have hj' := htl rfl
            go_wp2_with fail
            go_meet
            exact .inl (Lib.hid ⟨j, HA1.out, hj', by rw [← HG.out]; rfl⟩)
          have HG1 : Hid ((match itemE s.data.toList j with
            | none => none
            | some k' => clsG s.data.toList f false k') = Q) := Lib.hid HG.out
          clear HG htl
          obtain ⟨r, hr⟩ : ∃ r, letterS s.data.toList sbL sqL j = r := ⟨_, rfl⟩
          have hle := letterS_le s.data.toList sbL sqL j (by simpa using hj)
          have HI : Hid (itemE s.data.toList j = if r.1 then (if isAt s.data.toList r.2.2 45 then (if (letterS s.data.toList sbL sqL (r.2.2 + 1)).1 then (if (letterS s.data.toList sbL sqL (r.2.2 + 1)).2.1.toNat < r.2.1.toNat then none else some (letterS s.data.toList sbL sqL (r.2.2 + 1)).2.2) else none) else some r.2.2) else none) := Lib.hid (by rw [itemE_eq, hr])
          have CI1 := Lib.hid (CI.out j)
          have hon := letter_on (s := s.data.toList) (a := sbL) (b := sqL) (k := j)
          rw [hr] at CI1 hle hon
          clear hr
          obtain ⟨ok1, ca, j1⟩ := r
          have hj1 : j1 ≤ s.size := by simpa using hle.1
          clear hle
          go_upto_region 11 with (go_at_call 75; refine (CI1.out _ (HA1.out.y rfl) hj).mono ?_; rintro e w1 ⟨rfl, ho1⟩; have HA2 := Lib.hid (HA1.out.out hbN ho1); clear ho1)
          clear CI1
          obtain ⟨t2, ht2⟩ : ∃ t2, (ok1 && isAt s.data.toList j1 45) = t2 := ⟨_, rfl⟩
          have htl2 : t2 = true → ok1 = true ∧ j1 < s.size := fun e => by
            have := Bool.and_eq_true_iff.1 (ht2.trans e)
            refine ⟨this.1, ?_⟩
            have := isAt_len this.2
            simp at this; omega
          go_cut [89] from 41 to 126 (fun s89 wx => s89 = .bool t2 ∧ Hid (ClsAt b d s w wx ok1 j1 s.size))
          case first =>
            clear HI HG1 HA1
            cases ok1
            case false =>
              obtain ⟨j', e, bad, he, hj', hr⟩ := HA2.out.x rfl
              have C1 := Lib.hid (more_quiet hr false (by simp [he]))
              have H : Hid (t2 = false) := Lib.hid ht2.symm
              clear hr ht2
              go_wp2_with fail
              go_quiet ((go_at_call 59; exact C1.out _))
              go_wp2_with fail
              go_meet
              exact ⟨by rw [H.out], Lib.hid (HA2.out.drewN _)⟩
            obtain ⟨c0, c1, -, c3, -⟩ := (HA2.out.y rfl).facts
            have CM := Lib.hid (more_quiet (HA2.out.y rfl))
            by_cases hlt : j1 < s.size
            · have hg : s.data.toList[j1]? = some s[j1] := by rw [List.getElem?_eq_getElem (by simpa using hlt)]; rfl
              have H : Hid ((decide (s[j1].toNat = 45)) = t2) := Lib.hid (by
                rw [← ht2]; unfold isAt; rw [hg]
                simp [← UInt8.toNat_inj])
              have n3 : (j1 : Int) < (s.size : Int) := by omega
              have C1 := Lib.hid (CM.out true (by simp [hlt]))
              clear ht2 hg CM
              go_wp2_with fail
              go_quiet ((go_at_call 59; exact C1.out _))
              go_wp2_with fail
              go_meet
              exact ⟨by rw [← H.out]; exact congrArg Value.bool (ibeq _ 45), Lib.hid (HA2.out.drewN _)⟩
            · have H : Hid (t2 = false) := Lib.hid (by cases t2; rfl; exact absurd (htl2 rfl).2 hlt)
              have C1 := Lib.hid (CM.out false (by simp [hlt]))
              clear ht2 CM
              go_wp2_with fail
              go_quiet ((go_at_call 59; exact C1.out _))
              go_wp2_with fail
              go_meet
              exact ⟨by rw [H.out], Lib.hid (HA2.out.drewN _)⟩
          case rest =>
          obtain ⟨rfl, HA3⟩ := hcut
          clear HA2 HA1
          obtain ⟨R, hR⟩ : ∃ R, itemE s.data.toList j = R := ⟨_, rfl⟩
          rw [hR] at HG1 HI
          clear hR
          go_upto_if 89 with fail
          go_cut [7] from 41 to 126 (fun s7 wx => ∃ cb : UInt8, s7 = .int .u8 cb.toNat ∧ Hid (ClsAt b d s w wx R.isSome (R.getD 0) s.size) ∧ (∀ j2, R = some j2 → j < j2 ∧ j2 ≤ s.size))
          case first =>
            clear HG1
            try simp only at HI hon
            cases t2
            case false =>
              have hR1 : R = if ok1 then some j1 else none := by
                rw [HI.out]
                cases ok1
                · rfl
                · have e : isAt s.data.toList j1 45 = false := ht2
                  rw [e]
                  rfl
              clear HI ht2 htl2
              subst hR1
              go_wp2_with fail
              go_meet
              refine ⟨ca, rfl, ?_, ?_⟩
              · cases ok1
                · exact Lib.hid (HA3.out.no 0)
                · exact HA3
              · cases ok1
                · intro j2 h; cases h
                · intro j2 h; cases h; exact ⟨hon rfl, hj1⟩
            obtain ⟨rfl, hlt⟩ := htl2 rfl
            have hon1 := hon rfl
            have hR1 : R = if (letterS s.data.toList sbL sqL (j1 + 1)).1 then (if (letterS s.data.toList sbL sqL (j1 + 1)).2.1.toNat < ca.toNat then none else some (letterS s.data.toList sbL sqL (j1 + 1)).2.2) else none := by
              have e : isAt s.data.toList j1 45 = true := ht2
              rw [HI.out, e]
              rfl
            clear HI ht2 htl2 hon
            have HA5 := Lib.hid (HA3.out.step hbN (j1 + 1) 0)
            obtain ⟨c0, c1, -, c3, -, f1, -⟩ := (HA3.out.y rfl).facts
            obtain ⟨d0, d1, -, d3, -⟩ := (HA5.out.y rfl).facts
            have CI2 := Lib.hid (CI.out (j1 + 1) _ (HA5.out.y rfl) (by omega))
            have hle := letterS_le s.data.toList sbL sqL (j1 + 1) (by simp; omega)
            obtain ⟨q, hq⟩ : ∃ q, letterS s.data.toList sbL sqL (j1 + 1) = q := ⟨_, rfl⟩
            rw [hq] at hR1 CI2 hle
            clear hq
            obtain ⟨okq, cq, jq⟩ := q
            have hq1 : jq ≤ s.size := by simpa using hle.1
            have hq2 : j1 + 1 ≤ jq := hle.2
            clear hle
            simp only at hR1
            cases okq
            case false =>
              have hRn : R = none := hR1
              clear hR1
              subst hRn
              go_wp2_with fail
              refine CI2.out.mono ?_
              rintro e w1 ⟨rfl, ho1⟩
              have HA6 := Lib.hid (HA5.out.out hbN ho1)
              obtain ⟨j', e, bad, he, hj', hr⟩ := HA6.out.x rfl
              have h1 : (e == 0) = false := by simpa using he
              obtain ⟨-, -, -, c3, -⟩ := hr.facts
              clear hr ho1 CI2 d3
              go_wp2_with fail
              go_meet
              exact ⟨cq, rfl, Lib.hid (HA6.out.no 0), fun j2 h => by cases h⟩
            replace hR1 : R = if cq.toNat < ca.toNat then none else some jq := hR1
            by_cases hba : cq.toNat < ca.toNat
            · have hRn : R = none := by rw [hR1, if_pos hba]
              clear hR1
              subst hRn
              have h2 : (cq.toNat : Int) < (ca.toNat : Int) := by omega
              go_wp2_with fail
              refine CI2.out.mono ?_
              rintro e w1 ⟨rfl, ho1⟩
              have HA6 := Lib.hid (HA5.out.out hbN ho1)
              obtain ⟨-, -, -, c3, -⟩ := (HA6.out.y rfl).facts
              have C7 := Lib.hid (CF.out jq ((j1 : Int) + 1) w1 (HA6.out.y rfl))
              clear ho1 CI2 d3
              go_wp2_with fail
              refine C7.out.mono ?_
              rintro e w2 ⟨rfl, hr2, ho2⟩
              go_wp2_with fail
              go_meet
              exact ⟨cq, rfl, Lib.hid (HA6.out.onR hbN ho2 (fun e => by cases e) (fun _ => ⟨jq, 2, _, by decide, hq1, hr2⟩)), fun j2 h => by cases h⟩
            · have hRn : R = some jq := by rw [hR1, if_neg hba]
              clear hR1
              subst hRn
              have h2 : ¬ (cq.toNat : Int) < (ca.toNat : Int) := by omega
              go_wp2_with fail
              refine CI2.out.mono ?_
              rintro e w1 ⟨rfl, ho1⟩
              have HA6 := Lib.hid (HA5.out.out hbN ho1)
              obtain ⟨-, -, -, c3, -⟩ := (HA6.out.y rfl).facts
              clear ho1 CI2 d3
              go_wp2_with fail
              go_meet
              exact ⟨cq, rfl, HA6, fun j2 h => by cases h; exact ⟨by omega, hq1⟩⟩
          case rest =>
          obtain ⟨cb, rfl, HA4, hR⟩ := hcut
          have hca := ca.toNat_lt
          have hcb := cb.toNat_lt
          clear HA3 HI ht2 htl2
          go_wp2_with fail
          go_loopw [9] (fun v wr => ∃ c : Nat, v = .int .i64 c ∧ c ≤ 256 ∧ Hid (ClsAt b d s w wr R.isSome (R.getD 0) s.size)) (fun v _ => 257 - (intOf v).toNat)
          case atStart => exact ⟨ca.toNat, rfl, by omega, HA4⟩
          case round =>
            clear HA4
            obtain ⟨c, rfl, hc, HC⟩ := hrel
            by_cases hle : c ≤ cb.toNat
            · obtain ⟨x, hx, hf⟩ := HC.out.n.cell (i := c) (by omega)
              have n5 : (c : Int) ≤ (cb.toNat : Int) := by omega
              have n6 : (c : Int) < 256 := by omega
              have HC2 := Lib.hid (HC.out.onM hbN ((Only.refl _ _).setCell (p := ⟨w.heap.size + 1, 2 + c, none⟩) (by rfl) (.bool true)) (HC.out.n.set (i := c) (by omega) true))
              go_wp2_with fail
              go_roundw
              case rel => exact ⟨c + 1, by go_num, by omega, HC2⟩
              case measure => simp [intOf]; omega
            · have n5 : ¬ (c : Int) ≤ (cb.toNat : Int) := by omega
              go_wp2_with fail
              go_roundg f
              case measure => omega
              case rel =>
                refine ⟨false, rfl, ?_⟩
                cases R with
                | none => exact .inr ⟨HG1.out.symm, HC⟩
                | some j2 =>
                  obtain ⟨h1, h2⟩ := hR j2 rfl
                  refine .inl (Lib.hid ⟨j2, ⟨HC.out.o, HC.out.n, HC.out.r, HC.out.y, fun e => by cases e⟩, h2, by omega, HG1.out⟩)
      · obtain ⟨j, e, bad, he, hj, hr⟩ := HE.out.x rfl
        obtain ⟨c0, c1, -, c3, -⟩ := hr.facts
        have h1 : (e == 0) = false := by simpa using he
        clear hr
        go_wp2_with fail
        go_quiet (fail)
        go_wp2_with fail
        go_meet
        exact .inr ⟨by first | rfl | trivial, Lib.hid (HE.out.drewN _)⟩
  case rest =>
  clear HA6 HQ CI CF
  obtain ⟨j, e, bad, hr, hj, hq, ho, hn, hx⟩ : ∃ (j : Nat) (e bad : Int), RdR wc b s j d e bad ∧ j ≤ s.size ∧ ((e = 0 ∧ bad = 0 ∧ Q = some (j + 1)) ∨ (e ≠ 0 ∧ Q = none)) ∧ Only w wc b ∧ RN wc (w.heap.size + 1) ∧ RBx wc w.heap.size := by
    rcases hcut with h | ⟨h1, h⟩
    · obtain ⟨j, h1, h2, h3⟩ := h.out
      exact ⟨j, 0, 0, h1.y rfl, by omega, .inl ⟨rfl, rfl, h3⟩, h1.o, h1.n, h1.r⟩
    · obtain ⟨j, e, bad, h2, h3, h4⟩ := h.out.x rfl
      exact ⟨j, e, bad, h4, h3, .inr ⟨h2, h1⟩, h.out.o, h.out.n, h.out.r⟩
  clear hcut
  obtain ⟨c0, c1, -, -, -, f1, -⟩ := hr.facts
  have HR := Lib.hid (hr.setAt (j + 1))
  have HO := Lib.hid (ho.setCell (p := ⟨b, 1, none⟩) (by rfl) (.int .i64 ((j + 1 : Nat) : Int)))
  have HN := Lib.hid (hn.of (W' := wc.setCell ⟨b, 1, none⟩ (.int .i64 ((j + 1 : Nat) : Int))) (Below.heap_setCell wc _ _ _ (by show w.heap.size + 1 ≠ b; omega)))
  have HX := Lib.hid (hx.of (W' := wc.setCell ⟨b, 1, none⟩ (.int .i64 ((j + 1 : Nat) : Int))) (Below.heap_setCell wc _ _ _ (by show w.heap.size ≠ b; omega)))
  have HQ := Lib.hid hq
  clear hr ho hn hx hq
  go_upto_if 134 with fail
  go_cut [] from 11 (fun wx => Hid (RdR wx b s (j + 1) d e bad ∧ Only w wx b ∧ RN wx (w.heap.size + 1) ∧ RBx wx w.heap.size))
  case first =>
    cases wo
    · go_wp2_with fail
      go_meet
      exact Lib.hid ⟨HR.out, HO.out, HN.out, HX.out⟩
    · have HB : Hid (RdR (wc.setCell ⟨b, 1, none⟩ (.int .i64 ((j + 1 : Nat) : Int))) b s (j + 1) d e bad ∧ Only w (wc.setCell ⟨b, 1, none⟩ (.int .i64 ((j + 1 : Nat) : Int))) b ∧ RN (wc.setCell ⟨b, 1, none⟩ (.int .i64 ((j + 1 : Nat) : Int))) (w.heap.size + 1) ∧ RBx (wc.setCell ⟨b, 1, none⟩ (.int .i64 ((j + 1 : Nat) : Int))) w.heap.size) := Lib.hid ⟨HR.out, HO.out, HN.out, HX.out⟩
      clear HR HO HN HX HQ c0 c1 f1
      go_wp2_with fail
      go_loopw [10] (fun v wr => ∃ c : Nat, v = .int .i64 c ∧ c ≤ 256 ∧ Hid (RdR wr b s (j + 1) d e bad ∧ Only w wr b ∧ RN wr (w.heap.size + 1) ∧ RBx wr w.heap.size)) (fun v _ => 256 - (intOf v).toNat)
      case atStart => exact ⟨0, rfl, by omega, HB⟩
      case round =>
        clear HB
        obtain ⟨c, rfl, hc, HC⟩ := hrel
        by_cases hlt : c < 256
        · obtain ⟨x, hx, hf⟩ := HC.out.2.2.1.cell (i := c) (by omega)
          have n5 : (c : Int) < 256 := by omega
          have o2 : ∀ v, Only wr (wr.setCell ⟨w.heap.size + 1, 2 + c, none⟩ v) (w.heap.size + 1) := fun v => (Only.refl _ _).setCell (by rfl) v
          have HC2 : Hid (RdR (wr.setCell ⟨w.heap.size + 1, 2 + c, none⟩ (.bool !x)) b s (j + 1) d e bad ∧ Only w (wr.setCell ⟨w.heap.size + 1, 2 + c, none⟩ (.bool !x)) b ∧ RN (wr.setCell ⟨w.heap.size + 1, 2 + c, none⟩ (.bool !x)) (w.heap.size + 1) ∧ RBx (wr.setCell ⟨w.heap.size + 1, 2 + c, none⟩ (.bool !x)) w.heap.size) :=
            Lib.hid ⟨HC.out.1.of ((o2 _).blk HC.out.1.lt (by omega)), HC.out.2.1.far (o2 _) (by omega), HC.out.2.2.1.set (i := c) (by omega) _, HC.out.2.2.2.of ((o2 _).blk HC.out.2.2.2.lt (by omega))⟩
          clear o2
          go_wp2_with fail
          go_roundw
          case rel => exact ⟨c + 1, by go_num, by omega, HC2⟩
          case measure => simp [intOf]; omega
        · have n5 : ¬ (c : Int) < 256 := by omega
          go_wp2_with fail
          go_meet
          exact HC
  case rest =>
    obtain ⟨hr, ho, hn, hx⟩ := hcut.out
    have HR2 := Lib.hid hr
    have HO2 := Lib.hid ho
    obtain ⟨cs, hcs, -⟩ := hn
    obtain ⟨cs0, hcs0⟩ := hx
    clear hcut hr ho HR HO HN HX
    go_wp2_with (first
      | (refine wpList_loadR rfl _ rfl (w.heap.size + 1) rfl hcs ?_)
      | (refine storeA (.tmp 2) (.tmp 147) w.heap.size ⟨rfl, rfl⟩ rfl rfl rfl hcs0 hcs.2.1 hcs.2.2 ?_; intro W5 hb5 ho5 hs5))
    refine bodyPost_ret (v := .agg cs) (results_cell_row (p := 2) (ty := 66) (by kernel_rfl) _ _ w.heap.size _ cs (0, 0) _ rfl hb5.1 Try.underlying66 rfl (by rw [rn_size, hcs.2.1])) rfl ?_
    have hr5 := HR2.out.of (ho5.blk HR2.out.lt (by omega))
    have ho5' := HO2.out.far ho5 (by omega)
    refine ⟨⟨cs, rfl, hcs.2⟩, ?_⟩
    rcases HQ.out with ⟨rfl, rfl, rfl⟩ | ⟨h1, rfl⟩
    · exact Out.yes hr5 ho5'
    · exact Out.no hr5 h1 (by omega) ho5'
end Go.Proofs.Ytnlfndhgdeapeaa
