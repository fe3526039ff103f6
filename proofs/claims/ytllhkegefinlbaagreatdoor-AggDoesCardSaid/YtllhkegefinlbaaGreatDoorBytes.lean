/- append onto rows of bytes of the call's own; such a row as a string. -/
import Derived.Test.YtllhkegefinlbaaGreatDoorApp
import Derived.Lib.AppendStr
import Derived.Lib.AppendIntMem
import Derived.Lib.OthersKept
import Derived.Laws.IdiomStrings
namespace Go.Proofs.YtllhkegefinlbaaGreatDoor
open Go.RowKit Go.Sort
set_option maxRecDepth 100000
set_option maxHeartbeats 2000000

/-- a slice of bytes of the call's own that reads as l -/
def OwnB (W : World) (B : Nat) (v : Value) (l : List UInt8) : Prop := W.ownsRow B 5 1 v l.length (Lib.byteCells l)
def BytesAt (W : World) (A : Option Addr) (l : List UInt8) : Prop :=
  0 < l.length → ∃ b o, A = some ⟨b, o, none⟩ ∧ ∀ i c, l[i]? = some c → W.cell? ⟨b, o + i, none⟩ = some (.int .u8 (c.toNat : Int))
def ReadsB (W : World) (v : Value) (l : List UInt8) : Prop := ∃ A c, v = .slice A l.length c ∧ BytesAt W A l
/-- below B, and of all but rows of bytes, nothing has changed -/
structure Bk (B : Nat) (w w' : World) : Prop where
  b : Below B w w'
  o : Lib.OthersKept 5 none w w'
theorem Bk.refl (B : Nat) (w : World) : Bk B w w := ⟨Below.refl _ _, Lib.OthersKept.refl _ _ _⟩
theorem Bk.trans {B : Nat} {a b c : World} (h : Bk B a b) (g : Bk B b c) : Bk B a c := ⟨h.b.trans g.b, h.o.trans g.o⟩
theorem Bk.alloc {B : Nat} {a w : World} (h : Bk B a w) (hB : B ≤ a.heap.size) (c : Array Value) (t : TypeId) : Bk B a (w.alloc (.cells c t)) := ⟨h.b.alloc (Nat.le_trans hB h.b.size) _, h.o.alloc _⟩
theorem Bk.drew {B : Nat} {a w : World} (h : Bk B a w) : Bk B a w.drew := ⟨h.b.drew, h.o.drew⟩
theorem Bk.drewN {B : Nat} {a w : World} (h : Bk B a w) (n : Nat) : Bk B a (w.drewN n) := ⟨below_drewN h.b n, h.o⟩
theorem Bk.gr {w w' : World} (h : Bk w.heap.size w w') : Gr w w' := ⟨h.b⟩
theorem Bk.of_gr {B : Nat} {w w' : World} (h : Gr w w') (hB : B ≤ w.heap.size) : Bk B w w' :=
  ⟨h.b.mono hB, fun k _ hk _ _ => (h.b.block k (Array.getElem?_eq_some_iff.1 hk).1).trans hk⟩
theorem Bk.mono {B B' : Nat} {w w' : World} (h : Bk B w w') (hB : B' ≤ B) : Bk B' w w' := ⟨h.b.mono hB, h.o⟩
theorem Bk.box {B g : Nat} {w w' : World} {cs : Array Value} (h : Bk B w w') (hb : w.heap[g]? = some (.cells cs 42 (0, 0))) : w'.heap[g]? = some (.cells cs 42 (0, 0)) :=
  h.o g _ hb (by simp) (fun c fz e => by injection e with _ e; cases e)
theorem OwnB.nil (W : World) (B : Nat) : OwnB W B (.slice none 0 0) [] := World.ownsRow_nil _ _ _ _
theorem OwnB.drew {W : World} {B : Nat} {v : Value} {l : List UInt8} (h : OwnB W B v l) : OwnB W.drew B v l := h
theorem OwnB.drewN {W : World} {B : Nat} {v : Value} {l : List UInt8} (h : OwnB W B v l) (n : Nat) : OwnB (W.drewN n) B v l := h
theorem OwnB.alloc {W : World} {B : Nat} {v : Value} {l : List UInt8} (h : OwnB W B v l) (o : Obj) : OwnB (W.alloc o) B v l := World.ownsRow.alloc h o
theorem OwnB.gr {W W' : World} {B : Nat} {v : Value} {l : List UInt8} (h : OwnB W B v l) (g : Gr W W') : OwnB W' B v l :=
  World.ownsRow.kept h (row := none) ⟨g.b.os, g.b.tape, g.b.output, g.b.size, fun k hk _ => g.b.block k hk⟩ (by cases v.ownBlock <;> simp)
theorem OwnB.mono {W : World} {B B' : Nat} {v : Value} {l : List UInt8} (h : OwnB W B v l) (hB : B' ≤ B) : OwnB W B' v l := by
  refine ⟨h.1, ?_⟩
  rcases h.2 with hn | ⟨g, cap, cur, e, hb, r⟩
  · exact .inl hn
  · exact .inr ⟨g, cap, cur, e, by omega, r⟩
theorem OwnB.lt {W : World} {B : Nat} {v : Value} {l : List UInt8} (h : OwnB W B v l) {k : Nat} (hk : v.ownBlock = some k) : B ≤ k ∧ k < W.heap.size := World.ownsRow.lt h k hk
theorem OwnB.kind {W : World} {B : Nat} {v : Value} {l : List UInt8} (h : OwnB W B v l) : ∀ g, v.ownBlock = some g → ∃ c fz, W.heap[g]? = some (.cells c 5 fz) := by
  intro g hg
  rcases h.2 with ⟨rfl, _⟩ | ⟨g', cap, cur, rfl, _, hgg, _⟩
  · simp [Value.ownBlock] at hg
  · simp [Value.ownBlock] at hg; subst hg; exact ⟨cur, _, hgg⟩
theorem u8_info : (Tryz.prog.info? 5).map (fun i => (i.zero, i.size, i.bytes)) = some (some (.int .u8 0), 1, 1) := by kernel_rfl
theorem bc_app (a b : List UInt8) : Lib.byteCells (a ++ b) = Lib.byteCells a ++ Lib.byteCells b := by simp [Lib.byteCells]
theorem bc_one (l : List UInt8) : ∀ u ∈ Lib.byteCells l, u.oneCell' = true := by
  intro u hu; simp [Lib.byteCells] at hu; obtain ⟨c, -, rfl⟩ := hu; rfl

theorem run_appB {W : World} {B : Nat} {v : Value} {l m : List UInt8} {A : Option Addr} {c : Nat} (h : OwnB W B v l) (hs : BytesAt W A m) (hm0 : 0 < m.length) (hn : l.length + m.length ≤ 1099511627776) (hB : B ≤ W.heap.size) :
    ∃ v' W', (Builtin.append_ #[97, 97] 97 #[v, .slice A m.length c]).run Tryz.prog W = .ok v' W' ∧ OwnB W' B v' (l ++ m) ∧ W.grownBy W' v.ownBlock := by
  obtain ⟨i0, hi, hz0, hz1, hz2⟩ := info_parts u8_info
  obtain ⟨b, o, rfl, hc⟩ := hs hm0
  have hadd : ∀ j, (⟨b, o, none⟩ : Addr).add j = ⟨b, o + j, none⟩ := fun j => by unfold Addr.add; split <;> simp_all
  obtain ⟨v', w', hr, h2, h3, _, _⟩ := run_append_own_at (P := Tryz.prog) W B 97 97 5 i0 (.int .u8 0) 1 1 Tryz.underlying97 hi hz0 hz1 hz2 rfl (by omega) v l.length _ h ⟨b, o, none⟩ m.length c (Lib.byteCells m) (by simp [Lib.byteCells]) (fun j u hu => by
    rw [hadd]
    simp only [Lib.byteCells, List.getElem?_map, Option.map_eq_some_iff] at hu
    obtain ⟨x, hx, rfl⟩ := hu
    exact hc j x hx) (bc_one m) (by unfold maxLen; omega) (by omega) hB
  refine ⟨v', w', hr, ?_, h3⟩
  unfold OwnB
  rw [bc_app, List.length_append]
  exact h2
theorem run_appS {W : World} {B : Nat} {v : Value} {l : List UInt8} {s : ByteArray} (h : OwnB W B v l) (hn : l.length + s.size ≤ 1099511627776) (hB : B ≤ W.heap.size) :
    ∃ v' W', (Builtin.append_ #[97, 9] 97 #[v, .string s]).run Tryz.prog W = .ok v' W' ∧ OwnB W' B v' (l ++ s.data.toList) ∧ W.grownBy W' v.ownBlock := by
  obtain ⟨i0, hi, hz0, hz1, hz2⟩ := info_parts u8_info
  obtain ⟨v', w', hr, h2, h3, _⟩ := Lib.run_append_own_string (P := Tryz.prog) W B 97 9 97 5 i0 Tryz.underlying97 Tryz.underlying9 hi hz0 hz1 hz2 v l.length _ h s (by unfold maxLen; omega) (by omega) hB
  refine ⟨v', w', hr, ?_, h3⟩
  unfold OwnB
  rw [bc_app, List.length_append, show s.data.toList.length = s.size by simp]
  exact h2
section
variable {P : Program} {o : Oper} {a : Act} {W : World} {K : Act → World → Prop} {Q : Exit → Act → World → Prop}
theorem wp_appB (hP : P = Tryz.prog) (s x : Operand)
    (ho : o.op = .call { callee := .builtin .append, args := #[s, x], argTypes := #[97, 97] }) (hty : o.type = 97)
    {B : Nat} {l m : List UInt8} (hs : OwnB W B (a.eval s) l) (hx : ReadsB W (a.eval x) m) (hm0 : 0 < m.length) (hn : l.length + m.length ≤ 1099511627776) (hB : B ≤ W.heap.size)
    (h : ∀ v' W', OwnB W' B v' (l ++ m) → Bk B W W' → K (a.put o.dst v') W') : o.wp P a W K Q := by
  subst hP
  obtain ⟨A, c, ex, hl⟩ := hx
  obtain ⟨v', W', hr, h1, h2⟩ := run_appB (c := c) hs hl hm0 hn hB
  unfold Oper.wp execOp
  simp only [ho, hty, resolve, invoke, builtin, Sem.run_bind, Sem.run_pure, Result.andThen_ok, List.map_toArray, List.map_cons, List.map_nil, ex, hr]
  exact h v' W' h1 ⟨(Below.refl B W).grown h2 hB fun k hk => (hs.lt hk).1, (Lib.OthersKept.refl _ _ W).grown h2 hs.kind⟩
theorem wp_appS (hP : P = Tryz.prog) (s x : Operand)
    (ho : o.op = .call { callee := .builtin .append, args := #[s, x], argTypes := #[97, 9] }) (hty : o.type = 97)
    {B : Nat} {l : List UInt8} {t : ByteArray} (hs : OwnB W B (a.eval s) l) (hx : a.eval x = .string t) (hn : l.length + t.size ≤ 1099511627776) (hB : B ≤ W.heap.size)
    (h : ∀ v' W', OwnB W' B v' (l ++ t.data.toList) → Bk B W W' → K (a.put o.dst v') W') : o.wp P a W K Q := by
  subst hP
  obtain ⟨v', W', hr, h1, h2⟩ := run_appS hs hn hB
  unfold Oper.wp execOp
  simp only [ho, hty, resolve, invoke, builtin, Sem.run_bind, Sem.run_pure, Result.andThen_ok, List.map_toArray, List.map_cons, List.map_nil, hx, hr]
  exact h v' W' h1 ⟨(Below.refl B W).grown h2 hB fun k hk => (hs.lt hk).1, (Lib.OthersKept.refl _ _ W).grown h2 hs.kind⟩
theorem wpList_appB (hP : P = Tryz.prog) {ops : Array Oper} {rest : List Oper} (hgd : o.guard = none) (s x : Operand)
    (ho : o.op = .call { callee := .builtin .append, args := #[s, x], argTypes := #[97, 97] }) (hty : o.type = 97)
    {B : Nat} {l m : List UInt8} (hs : OwnB W B (a.eval s) l) (hx : ReadsB W (a.eval x) m) (hm0 : 0 < m.length) (hn : l.length + m.length ≤ 1099511627776) (hB : B ≤ W.heap.size)
    (h : ∀ v' W', OwnB W' B v' (l ++ m) → Bk B W W' → wpList P ops Q rest (a.put o.dst v') W') : wpList P ops Q (o :: rest) a W :=
  wpList_plain hgd fun _ hK => wp_appB hP s x ho hty hs hx hm0 hn hB fun v' W' h1 hb => hK _ _ (h v' W' h1 hb)
theorem wpList_appS (hP : P = Tryz.prog) {ops : Array Oper} {rest : List Oper} (hgd : o.guard = none) (s x : Operand)
    (ho : o.op = .call { callee := .builtin .append, args := #[s, x], argTypes := #[97, 9] }) (hty : o.type = 97)
    {B : Nat} {l : List UInt8} {t : ByteArray} (hs : OwnB W B (a.eval s) l) (hx : a.eval x = .string t) (hn : l.length + t.size ≤ 1099511627776) (hB : B ≤ W.heap.size)
    (h : ∀ v' W', OwnB W' B v' (l ++ t.data.toList) → Bk B W W' → wpList P ops Q rest (a.put o.dst v') W') : wpList P ops Q (o :: rest) a W :=
  wpList_plain hgd fun _ hK => wp_appS hP s x ho hty hs hx hn hB fun v' W' h1 hb => hK _ _ (h v' W' h1 hb)
theorem step_appB (hP : P = Tryz.prog) {ops : Array Oper} {E : Prop} (hgd : o.guard = none) (s x : Operand)
    (ho : o.op = .call { callee := .builtin .append, args := #[s, x], argTypes := #[97, 97] }) (hty : o.type = 97)
    {B : Nat} {l m : List UInt8} (hs : OwnB W B (a.eval s) l) (hx : ReadsB W (a.eval x) m) (hm0 : 0 < m.length) (hn : l.length + m.length ≤ 1099511627776) (hB : B ≤ W.heap.size)
    (h : ∀ v' W', OwnB W' B v' (l ++ m) → Bk B W W' → K (a.put o.dst v') W') : if Region.wanted o (yielded ops a.tmps) = true then Oper.wp P o a W K Q else E := by
  have hw : Region.wanted o (yielded ops a.tmps) = true := by simp [Region.wanted, hgd]
  rw [if_pos hw]
  exact wp_appB hP s x ho hty hs hx hm0 hn hB h
end
theorem bytes_new (W : World) (cs : Array Value) (bs : List UInt8) (h : cs.toList = Lib.byteCells bs) : BytesAt (W.alloc (.cells cs 5)) (some ⟨W.heap.size, 0, none⟩) bs := fun _ => ⟨W.heap.size, 0, rfl, fun i c hc => by
  rw [Nat.zero_add, cell_of_row _ W.heap.size i cs 5 (0, 0) (heap_alloc_new W _), ← Array.getElem?_toList, h]
  simp [Lib.byteCells, hc]⟩
theorem readsB_new (W : World) (cs : Array Value) (bs : List UInt8) (n : Nat) (hn : n = bs.length) (h : cs.toList = Lib.byteCells bs) : ReadsB (W.alloc (.cells cs 5)) (.slice (some ⟨W.heap.size, 0, none⟩) n n) bs :=
  ⟨_, n, by rw [hn], bytes_new W cs bs h⟩
theorem readsB_behind (W : World) (o : Obj) (cs : Array Value) (bs : List UInt8) (n : Nat) (hn : n = bs.length) (h : cs.toList = Lib.byteCells bs) : ReadsB ((W.alloc o).alloc (.cells cs 5)) (.slice (some ⟨W.heap.size + 1, 0, none⟩) n n) bs := by
  have g := readsB_new (W.alloc o) cs bs n hn h
  rwa [show (W.alloc o).heap.size = W.heap.size + 1 by simp] at g
theorem conv_own {W : World} {B : Nat} {v : Value} {l : List UInt8} (h : OwnB W B v l) : (convert 97 9 v).run Tryz.prog W = .ok (.string ⟨l.toArray⟩) W := by
  rcases h.2 with ⟨rfl, e⟩ | ⟨g, cap, cur, rfl, _, hg, hn, hm, hs, ht⟩
  · have : l = [] := List.eq_nil_of_length_eq_zero e
    subst this
    exact run_convert_bytes_nil (P := Tryz.prog) W 97 5 Tryz.underlying97 Tryz.underlying5 0 0 9 Tryz.underlying9
  · refine run_convert_bytes_back (P := Tryz.prog) W 97 9 5 ⟨g, 0, none⟩ cap l Tryz.underlying97 Tryz.underlying5 Tryz.underlying9 fun j hj => ?_
    exact World.ownsRow.cells h rfl j _ (by simp [Lib.byteCells, hj])
end Go.Proofs.YtllhkegefinlbaaGreatDoor
