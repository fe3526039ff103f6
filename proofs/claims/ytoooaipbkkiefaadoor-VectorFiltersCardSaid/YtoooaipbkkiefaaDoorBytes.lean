/- append onto rows of bytes of the call's own; such a row as a string. -/
import Derived.Test.YtoooaipbkkiefaaDoorApp
import Derived.Lib.AppendStr
import Derived.Lib.AppendIntMem
import Derived.Lib.OthersKept
import Derived.Laws.IdiomStrings
namespace Go.Proofs.YtoooaipbkkiefaaDoor
open Go.RowKit Go.Sort
set_option maxRecDepth 100000
set_option maxHeartbeats 2000000

/-- a slice of bytes of the call's own that reads as l -/
def OwnB (W : World) (B : Nat) (v : Value) (l : List UInt8) : Prop := W.ownsRow B 5 1 v l.length (Lib.byteCells l)
def BytesAt (W : World) (A : Option Addr) (l : List UInt8) : Prop :=
  0 < l.length → ∃ b o, A = some ⟨b, o, none⟩ ∧ ∀ i c, l[i]? = some c → W.cell? ⟨b, o + i, none⟩ = some (.int .u8 (c.toNat : Int))
def ReadsB (W : World) (v : Value) (l : List UInt8) : Prop := ∃ A c, v = .slice A l.length c ∧ BytesAt W A l
/-- below B, and of all but rows of bytes, nothing has changed -/
structure Bk (B : Nat) (w w' : World) : Prop where
  b : Below B w w'
  o : Lib.OthersKept 5 none w w'
theorem Bk.refl (B : Nat) (w : World) : Bk B w w := ⟨Below.refl _ _, Lib.OthersKept.refl _ _ _⟩
theorem Bk.trans {B : Nat} {a b c : World} (h : Bk B a b) (g : Bk B b c) : Bk B a c := ⟨h.b.trans g.b, h.o.trans g.o⟩
theorem Bk.alloc {B : Nat} {a w : World} (h : Bk B a w) (hB : B ≤ a.heap.size) (c : Array Value) (t : TypeId) : Bk B a (w.alloc (.cells c t)) := ⟨h.b.alloc (Nat.le_trans hB h.b.size) _, h.o.alloc _⟩
theorem Bk.drew {B : Nat} {a w : World} (h : Bk B a w) : Bk B a w.drew := ⟨h.b.drew, h.o.drew⟩
theorem Bk.drewN {B : Nat} {a w : World} (h : Bk B a w) (n : Nat) : Bk B a (w.drewN n) := ⟨below_drewN h.b n, h.o⟩
theorem Bk.gr {w w' : World} (h : Bk w.heap.size w w') : Gr w w' := ⟨h.b⟩
theorem Bk.of_gr {B : Nat} {w w' : World} (h : Gr w w') (hB : B ≤ w.heap.size) : Bk B w w' :=
  ⟨h.b.mono hB, fun k _ hk _ _ => (h.b.block k (Array.getElem?_eq_some_iff.1 hk).1).trans hk⟩
theorem Bk.mono {B B' : Nat} {w w' : World} (h : Bk B w w') (hB : B' ≤ B) : Bk B' w w' := ⟨h.b.mono hB, h.o⟩
theorem Bk.box {B g : Nat} {w w' : World} {cs : Array Value} (h : Bk B w w') (hb : w.heap[g]? = some (.cells cs 49 (0, 0))) : w'.heap[g]? = some (.cells cs 49 (0, 0)) :=
  h.o g _ hb (by simp) (fun c fz e => by injection e with _ e; cases e)
theorem OwnB.nil (W : World) (B : Nat) : OwnB W B (.slice none 0 0) [] := World.ownsRow_nil _ _ _ _
theorem OwnB.drew {W : World} {B : Nat} {v : Value} {l : List UInt8} (h : OwnB W B v l) : OwnB W.drew B v l := h
theorem OwnB.drewN {W : World} {B : Nat} {v : Value} {l : List UInt8} (h : OwnB W B v l) (n : Nat) : OwnB (W.drewN n) B v l := h
theorem OwnB.alloc {W : World} {B : Nat} {v : Value} {l : List UInt8} (h : OwnB W B v l) (o : Obj) : OwnB (W.alloc o) B v l := World.ownsRow.alloc h o
theorem OwnB.gr {W W' : World} {B : Nat} {v : Value} {l : List UInt8} (h : OwnB W B v l) (g : Gr W W') : OwnB W' B v l :=
  World.ownsRow.kept h (row := none) ⟨g.b.os, g.b.tape, g.b.output, g.b.size, fun k hk _ => g.b.block k hk⟩ (by cases v.ownBlock <;> simp)
theorem OwnB.mono {W : World} {B B' : Nat} {v : Value} {l : List UInt8} (h : OwnB W B v l) (hB : B' ≤ B) : OwnB W B' v l := by
  refine ⟨h.1, ?_⟩
  rcases h.2 with hn | ⟨g, cap, cur, e, hb, r⟩
  · exact .inl hn
  · exact .inr ⟨g, cap, cur, e, by omega, r⟩
theorem OwnB.lt {W : World} {B : Nat} {v : Value} {l : List UInt8} (h : OwnB W B v l) {k : Nat} (hk : v.ownBlock = some k) : B ≤ k ∧ k < W.heap.size := World.ownsRow.lt h k hk
theorem OwnB.kind {W : World} {B : Nat} {v : Value} {l : List UInt8} (h : OwnB W B v l) : ∀ g, v.ownBlock = some g → ∃ c fz, W.heap[g]? = some (.cells c 5 fz) := by
  intro g hg
  rcases h.2 with ⟨rfl, _⟩ | ⟨g', cap, cur, rfl, _, hgg, _⟩
  · simp [Value.ownBlock] at hg
  · simp [Value.ownBlock] at hg; subst hg; exact ⟨cur, _, hgg⟩
theorem u8_info : (Tryd.prog.info? 5).map (fun i => (i.zero, i.size, i.bytes)) = some (some (.int .u8 0), 1, 1) := by kernel_rfl
theorem bc_app (a b : List UInt8) : Lib.byteCells (a ++ b) = Lib.byteCells a ++ Lib.byteCells b := by simp [Lib.byteCells]
theorem bc_one (l : List UInt8) : ∀ u ∈ Lib.byteCells l, u.oneCell' = true := by
  intro u hu; simp [Lib.byteCells] at hu; obtain ⟨c, -, rfl⟩ := hu; rfl

section
variable {P : Program} {o : Oper} {a : Act} {W : World} {K : Act → World → Prop} {Q : Exit → Act → World → Prop}
end
theorem bytes_new (W : World) (cs : Array Value) (bs : List UInt8) (h : cs.toList = Lib.byteCells bs) : BytesAt (W.alloc (.cells cs 5)) (some ⟨W.heap.size, 0, none⟩) bs := fun _ => ⟨W.heap.size, 0, rfl, fun i c hc => by
  rw [Nat.zero_add, cell_of_row _ W.heap.size i cs 5 (0, 0) (heap_alloc_new W _), ← Array.getElem?_toList, h]
  simp [Lib.byteCells, hc]⟩
theorem readsB_new (W : World) (cs : Array Value) (bs : List UInt8) (n : Nat) (hn : n = bs.length) (h : cs.toList = Lib.byteCells bs) : ReadsB (W.alloc (.cells cs 5)) (.slice (some ⟨W.heap.size, 0, none⟩) n n) bs :=
  ⟨_, n, by rw [hn], bytes_new W cs bs h⟩
theorem readsB_behind (W : World) (o : Obj) (cs : Array Value) (bs : List UInt8) (n : Nat) (hn : n = bs.length) (h : cs.toList = Lib.byteCells bs) : ReadsB ((W.alloc o).alloc (.cells cs 5)) (.slice (some ⟨W.heap.size + 1, 0, none⟩) n n) bs := by
  have g := readsB_new (W.alloc o) cs bs n hn h
  rwa [show (W.alloc o).heap.size = W.heap.size + 1 by simp] at g
end Go.Proofs.YtoooaipbkkiefaaDoor
