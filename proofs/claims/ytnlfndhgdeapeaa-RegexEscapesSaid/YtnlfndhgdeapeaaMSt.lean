/- Match: what memory holds. -/
import Derived.Test.YtnlfndhgdeapeaaEnter
import Derived.Test.YtnlfndhgdeapeaaFit
namespace Go.Proofs.Ytnlfndhgdeapeaa
open Go.RowKit
set_option maxRecDepth 100000
set_option maxHeartbeats 1000000

/-- the run; the set at hand, nv, beside it -/
structure MSt (B R eb : Nat) (W : World) (S : List St) (T : Nat) (E set now : List Nat) (sv lv tv nv : Value) : Prop where
  en : EnSt B R eb W S T E [] set sv lv tv
  nw : RowI W B nv now
  nr : nv.ownBlock ≠ some R
  ne : nv.ownBlock ≠ some eb
  nl : ∀ k, nv.ownBlock = some k → lv.ownBlock ≠ some k
  nt : ∀ k, nv.ownBlock = some k → tv.ownBlock ≠ some k
theorem MSt.gr {B R eb : Nat} {W W' : World} {S : List St} {T : Nat} {E set now : List Nat} {sv lv tv nv : Value} (h : MSt B R eb W S T E set now sv lv tv nv) (k : Gr W W') : MSt B R eb W' S T E set now sv lv tv nv :=
  { h with en := h.en.gr k, nw := h.nw.keep fun c e => k.b.block c (h.nw.lt c e).2 }
/-- what enter leaves -/
theorem MSt.step {B R eb : Nat} {W W' : World} {S : List St} {T : Nat} {E set now E' set' : List Nat} {sv lv tv nv lv' tv' : Value} (h : MSt B R eb W S T E set now sv lv tv nv) (e : EnSt B R eb W' S T E' [] set' sv lv' tv') (k : EnStep R eb W lv tv W' lv' tv') : MSt B R eb W' S T E' set' now sv lv' tv' nv :=
  { h with
    en := e
    nw := h.nw.keep fun c ec => k.block c (h.nw.lt c ec).2 (by rintro rfl; exact h.nr ec) (by rintro rfl; exact h.ne ec) (h.nl c ec) (h.nt c ec)
    nl := fun c ec => own_ne k.lo (h.nw.lt c ec).2 (h.nl c ec)
    nt := fun c ec => own_ne k.to (h.nw.lt c ec).2 (h.nt c ec) }
/-- the first set; none beside it -/
theorem MSt.of {B R eb : Nat} {W : World} {S : List St} {T : Nat} {E now : List Nat} {sv lv tv : Value} (h : EnSt B R eb W S T E [] now sv lv tv) : MSt B R eb W S T E [] now sv lv (.slice none 0 0) tv :=
  { en := { h with
      t := RowI.nil _ _
      tr := (by simp [Value.ownBlock])
      te := (by simp [Value.ownBlock])
      lt := fun k _ => (by simp [Value.ownBlock]) }
    nw := h.t
    nr := h.tr
    ne := h.te
    nl := fun k e e2 => h.lt k e2 e
    nt := fun k _ => (by simp [Value.ownBlock]) }
/-- the turn goes on -/
theorem MSt.turn {B R eb : Nat} {W : World} {S : List St} {T : Nat} {E set now : List Nat} {sv lv tv nv : Value} (h : MSt B R eb W S T E set now sv lv tv nv) (T' : Nat) : MSt B R eb (W.setCell ⟨R, 3, none⟩ (.int .i64 T')) S T' E set now sv lv tv nv :=
  have key : ∀ c, c ≠ R → (W.setCell ⟨R, 3, none⟩ (.int .i64 T')).heap[c]? = W.heap[c]? := fun c hc => Below.heap_setCell W _ _ c hc
  { h with
    en := { h.en with
      r := by
        have := heap_setCell_same W R 3 _ _ (.int .i64 T') h.en.r
        simpa using this
      s := h.en.s.keep fun c e => key c (by rintro rfl; exact h.en.sr e)
      e := (key eb (fun e => h.en.ne e.symm)).trans h.en.e
      l := h.en.l.keep fun c e => key c (by rintro rfl; exact h.en.lr e)
      t := h.en.t.keep fun c e => key c (by rintro rfl; exact h.en.tr e) }
    nw := h.nw.keep fun c e => key c (by rintro rfl; exact h.nr e) }
/-- the set is emptied, its block is kept -/
theorem MSt.empty {B R eb : Nat} {W : World} {S : List St} {T : Nat} {E set now : List Nat} {sv lv nv : Value} {A : Option Addr} {m c : Nat} (h : MSt B R eb W S T E set now sv lv (.slice A m c) nv) : MSt B R eb W S T E [] now sv lv (.slice A 0 c) nv :=
  have ho : (Value.slice A 0 c).ownBlock = (Value.slice A m c).ownBlock := by cases A <;> rfl
  { h with
    en := { h.en with
      t := h.en.t.none
      tr := by rw [ho]; exact h.en.tr
      te := by rw [ho]; exact h.en.te
      lt := fun k e => by rw [ho]; exact h.en.lt k e }
    nt := fun k e => by rw [ho]; exact h.nt k e }
/-- the sets change places -/
theorem MSt.swap {B R eb : Nat} {W : World} {S : List St} {T : Nat} {E set now : List Nat} {sv lv tv nv : Value} (h : MSt B R eb W S T E set now sv lv tv nv) : MSt B R eb W S T E now set sv lv nv tv :=
  { en := { h.en with
      t := h.nw
      tr := h.nr
      te := h.ne
      lt := fun k e e2 => h.nl k e2 e }
    nw := h.en.t
    nr := h.en.tr
    ne := h.en.te
    nl := fun k e e2 => h.en.lt k e2 e
    nt := fun k e e2 => h.nt k e2 e }
theorem EnStep.below {B R eb : Nat} {W W' : World} {lv tv lv' tv' : Value} (k : EnStep R eb W lv tv W' lv' tv') (hR : B ≤ R) (he : B ≤ eb) (hl : ∀ j, lv.ownBlock = some j → B ≤ j) (ht : ∀ j, tv.ownBlock = some j → B ≤ j) (hB : B ≤ W.heap.size) : Below B W W' :=
  ⟨k.os, k.tape, k.output, k.size, fun c hc => k.block c (by omega) (by omega) (by omega) (fun e => by have := hl c e; omega) (fun e => by have := ht c e; omega)⟩
end Go.Proofs.Ytnlfndhgdeapeaa
