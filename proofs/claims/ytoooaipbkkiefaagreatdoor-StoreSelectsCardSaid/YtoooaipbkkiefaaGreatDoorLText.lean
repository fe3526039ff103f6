/- Keep, Drop, Text, the program's. -/
import Derived.Test.YtoooaipbkkiefaaGreatDoorLApp
import Derived.Test.YtoooaipbkkiefaaGreatDoorLParts
import Derived.Test.YtoooaipbkkiefaaGreatDoorLQuote
namespace Go.Proofs.YtoooaipbkkiefaaGreatDoor
open Go.RowKit Go.Sort
set_option maxRecDepth 100000
set_option maxHeartbeats 4000000

theorem Bk.box {B g : Nat} {w w' : World} {cs : Array Value} (h : Bk B w w') (hb : w.heap[g]? = some (.cells cs 53 (0, 0))) : w'.heap[g]? = some (.cells cs 53 (0, 0)) :=
  h.o g _ hb (by simp) (fun c fz e => by injection e with _ e; cases e)
/-! Text -/
def pieceT (x : Lb) : List UInt8 := x.1.data.toList ++ [61] ++ quoteL x.2.data.toList
def bodyL : List Lb → List UInt8
  | [] => []
  | x :: r => pieceT x ++ r.flatMap fun y => 44 :: pieceT y
theorem bodyL_one (x : Lb) : bodyL [x] = pieceT x := by simp [bodyL]
theorem bodyL_snoc (r : List Lb) (x : Lb) (h : r ≠ []) : bodyL (r ++ [x]) = bodyL r ++ [44] ++ pieceT x := by
  cases r with
  | nil => exact absurd rfl h
  | cons y r => simp [bodyL]
def nmB : ByteArray := ⟨#[95, 95, 110, 97, 109, 101, 95, 95]⟩
def textL (l : List Lb) : List UInt8 :=
  if nameB (getL l nmB) then (if pickL l [nmB] false = [] then (getL l nmB).data.toList else (getL l nmB).data.toList ++ [123] ++ bodyL (pickL l [nmB] false) ++ [125]) else [123] ++ bodyL l ++ [125]
/-- a list that stays, whatever is done to rows of bytes from B on -/
def LS (B : Nat) (W : World) (A : Option Addr) (l : List Lb) : Prop := ∀ W', Bk B W W' → LabsAt W' A l
theorem LS.on {B : Nat} {W W1 : World} {A : Option Addr} {l : List Lb} (h : LS B W A l) (g : Bk B W W1) : LS B W1 A l := fun _ g' => h _ (g.trans g')
theorem LS.here {B : Nat} {W : World} {A : Option Addr} {l : List Lb} (h : LS B W A l) : LabsAt W A l := h _ (Bk.refl _ _)
theorem LS.of_old {w W : World} {A : Option Addr} {l : List Lb} (h : LabsAt w A l) (g : Gr w W) : LS w.heap.size W A l := fun _ g' => h.gr ⟨g.b.trans g'.b⟩
theorem Own.bk {W W' : World} {B B' : Nat} {v : Value} {l : List Lb} (h : Own W B' v l) (g : Bk B W W') : Own W' B' v l := by
  refine ⟨h.1, ?_⟩
  rcases h.2 with hn | ⟨b, cap, cur, e, hb, hh, r⟩
  · exact .inl hn
  · exact .inr ⟨b, cap, cur, e, hb, g.box hh, r⟩
theorem LS.of_own {W : World} {B B' : Nat} {A : Option Addr} {l : List Lb} {c : Nat} (h : Own W B' (.slice A l.length c) l) : LS B W A l := fun W' g => by
  obtain ⟨A', c', e, hl, _⟩ := (h.bk g).form
  cases e; exact hl
/-- bounds: what a list's text takes -/
def szT (l : List Lb) : Nat := (l.map fun x => x.1.size + 4 * x.2.size + 4).sum
theorem quoteL_len (l : List UInt8) : (quoteL l).length ≤ 4 * l.length + 2 := by have := qBs_len l; simp only [quoteL, List.length_cons, List.length_append, List.length_nil]; omega
theorem pieceT_len (x : Lb) : (pieceT x).length ≤ x.1.size + 4 * x.2.size + 3 := by
  have h1 := quoteL_len x.2.data.toList
  have h2 : x.1.data.toList.length = x.1.size := by simp
  have h3 : x.2.data.toList.length = x.2.size := by simp
  simp only [pieceT, List.length_append, List.length_cons, List.length_nil]
  omega
theorem bodyL_len : ∀ (l : List Lb), (bodyL l).length ≤ szT l := by
  have key : ∀ r : List Lb, (r.flatMap fun y => 44 :: pieceT y).length ≤ szT r := by
    intro r
    induction r with
    | nil => simp [szT]
    | cons y r ih =>
      rw [List.flatMap_cons, List.length_append, List.length_cons]
      have h1 := pieceT_len y
      have h2 : szT (y :: r) = y.1.size + 4 * y.2.size + 4 + szT r := rfl
      omega
  intro l
  cases l with
  | nil => simp [bodyL]
  | cons x r =>
    have h0 := key r
    have h1 := pieceT_len x
    have h2 : szT (x :: r) = x.1.size + 4 * x.2.size + 4 + szT r := rfl
    simp only [bodyL, List.length_append]
    omega
theorem szT_take {l : List Lb} {k : Nat} (h : k < l.length) : szT (l.take k) + ((l[k]).1.size + 4 * (l[k]).2.size + 4) ≤ szT l := by
  have e : l = l.take k ++ l[k] :: l.drop (k + 1) := by rw [← List.drop_eq_getElem_cons h, List.take_append_drop]
  conv => rhs; rw [e]
  simp only [szT, List.map_append, List.map_cons, List.sum_append, List.sum_cons]
  omega
theorem szT_pick (l : List Lb) (ns : List ByteArray) (am : Bool) : szT (pickL l ns am) ≤ szT l := by
  unfold pickL szT
  induction l with
  | nil => simp
  | cons x r ih =>
    rw [List.filter_cons]
    split <;> simp only [List.map_cons, List.sum_cons] <;> omega
theorem getL_size (l : List Lb) (n : ByteArray) : (getL l n).size ≤ szT l := by
  induction l with
  | nil => exact Nat.zero_le _
  | cons x r ih =>
    simp only [getL, szT, List.map_cons, List.sum_cons] at ih ⊢
    split <;> omega

end Go.Proofs.YtoooaipbkkiefaaGreatDoor
