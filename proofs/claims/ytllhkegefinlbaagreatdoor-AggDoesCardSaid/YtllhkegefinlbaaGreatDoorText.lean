/- Keep, Drop, Text, the program's. -/
import Derived.Test.YtllhkegefinlbaaGreatDoorParts
import Derived.Test.YtllhkegefinlbaaGreatDoorCmp
import Derived.Test.YtllhkegefinlbaaGreatDoorBytes
namespace Go.Proofs.YtllhkegefinlbaaGreatDoor
open Go.RowKit Go.Sort
set_option maxRecDepth 100000
set_option maxHeartbeats 4000000

theorem hasN_step2 {ns : List ByteArray} {k : Nat} (h : k < ns.length) (n : ByteArray) : hasN (ns.drop k) n = ((ns[k].toList == n.toList) || hasN (ns.drop (k + 1)) n) := by
  rw [hasN_step h, Bool.beq_comm]
theorem rHas_any (N : Option Addr) (ns : List ByteArray) (d : Nat) (n : ByteArray) (w : World) (hs : StrsAt w N ns) (hn : ns.length ≤ 1099511627776) :
    Calls Tryz.prog 32 #[.slice N ns.length d, .string n] w fun e w' => e = .returned (.bool (hasN ns n)) ∧ Gr w w' := by
  have HS := Lib.hid hs
  clear hs
  go_enter Tryz.func32, Tryz.ntmps32
  go_wp2
  go_loopw [5] (fun i wr => ∃ k : Nat, k ≤ ns.length ∧ i = .int .i64 k ∧ Hid (hasN ns n = hasN (ns.drop k) n) ∧ Gr w wr) (fun i _ => ns.length - (intOf i).toNat)
  case atStart => exact ⟨0, Nat.zero_le _, rfl, rfl, Gr.refl _⟩
  case round =>
    obtain ⟨k, hk, rfl, HR, hg⟩ := hrel
    by_cases hlt : k < ns.length
    · obtain ⟨b, o, rfl, c1⟩ := (HS.out.gr hg).at_ hlt
      have HST := Lib.hid (hasN_step2 hlt n)
      obtain ⟨m, hm⟩ : ∃ m, ns[k] = m := ⟨_, rfl⟩
      rw [hm] at c1 HST
      clear hm
      cases e1 : (m.toList == n.toList)
      · have HN : Hid (hasN ns n = hasN (ns.drop (k + 1)) n) := Lib.hid (by rw [HR.out, HST.out, e1]; rfl)
        go_wp2
        go_roundw
        case rel => exact ⟨k + 1, by omega, by go_num, HN, hg⟩
        case measure => simp [intOf]; omega
      · have HN : Hid (hasN ns n = true) := Lib.hid (by rw [HR.out, HST.out, e1]; rfl)
        go_wp2
        go_ret
        exact ⟨by rw [HN.out]; rfl, hg⟩
    · obtain rfl : k = ns.length := by omega
      have HN : Hid (hasN ns n = false) := Lib.hid (by rw [HR.out, List.drop_length]; rfl)
      go_wp2
      go_ret
      exact ⟨by rw [HN.out]; rfl, hg⟩
theorem rKeep_any (A N : Option Addr) (l : List Lb) (ns : List ByteArray) (c d : Nat) (w : World) (h : LabsAt w A l) (hs : StrsAt w N ns) (hl : l.length ≤ 549755813888) (hn : ns.length ≤ 1099511627776) :
    Calls Tryz.prog 53 #[.slice A l.length c, .slice N ns.length d] w fun e w' => ∃ v, e = .returned v ∧ Own w' w.heap.size v (pickL l ns true) ∧ Gr w w' := by
  have HL := Lib.hid h
  have CH := Lib.hid (fun n W (g : Gr w W) => rHas_any N ns d n W (hs.gr g) hn)
  clear h hs
  go_enter Tryz.func53, Tryz.ntmps53
  go_wp2
  go_loopw [5, 6] (fun v i wr => ∃ k : Nat, k ≤ l.length ∧ i = .int .i64 k ∧ Hid (Own wr w.heap.size v (pickL (l.take k) ns true)) ∧ Gr w wr) (fun _ i _ => l.length - (intOf i).toNat)
  case atStart => exact ⟨0, Nat.zero_le _, rfl, Own.nil _ _, Gr.refl _⟩
  case round =>
    obtain ⟨k, hk, rfl, HO, hg⟩ := hrel
    have hgs := hg.size
    by_cases hlt : k < l.length
    · obtain ⟨b, o, rfl, c1, c2, -⟩ := (HL.out.gr hg).at_ hlt
      obtain ⟨x, hx⟩ : ∃ x, l[k] = x := ⟨_, rfl⟩
      have HT : Hid (pickL (l.take (k + 1)) ns true = if hasN ns x.1 == true then pickL (l.take k) ns true ++ [x] else pickL (l.take k) ns true) := Lib.hid (by rw [List.take_succ_eq_append_getElem hlt, hx, pickL_snoc])
      have hpl : (pickL (l.take k) ns true).length ≤ l.length := by have := pickL_len (l.take k) ns true; have h2 : (l.take k).length ≤ l.length := (by simp; omega); omega
      rw [hx] at c1 c2
      clear hx
      obtain ⟨p, q⟩ := x
      simp only at c1 c2 HT
      have f4 : (k : Int) < (l.length : Int) := by omega
      have f5 : (0 : Int) ≤ k := by omega
      have C1 := Lib.hid (CH.out p)
      obtain ⟨hb, hhb⟩ : ∃ hb, hasN ns p = hb := ⟨_, rfl⟩
      rw [hhb] at C1 HT
      clear hhb
      go_wp2_with fail
      refine (C1.out _ hg).mono ?_
      rintro e w1 ⟨rfl, g1⟩
      have HO1 := Lib.hid (HO.out.gr g1)
      have hg1 := hg.trans g1
      have c1' := g1.cell c1
      have c2' := g1.cell c2
      have hs1 : w.heap.size ≤ w1.heap.size := hg1.size
      clear g1 c1 c2 HO
      cases hb
      · have HN : Hid (pickL (l.take (k + 1)) ns true = pickL (l.take k) ns true) := Lib.hid (by rw [HT.out]; rfl)
        go_wp2
        go_roundw
        case rel => exact ⟨k + 1, by omega, by go_num, Lib.hid (by rw [HN.out]; exact HO1.out), hg1⟩
        case measure => simp [intOf]; omega
      · have HN : Hid (pickL (l.take (k + 1)) ns true = pickL (l.take k) ns true ++ [(p, q)]) := Lib.hid (by rw [HT.out]; rfl)
        go_wp2_with (at_builtin; refine wpList_app rfl rfl (.tmp 20) (.tmp 25) (by rfl) (by rfl) (B := w.heap.size) (l := pickL (l.take k) ns true) (m := [(p, q)]) (HO1.out.alloc _) (reads_new w1 (p, q)) (by simp; omega) (by simp; omega) ?_; intro v3 W3 hown3 hbel3 hgrow3 hat3)
        go_roundw
        case rel => exact ⟨k + 1, by omega, by go_num, Lib.hid (by rw [HN.out]; exact hown3), (hg1.alloc _ _).below hbel3 (Nat.le_refl _)⟩
        case measure => simp [intOf]; omega
    · obtain rfl : k = l.length := by omega
      have HE : Hid (l.take l.length = l) := Lib.hid (List.take_length ..)
      go_wp2
      go_ret
      exact ⟨_, rfl, by have := HO.out; rwa [HE.out] at this, hg⟩
theorem rDrop_any (A N : Option Addr) (l : List Lb) (ns : List ByteArray) (c d : Nat) (w : World) (h : LabsAt w A l) (hs : StrsAt w N ns) (hl : l.length ≤ 549755813888) (hn : ns.length ≤ 1099511627776) :
    Calls Tryz.prog 54 #[.slice A l.length c, .slice N ns.length d] w fun e w' => ∃ v, e = .returned v ∧ Own w' w.heap.size v (pickL l ns false) ∧ Gr w w' := by
  have HL := Lib.hid h
  have CH := Lib.hid (fun n W (g : Gr w W) => rHas_any N ns d n W (hs.gr g) hn)
  clear h hs
  go_enter Tryz.func54, Tryz.ntmps54
  go_wp2
  go_loopw [5, 6] (fun v i wr => ∃ k : Nat, k ≤ l.length ∧ i = .int .i64 k ∧ Hid (Own wr w.heap.size v (pickL (l.take k) ns false)) ∧ Gr w wr) (fun _ i _ => l.length - (intOf i).toNat)
  case atStart => exact ⟨0, Nat.zero_le _, rfl, Own.nil _ _, Gr.refl _⟩
  case round =>
    obtain ⟨k, hk, rfl, HO, hg⟩ := hrel
    have hgs := hg.size
    by_cases hlt : k < l.length
    · obtain ⟨b, o, rfl, c1, c2, -⟩ := (HL.out.gr hg).at_ hlt
      obtain ⟨x, hx⟩ : ∃ x, l[k] = x := ⟨_, rfl⟩
      have HT : Hid (pickL (l.take (k + 1)) ns false = if hasN ns x.1 == false then pickL (l.take k) ns false ++ [x] else pickL (l.take k) ns false) := Lib.hid (by rw [List.take_succ_eq_append_getElem hlt, hx, pickL_snoc])
      have hpl : (pickL (l.take k) ns false).length ≤ l.length := by have := pickL_len (l.take k) ns false; have h2 : (l.take k).length ≤ l.length := (by simp; omega); omega
      rw [hx] at c1 c2
      clear hx
      obtain ⟨p, q⟩ := x
      simp only at c1 c2 HT
      have f4 : (k : Int) < (l.length : Int) := by omega
      have f5 : (0 : Int) ≤ k := by omega
      have C1 := Lib.hid (CH.out p)
      obtain ⟨hb, hhb⟩ : ∃ hb, hasN ns p = hb := ⟨_, rfl⟩
      rw [hhb] at C1 HT
      clear hhb
      go_wp2_with fail
      refine (C1.out _ hg).mono ?_
      rintro e w1 ⟨rfl, g1⟩
      have HO1 := Lib.hid (HO.out.gr g1)
      have hg1 := hg.trans g1
      have c1' := g1.cell c1
      have c2' := g1.cell c2
      have hs1 : w.heap.size ≤ w1.heap.size := hg1.size
      clear g1 c1 c2 HO
      cases hb
      · have HN : Hid (pickL (l.take (k + 1)) ns false = pickL (l.take k) ns false ++ [(p, q)]) := Lib.hid (by rw [HT.out]; rfl)
        go_wp2_with (at_builtin; refine wpList_app rfl rfl (.tmp 21) (.tmp 26) (by rfl) (by rfl) (B := w.heap.size) (l := pickL (l.take k) ns false) (m := [(p, q)]) (HO1.out.alloc _) (reads_new w1 (p, q)) (by simp; omega) (by simp; omega) ?_; intro v3 W3 hown3 hbel3 hgrow3 hat3)
        go_roundw
        case rel => exact ⟨k + 1, by omega, by go_num, Lib.hid (by rw [HN.out]; exact hown3), (hg1.alloc _ _).below hbel3 (Nat.le_refl _)⟩
        case measure => simp [intOf]; omega
      · have HN : Hid (pickL (l.take (k + 1)) ns false = pickL (l.take k) ns false) := Lib.hid (by rw [HT.out]; rfl)
        go_wp2
        go_roundw
        case rel => exact ⟨k + 1, by omega, by go_num, Lib.hid (by rw [HN.out]; exact HO1.out), hg1⟩
        case measure => simp [intOf]; omega
    · obtain rfl : k = l.length := by omega
      have HE : Hid (l.take l.length = l) := Lib.hid (List.take_length ..)
      go_wp2
      go_ret
      exact ⟨_, rfl, by have := HO.out; rwa [HE.out] at this, hg⟩
end Go.Proofs.YtllhkegefinlbaaGreatDoor
namespace Go.Proofs.YtllhkegefinlbaaGreatDoor
open Go.RowKit Go.Sort
set_option maxRecDepth 100000
set_option maxHeartbeats 4000000

def hexD (n : Nat) : UInt8 := UInt8.ofNat (if n < 10 then 48 + n else 87 + n)
def qB (c : UInt8) : List UInt8 := if c.toNat = 92 ∨ c.toNat = 34 then [92, c] else if prnI c.toNat then [c] else [92, 120, hexD (c.toNat / 16), hexD (c.toNat % 16)]
def quoteL (l : List UInt8) : List UInt8 := 34 :: (l.flatMap qB ++ [34])
theorem qB_len (c : UInt8) : 1 ≤ (qB c).length ∧ (qB c).length ≤ 4 := by
  unfold qB
  split
  · simp
  · split <;> simp
theorem qBs_len (l : List UInt8) : (l.flatMap qB).length ≤ 4 * l.length := by
  induction l with
  | nil => simp
  | cons c r ih => rw [List.flatMap_cons, List.length_append, List.length_cons]; have := qB_len c; omega
def hexT : ByteArray := ⟨#[48, 49, 50, 51, 52, 53, 54, 55, 56, 57, 97, 98, 99, 100, 101, 102]⟩
theorem hexT_at : ∀ q : Fin 16, hexT[q.val]'(by have := q.isLt; show q.val < 16; omega) = hexD q.val := by decide +kernel
theorem and15 : ∀ n : Fin 256, bits .and .u8 (n.val : Int) 15 = ((n.val % 16 : Nat) : Int) := by decide +kernel
theorem hex_cells (q r : Nat) (hq : q < hexT.size) (hr : r < hexT.size) (h1 : q < 16) (h2 : r < 16) : #[Value.int .u8 92, .int .u8 120, .int .u8 ((hexT[q]'hq).toNat : Int), .int .u8 ((hexT[r]'hr).toNat : Int)].toList = Lib.byteCells [92, 120, hexD q, hexD r] := by
  rw [hexT_at ⟨q, h1⟩, hexT_at ⟨r, h2⟩]; rfl
theorem take_byte (s : ByteArray) (k : Nat) (h : k < s.size) : s.data.toList.take (k + 1) = s.data.toList.take k ++ [s[k]] := by
  rw [List.take_succ_eq_append_getElem (by simpa using h)]; rfl
end Go.Proofs.YtllhkegefinlbaaGreatDoor
namespace Go.Proofs.YtllhkegefinlbaaGreatDoor
open Go.RowKit Go.Sort
set_option maxRecDepth 100000
set_option maxHeartbeats 4000000

theorem keep_any (A N : Option Addr) (l : List Lb) (ns : List ByteArray) (c d : Nat) (w : World) (h : LabsAt w A l) (hs : StrsAt w N ns) (hl : l.length ≤ 549755813888) (hn : ns.length ≤ 1099511627776) :
    Calls Tryz.prog 72 #[.slice A l.length c, .slice N ns.length d] w fun e w' => ∃ v, e = .returned v ∧ Own w' w.heap.size v (pickL l ns true) ∧ Gr w w' := by
  have CP := Lib.hid (pick_any A N l ns c d true w h hs hl hn)
  clear h hs
  go_enter Tryz.func72, Tryz.ntmps72
  go_wp2_with fail
  refine CP.out.mono ?_
  rintro e w1 ⟨v, rfl, ho, hg⟩
  go_wp2
  go_ret
  exact ⟨v, rfl, ho, hg⟩
theorem drop_any (A N : Option Addr) (l : List Lb) (ns : List ByteArray) (c d : Nat) (w : World) (h : LabsAt w A l) (hs : StrsAt w N ns) (hl : l.length ≤ 549755813888) (hn : ns.length ≤ 1099511627776) :
    Calls Tryz.prog 73 #[.slice A l.length c, .slice N ns.length d] w fun e w' => ∃ v, e = .returned v ∧ Own w' w.heap.size v (pickL l ns false) ∧ Gr w w' := by
  have CP := Lib.hid (pick_any A N l ns c d false w h hs hl hn)
  clear h hs
  go_enter Tryz.func73, Tryz.ntmps73
  go_wp2_with fail
  refine CP.out.mono ?_
  rintro e w1 ⟨v, rfl, ho, hg⟩
  go_wp2
  go_ret
  exact ⟨v, rfl, ho, hg⟩

/-! Text -/
def pieceT (x : Lb) : List UInt8 := x.1.data.toList ++ [61] ++ quoteL x.2.data.toList
def bodyL : List Lb → List UInt8
  | [] => []
  | x :: r => pieceT x ++ r.flatMap fun y => 44 :: pieceT y
theorem bodyL_one (x : Lb) : bodyL [x] = pieceT x := by simp [bodyL]
theorem bodyL_snoc (r : List Lb) (x : Lb) (h : r ≠ []) : bodyL (r ++ [x]) = bodyL r ++ [44] ++ pieceT x := by
  cases r with
  | nil => exact absurd rfl h
  | cons y r => simp [bodyL]
def nmB : ByteArray := ⟨#[95, 95, 110, 97, 109, 101, 95, 95]⟩
def textL (l : List Lb) : List UInt8 :=
  if nameB (getL l nmB) then (if pickL l [nmB] false = [] then (getL l nmB).data.toList else (getL l nmB).data.toList ++ [123] ++ bodyL (pickL l [nmB] false) ++ [125]) else [123] ++ bodyL l ++ [125]
/-- a list that stays, whatever is done to rows of bytes from B on -/
def LS (B : Nat) (W : World) (A : Option Addr) (l : List Lb) : Prop := ∀ W', Bk B W W' → LabsAt W' A l
theorem LS.on {B : Nat} {W W1 : World} {A : Option Addr} {l : List Lb} (h : LS B W A l) (g : Bk B W W1) : LS B W1 A l := fun _ g' => h _ (g.trans g')
theorem LS.here {B : Nat} {W : World} {A : Option Addr} {l : List Lb} (h : LS B W A l) : LabsAt W A l := h _ (Bk.refl _ _)
theorem LS.of_old {w W : World} {A : Option Addr} {l : List Lb} (h : LabsAt w A l) (g : Gr w W) : LS w.heap.size W A l := fun _ g' => h.gr ⟨g.b.trans g'.b⟩
theorem Own.bk {W W' : World} {B B' : Nat} {v : Value} {l : List Lb} (h : Own W B' v l) (g : Bk B W W') : Own W' B' v l := by
  refine ⟨h.1, ?_⟩
  rcases h.2 with hn | ⟨b, cap, cur, e, hb, hh, r⟩
  · exact .inl hn
  · exact .inr ⟨b, cap, cur, e, hb, g.box hh, r⟩
theorem LS.of_own {W : World} {B B' : Nat} {A : Option Addr} {l : List Lb} {c : Nat} (h : Own W B' (.slice A l.length c) l) : LS B W A l := fun W' g => by
  obtain ⟨A', c', e, hl, _⟩ := (h.bk g).form
  cases e; exact hl
/-- bounds: what a list's text takes -/
def szT (l : List Lb) : Nat := (l.map fun x => x.1.size + 4 * x.2.size + 4).sum
theorem quoteL_len (l : List UInt8) : (quoteL l).length ≤ 4 * l.length + 2 := by have := qBs_len l; simp only [quoteL, List.length_cons, List.length_append, List.length_nil]; omega
theorem pieceT_len (x : Lb) : (pieceT x).length ≤ x.1.size + 4 * x.2.size + 3 := by
  have h1 := quoteL_len x.2.data.toList
  have h2 : x.1.data.toList.length = x.1.size := by simp
  have h3 : x.2.data.toList.length = x.2.size := by simp
  simp only [pieceT, List.length_append, List.length_cons, List.length_nil]
  omega
theorem bodyL_len : ∀ (l : List Lb), (bodyL l).length ≤ szT l := by
  have key : ∀ r : List Lb, (r.flatMap fun y => 44 :: pieceT y).length ≤ szT r := by
    intro r
    induction r with
    | nil => simp [szT]
    | cons y r ih =>
      rw [List.flatMap_cons, List.length_append, List.length_cons]
      have h1 := pieceT_len y
      have h2 : szT (y :: r) = y.1.size + 4 * y.2.size + 4 + szT r := rfl
      omega
  intro l
  cases l with
  | nil => simp [bodyL]
  | cons x r =>
    have h0 := key r
    have h1 := pieceT_len x
    have h2 : szT (x :: r) = x.1.size + 4 * x.2.size + 4 + szT r := rfl
    simp only [bodyL, List.length_append]
    omega
theorem szT_take {l : List Lb} {k : Nat} (h : k < l.length) : szT (l.take k) + ((l[k]).1.size + 4 * (l[k]).2.size + 4) ≤ szT l := by
  have e : l = l.take k ++ l[k] :: l.drop (k + 1) := by rw [← List.drop_eq_getElem_cons h, List.take_append_drop]
  conv => rhs; rw [e]
  simp only [szT, List.map_append, List.map_cons, List.sum_append, List.sum_cons]
  omega
theorem szT_pick (l : List Lb) (ns : List ByteArray) (am : Bool) : szT (pickL l ns am) ≤ szT l := by
  unfold pickL szT
  induction l with
  | nil => simp
  | cons x r ih =>
    rw [List.filter_cons]
    split <;> simp only [List.map_cons, List.sum_cons] <;> omega
theorem getL_size (l : List Lb) (n : ByteArray) : (getL l n).size ≤ szT l := by
  induction l with
  | nil => exact Nat.zero_le _
  | cons x r ih =>
    simp only [getL, szT, List.map_cons, List.sum_cons] at ih ⊢
    split <;> omega

end Go.Proofs.YtllhkegefinlbaaGreatDoor
