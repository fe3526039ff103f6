/- Keep, Drop, Text, the program's. -/
import Derived.Test.YtegbenbhiadnbaaDoorParts
import Derived.Test.YtegbenbhiadnbaaDoorQuote
namespace Go.Proofs.YtegbenbhiadnbaaDoor
open Go.RowKit Go.Sort
set_option maxRecDepth 100000
set_option maxHeartbeats 4000000

theorem keep_any (A N : Option Addr) (l : List Lb) (ns : List ByteArray) (c d : Nat) (w : World) (h : LabsAt w A l) (hs : StrsAt w N ns) (hl : l.length ≤ 549755813888) (hn : ns.length ≤ 1099511627776) :
    Calls Tryd.prog 15 #[.slice A l.length c, .slice N ns.length d] w fun e w' => ∃ v, e = .returned v ∧ Own w' w.heap.size v (pickL l ns true) ∧ Gr w w' := by
  have CP := Lib.hid (pick_any A N l ns c d true w h hs hl hn)
  clear h hs
  go_enter Tryd.func15, Tryd.ntmps15
  go_wp2_with fail
  refine CP.out.mono ?_
  rintro e w1 ⟨v, rfl, ho, hg⟩
  go_wp2
  go_ret
  exact ⟨v, rfl, ho, hg⟩
theorem drop_any (A N : Option Addr) (l : List Lb) (ns : List ByteArray) (c d : Nat) (w : World) (h : LabsAt w A l) (hs : StrsAt w N ns) (hl : l.length ≤ 549755813888) (hn : ns.length ≤ 1099511627776) :
    Calls Tryd.prog 17 #[.slice A l.length c, .slice N ns.length d] w fun e w' => ∃ v, e = .returned v ∧ Own w' w.heap.size v (pickL l ns false) ∧ Gr w w' := by
  have CP := Lib.hid (pick_any A N l ns c d false w h hs hl hn)
  clear h hs
  go_enter Tryd.func17, Tryd.ntmps17
  go_wp2_with fail
  refine CP.out.mono ?_
  rintro e w1 ⟨v, rfl, ho, hg⟩
  go_wp2
  go_ret
  exact ⟨v, rfl, ho, hg⟩

/-! Text -/
def pieceT (x : Lb) : List UInt8 := x.1.data.toList ++ [61] ++ quoteL x.2.data.toList
def bodyL : List Lb → List UInt8
  | [] => []
  | x :: r => pieceT x ++ r.flatMap fun y => 44 :: pieceT y
theorem bodyL_one (x : Lb) : bodyL [x] = pieceT x := by simp [bodyL]
theorem bodyL_snoc (r : List Lb) (x : Lb) (h : r ≠ []) : bodyL (r ++ [x]) = bodyL r ++ [44] ++ pieceT x := by
  cases r with
  | nil => exact absurd rfl h
  | cons y r => simp [bodyL]
def nmB : ByteArray := ⟨#[95, 95, 110, 97, 109, 101, 95, 95]⟩
def textL (l : List Lb) : List UInt8 :=
  if nameB (getL l nmB) then (if pickL l [nmB] false = [] then (getL l nmB).data.toList else (getL l nmB).data.toList ++ [123] ++ bodyL (pickL l [nmB] false) ++ [125]) else [123] ++ bodyL l ++ [125]
/-- a list that stays, whatever is done to rows of bytes from B on -/
def LS (B : Nat) (W : World) (A : Option Addr) (l : List Lb) : Prop := ∀ W', Bk B W W' → LabsAt W' A l
theorem LS.on {B : Nat} {W W1 : World} {A : Option Addr} {l : List Lb} (h : LS B W A l) (g : Bk B W W1) : LS B W1 A l := fun _ g' => h _ (g.trans g')
theorem LS.here {B : Nat} {W : World} {A : Option Addr} {l : List Lb} (h : LS B W A l) : LabsAt W A l := h _ (Bk.refl _ _)
theorem LS.of_old {w W : World} {A : Option Addr} {l : List Lb} (h : LabsAt w A l) (g : Gr w W) : LS w.heap.size W A l := fun _ g' => h.gr ⟨g.b.trans g'.b⟩
theorem Own.bk {W W' : World} {B B' : Nat} {v : Value} {l : List Lb} (h : Own W B' v l) (g : Bk B W W') : Own W' B' v l := by
  refine ⟨h.1, ?_⟩
  rcases h.2 with hn | ⟨b, cap, cur, e, hb, hh, r⟩
  · exact .inl hn
  · exact .inr ⟨b, cap, cur, e, hb, g.box hh, r⟩
theorem LS.of_own {W : World} {B B' : Nat} {A : Option Addr} {l : List Lb} {c : Nat} (h : Own W B' (.slice A l.length c) l) : LS B W A l := fun W' g => by
  obtain ⟨A', c', e, hl, _⟩ := (h.bk g).form
  cases e; exact hl
/-- bounds: what a list's text takes -/
def szT (l : List Lb) : Nat := (l.map fun x => x.1.size + 4 * x.2.size + 4).sum
theorem quoteL_len (l : List UInt8) : (quoteL l).length ≤ 4 * l.length + 2 := by have := qBs_len l; simp only [quoteL, List.length_cons, List.length_append, List.length_nil]; omega
theorem pieceT_len (x : Lb) : (pieceT x).length ≤ x.1.size + 4 * x.2.size + 3 := by
  have h1 := quoteL_len x.2.data.toList
  have h2 : x.1.data.toList.length = x.1.size := by simp
  have h3 : x.2.data.toList.length = x.2.size := by simp
  simp only [pieceT, List.length_append, List.length_cons, List.length_nil]
  omega
theorem bodyL_len : ∀ (l : List Lb), (bodyL l).length ≤ szT l := by
  have key : ∀ r : List Lb, (r.flatMap fun y => 44 :: pieceT y).length ≤ szT r := by
    intro r
    induction r with
    | nil => simp [szT]
    | cons y r ih =>
      rw [List.flatMap_cons, List.length_append, List.length_cons]
      have h1 := pieceT_len y
      have h2 : szT (y :: r) = y.1.size + 4 * y.2.size + 4 + szT r := rfl
      omega
  intro l
  cases l with
  | nil => simp [bodyL]
  | cons x r =>
    have h0 := key r
    have h1 := pieceT_len x
    have h2 : szT (x :: r) = x.1.size + 4 * x.2.size + 4 + szT r := rfl
    simp only [bodyL, List.length_append]
    omega
theorem szT_take {l : List Lb} {k : Nat} (h : k < l.length) : szT (l.take k) + ((l[k]).1.size + 4 * (l[k]).2.size + 4) ≤ szT l := by
  have e : l = l.take k ++ l[k] :: l.drop (k + 1) := by rw [← List.drop_eq_getElem_cons h, List.take_append_drop]
  conv => rhs; rw [e]
  simp only [szT, List.map_append, List.map_cons, List.sum_append, List.sum_cons]
  omega
theorem szT_pick (l : List Lb) (ns : List ByteArray) (am : Bool) : szT (pickL l ns am) ≤ szT l := by
  unfold pickL szT
  induction l with
  | nil => simp
  | cons x r ih =>
    rw [List.filter_cons]
    split <;> simp only [List.map_cons, List.sum_cons] <;> omega
theorem getL_size (l : List Lb) (n : ByteArray) : (getL l n).size ≤ szT l := by
  induction l with
  | nil => exact Nat.zero_le _
  | cons x r ih =>
    simp only [getL, szT, List.map_cons, List.sum_cons] at ih ⊢
    split <;> omega

theorem text_any (A : Option Addr) (l : List Lb) (c : Nat) (w : World) (h : LabsAt w A l) (hl : l.length ≤ 549755813888) (hsz : szT l ≤ 137438953472) :
    Calls Tryd.prog 30 #[.slice A l.length c] w fun e w' => e = .returned (.string ⟨(textL l).toArray⟩) ∧ Gr w w' := by
  have HL := Lib.hid h
  have CG := Lib.hid (get_any A l c nmB w h (by omega))
  have hgs := getL_size l nmB
  clear h
  obtain ⟨nm, hnm⟩ : ∃ nm, getL l nmB = nm := ⟨_, rfl⟩
  rw [hnm] at CG hgs
  have HNM := Lib.hid hnm
  clear hnm
  have CN := Lib.hid (fun W => name_any nm W (by unfold maxLen; omega))
  cases en : nameB nm
  · have HT : Hid (textL l = [] ++ [123] ++ bodyL l ++ [125]) := Lib.hid (by unfold textL; rw [HNM.out, en]; rfl)
    rw [en] at CN
    clear en
    go_enter Tryd.func30, Tryd.ntmps30
    go_wp2_with fail
    refine CG.out.mono ?_
    rintro e w1 ⟨rfl, hg1⟩
    go_wp2_with fail
    refine (CN.out _).mono ?_
    rintro e w2 ⟨rfl, rfl⟩
    have HLS := Lib.hid (LS.of_old HL.out hg1)
    have HK1 := Lib.hid (Bk.of_gr hg1 (Nat.le_refl _))
    have hB1 := hg1.size
    have HO1 : Hid (OwnB w1 w.heap.size (.slice none 0 0) []) := Lib.hid (OwnB.nil _ _)
    have hc0 : ([] : List UInt8).length ≤ 137438953472 := by simp
    go_wp2_with (at_builtin; refine wpList_appB rfl rfl (.tmp 21) (.tmp 22) (by rfl) (by rfl) (B := w.heap.size) (l := ([] : List UInt8)) (m := [123]) (HO1.out.alloc _) (readsB_new _ _ [123] 1 rfl (by rfl)) (by simp) (by simp only [List.length_cons, List.length_nil]; omega) (by simp; omega) ?_; intro v4 W4 hown4 hbk4)
    have HO4 := Lib.hid hown4
    have HK4 := Lib.hid ((HK1.out.alloc (Nat.le_refl _) _ _).trans hbk4)
    have HLS4 := Lib.hid (HLS.out.on (((Bk.refl _ _).alloc hB1 _ _).trans hbk4))
    have hc4 : (([] : List UInt8) ++ [123]).length ≤ 137438953473 := by simp only [List.length_append, List.length_cons, List.length_nil]; omega
    generalize ([] : List UInt8) ++ [123] = cur at *
    clear hown4 hbk4 HO1 HLS HK1
    go_loopw [4, 26] (fun v i wr => ∃ k : Nat, k ≤ l.length ∧ i = .int .i64 k ∧ Hid (OwnB wr w.heap.size v (cur ++ bodyL (l.take k))) ∧ Hid (Bk w.heap.size W4 wr)) (fun _ i _ => l.length - (intOf i).toNat)
    case atStart => exact ⟨0, Nat.zero_le _, rfl, Lib.hid (by rw [List.take_zero]; show OwnB W4 _ _ (cur ++ []); rw [List.append_nil]; exact HO4.out), Bk.refl _ _⟩
    case round =>
      clear HO4
      obtain ⟨k, hk, rfl, HO, HG⟩ := hrel
      have hBr : w.heap.size ≤ wr.heap.size := by have h1 := HG.out.b.size; have h2 := HK4.out.b.size; omega
      by_cases hlt : k < l.length
      · obtain ⟨b, o, hA, c1, c2, -⟩ := (HLS4.out.on HG.out).here.at_ hlt
        subst hA
        have hz := szT_take hlt
        have hbl := bodyL_len (l.take k)
        obtain ⟨x, hx⟩ : ∃ x, l[k] = x := ⟨_, rfl⟩
        rw [hx] at c1 c2 hz
        have HB1 : Hid (k = 0 → bodyL (l.take (k + 1)) = pieceT x) := Lib.hid (fun h => by subst h; rw [List.take_succ_eq_append_getElem hlt, hx, List.take_zero, List.nil_append, bodyL_one])
        have HB2 : Hid (k ≠ 0 → bodyL (l.take (k + 1)) = bodyL (l.take k) ++ [44] ++ pieceT x) := Lib.hid (fun h => by
          rw [List.take_succ_eq_append_getElem hlt, hx, bodyL_snoc]
          intro e
          have : (l.take k).length = 0 := by rw [e]; rfl
          rw [List.length_take] at this
          omega)
        clear hx
        obtain ⟨p, q⟩ := x
        simp only at c1 c2 hz
        have hbox : (wr.alloc (.cells #[.string p, .string q] 48)).heap[wr.heap.size]? = some (.cells #[.string p, .string q] 48 (0, 0)) := heap_alloc_new wr _
        have HBX := Lib.hid hbox
        clear hbox
        have CQ := Lib.hid (fun B v bs W h hB hn => appendQuoted_any B v bs q W h hB hn)
        by_cases hk0 : k = 0
        · have HBB := Lib.hid (HB1.out hk0)
          have hbt : Hid (bodyL (l.take k) = []) := Lib.hid (by subst hk0; rfl)
          have hd : decide (0 < k) = false := by simp; omega
          have HO' : Hid (OwnB wr w.heap.size u4 (cur ++ [])) := Lib.hid (by have := HO.out; rwa [hbt.out] at this)
          have HK0 := Lib.hid hk0
          clear hk0 HB1 HB2 hbl
          go_wp2_with (first
            | (have tok := hown6; clear tok; at_builtin; refine wpList_appB rfl rfl (.tmp 40) (.tmp 41) (by rfl) (by rfl) (B := w.heap.size) (l := cur ++ [] ++ p.data.toList) (m := [61]) (hown6.alloc _) (readsB_new _ _ [61] 1 rfl (by rfl)) (by simp) (by simp; omega) (by have := hbk6.b.size; simp at this ⊢; omega) ?_; intro v7 W7 hown7 hbk7; have hb7 : Hid (W7.heap[wr.heap.size]? = some (.cells #[.string p, .string q] 48 (0, 0))) := Lib.hid (hbk7.box ((Bk.refl w.heap.size W6).alloc (by have := hbk6.b.size; simp at this; omega) _ _ |>.box hb6.out)); have e7 := cell_of_row W7 wr.heap.size 1 _ _ _ hb7.out)
            | (at_builtin; refine wpList_appS rfl rfl (.tmp 36) (.tmp 38) (by rfl) (by rfl) (B := w.heap.size) (l := cur ++ []) (t := p) (HO'.out.alloc _) (by rfl) (by simp; omega) (by simp; omega) ?_; intro v6 W6 hown6 hbk6; have hb6 : Hid (W6.heap[wr.heap.size]? = some (.cells #[.string p, .string q] 48 (0, 0))) := Lib.hid (hbk6.box HBX.out)))
          refine (CQ.out w.heap.size _ (cur ++ [] ++ p.data.toList ++ [61]) W7 hown7 (by have h1 := hbk6.b.size; have h2 := hbk7.b.size; simp at h1 h2; omega) (by simp; omega)).mono ?_
          rintro e w8 ⟨v8, rfl, hown8, hbk8⟩
          have HO8 : Hid (OwnB w8 w.heap.size v8 (cur ++ bodyL (l.take (k + 1)))) := Lib.hid (by rw [HBB.out]; simpa [pieceT] using hown8)
          have hs6 : w.heap.size ≤ W6.heap.size := by have h1 := hbk6.b.size; simp at h1; omega
          have HG8 := Lib.hid ((((HG.out.trans ((Bk.refl _ _).alloc hBr _ _)).trans hbk6).trans ((Bk.refl _ _).alloc hs6 _ _)).trans (hbk7.trans hbk8))
          clear hown6 hbk6 hown7 hbk7 hown8 hbk8
          go_wp2
          go_roundw
          case rel => exact ⟨k + 1, by omega, by go_num, HO8, HG8⟩
          case measure => simp [intOf]; omega
        · have HBB := Lib.hid (HB2.out hk0)
          have hd : decide (0 < k) = true := by simp; omega
          clear HB1 HB2
          have hb2 : (bodyL (l.take k)).length ≤ szT l := by omega
          go_wp2_with (first
            | (have tok := hown6; clear tok; at_builtin; refine wpList_appB rfl rfl (.tmp 40) (.tmp 41) (by rfl) (by rfl) (B := w.heap.size) (l := cur ++ bodyL (l.take k) ++ [44] ++ p.data.toList) (m := [61]) (hown6.alloc _) (readsB_new _ _ [61] 1 rfl (by rfl)) (by simp) (by simp only [List.length_append, List.length_cons, List.length_nil]; have h2 : p.data.toList.length = p.size := (by simp); omega) (by have h1 := hbk5.b.size; have h2 := hbk6.b.size; simp at h1 h2 ⊢; omega) ?_; intro v7 W7 hown7 hbk7; have hb7 : Hid (W7.heap[wr.heap.size]? = some (.cells #[.string p, .string q] 48 (0, 0))) := Lib.hid (hbk7.box ((Bk.refl w.heap.size W6).alloc (by have h1 := hbk5.b.size; have h2 := hbk6.b.size; simp at h1 h2; omega) _ _ |>.box hb6.out)); have e7 := cell_of_row W7 wr.heap.size 1 _ _ _ hb7.out)
            | (have tok := hown5; clear tok; at_builtin; refine wpList_appS rfl rfl (.tmp 36) (.tmp 38) (by rfl) (by rfl) (B := w.heap.size) (l := cur ++ bodyL (l.take k) ++ [44]) (t := p) hown5 (by rfl) (by simp only [List.length_append, List.length_cons, List.length_nil]; omega) (by have h1 := hbk5.b.size; simp at h1; omega) ?_; intro v6 W6 hown6 hbk6; have hb6 : Hid (W6.heap[wr.heap.size]? = some (.cells #[.string p, .string q] 48 (0, 0))) := Lib.hid (hbk6.box hb5.out))
            | (at_builtin; refine wpList_appB rfl rfl (.tmp 33) (.tmp 34) (by rfl) (by rfl) (B := w.heap.size) (l := cur ++ bodyL (l.take k)) (m := [44]) ((HO.out.alloc _).alloc _) (readsB_behind wr _ _ [44] 1 rfl (by rfl)) (by simp) (by simp only [List.length_append, List.length_cons, List.length_nil]; omega) (by simp; omega) ?_; intro v5 W5 hown5 hbk5; have hb5 : Hid (W5.heap[wr.heap.size]? = some (.cells #[.string p, .string q] 48 (0, 0))) := Lib.hid (hbk5.box (((Bk.refl w.heap.size (wr.alloc (.cells #[.string p, .string q] 48))).alloc (by simp; omega) _ _).box HBX.out)); have e5 := cell_of_row W5 wr.heap.size 0 _ _ _ hb5.out))
          refine (CQ.out w.heap.size _ (cur ++ bodyL (l.take k) ++ [44] ++ p.data.toList ++ [61]) W7 hown7 (by have h1 := hbk5.b.size; have h2 := hbk6.b.size; have h3 := hbk7.b.size; simp at h1 h2 h3; omega) (by simp only [List.length_append, List.length_cons, List.length_nil]; have h2 : p.data.toList.length = p.size := (by simp); omega)).mono ?_
          rintro e w8 ⟨v8, rfl, hown8, hbk8⟩
          have HO8 : Hid (OwnB w8 w.heap.size v8 (cur ++ bodyL (l.take (k + 1)))) := Lib.hid (by rw [HBB.out]; simpa [pieceT] using hown8)
          have hs5 : w.heap.size ≤ W5.heap.size := by have h1 := hbk5.b.size; simp at h1; omega
          have hs6 : w.heap.size ≤ W6.heap.size := by have h1 := hbk6.b.size; omega
          have HG8 := Lib.hid (((((HG.out.trans (((Bk.refl _ _).alloc hBr _ _).alloc hBr _ _)).trans hbk5).trans hbk6).trans ((Bk.refl _ _).alloc hs6 _ _)).trans (hbk7.trans hbk8))
          clear hown5 hbk5 hown6 hbk6 hown7 hbk7 hown8 hbk8
          go_wp2
          go_roundw
          case rel => exact ⟨k + 1, by omega, by go_num, HO8, HG8⟩
          case measure => simp [intOf]; omega
      · obtain rfl : k = l.length := by omega
        have hbl := bodyL_len l
        have HE : Hid (OwnB wr w.heap.size u4 (cur ++ bodyL l)) := Lib.hid (by have := HO.out; rwa [List.take_length] at this)
        go_wp2_with (at_builtin; refine wpList_appB rfl rfl (.tmp 48) (.tmp 49) (by rfl) (by rfl) (B := w.heap.size) (l := cur ++ bodyL l) (m := [125]) (HE.out.alloc _) (readsB_new _ _ [125] 1 rfl (by rfl)) (by simp) (by simp only [List.length_append, List.length_cons, List.length_nil]; omega) (by simp; omega) ?_; intro v9 W9 hown9 hbk9; have hcv := conv_own hown9)
        have HG9 := Lib.hid (((HK4.out.trans HG.out).alloc (Nat.le_refl _) _ _).trans hbk9)
        clear hown9 hbk9
        go_ret
        exact ⟨by rw [HT.out, List.append_assoc]; rfl, HG9.out.gr⟩
  · rw [en] at CN
    go_enter Tryd.func30, Tryd.ntmps30
    go_wp2_with fail
    refine CG.out.mono ?_
    rintro e w1 ⟨rfl, hg1⟩
    have HK1 := Lib.hid (Bk.of_gr hg1 (Nat.le_refl _))
    have hB1 := hg1.size
    have CD := Lib.hid (fun W N (g : Gr w W) hs => drop_any A N l [nmB] c 1 W (HL.out.gr g) hs hl (by simp))
    go_wp2_with (first
      | (go_at_call 29; refine (CN.out _).mono ?_; rintro e w2 ⟨rfl, rfl⟩)
      | (at_builtin; refine wpList_appS rfl rfl (.tmp 11) (.tmp 12) (by rfl) (by rfl) (B := w.heap.size) (l := []) (t := nm) (OwnB.nil _ _) (by rfl) (by simp; omega) hB1 ?_; intro v2 W2 hown2 hbk2)
      | (go_at_call 17; refine (CD.out _ _ ⟨((HK1.out.trans hbk2).b.alloc (by have := hbk2.b.size; omega) _)⟩ ?_).mono ?_))
    · intro _
      exact ⟨W2.heap.size, 0, rfl, fun i x hx => by
        match i, hx with
        | 0, hx =>
          obtain rfl : nmB = x := by simpa using hx
          go_simp; rfl⟩
    rintro e w3 ⟨vl, rfl, hown3, hg3⟩
    have HK3 : Hid (Bk w.heap.size w w3) := Lib.hid (((HK1.out.trans hbk2).alloc (Nat.le_refl _) _ _).trans (Bk.of_gr hg3 (by have := hbk2.b.size; simp; omega)))
    have HO3 : Hid (OwnB w3 w.heap.size v2 nm.data.toList) := Lib.hid ((hown2.alloc _).gr hg3)
    obtain ⟨m, hm⟩ : ∃ m, pickL l [nmB] false = m := ⟨_, rfl⟩
    have hml : m.length ≤ l.length := by have := pickL_len l [nmB] false; rw [hm] at this; exact this
    have hmz : szT m ≤ 137438953472 := by have := szT_pick l [nmB] false; rw [hm] at this; omega
    rw [hm] at hown3
    obtain ⟨A3, c3, rfl, -⟩ := hown3.form
    have HLS := Lib.hid (LS.of_own (B := w.heap.size) hown3)
    have hB3 : w.heap.size ≤ w3.heap.size := by have := HK3.out.b.size; omega
    have HM := Lib.hid hm
    clear hm hown3 hown2 hbk2 hg3
    by_cases h0 : m.length = 0
    · have hm0 : m = [] := List.eq_nil_of_length_eq_zero h0
      subst hm0
      have HT : Hid (textL l = nm.data.toList) := Lib.hid (by unfold textL; rw [HNM.out, en, if_pos rfl, if_pos HM.out])
      clear en
      go_wp2
      go_ret
      exact ⟨by rw [HT.out]; rfl, HK3.out.gr⟩
    · have HT : Hid (textL l = nm.data.toList ++ [123] ++ bodyL m ++ [125]) := Lib.hid (by
        unfold textL
        rw [HNM.out, en, if_pos rfl, HM.out, if_neg (by intro e; rw [e] at h0; exact h0 rfl)])
      have h0' : ((m.length : Int) == 0) = false := by simp; intro e; rw [e] at h0; exact h0 rfl
      have hc0 : nm.data.toList.length ≤ 137438953472 := by simp; omega
      clear en h0
      go_wp2_with (at_builtin; refine wpList_appB rfl rfl (.tmp 21) (.tmp 22) (by rfl) (by rfl) (B := w.heap.size) (l := nm.data.toList) (m := [123]) (HO3.out.alloc _) (readsB_new _ _ [123] 1 rfl (by rfl)) (by simp) (by simp only [List.length_cons, List.length_nil]; omega) (by simp; omega) ?_; intro v4 W4 hown4 hbk4)
      have HO4 := Lib.hid hown4
      have HK4 := Lib.hid ((HK3.out.alloc (Nat.le_refl _) _ _).trans hbk4)
      have HLS4 := Lib.hid (HLS.out.on (((Bk.refl _ _).alloc hB3 _ _).trans hbk4))
      have hc4 : (nm.data.toList ++ [123]).length ≤ 137438953473 := by simp only [List.length_append, List.length_cons, List.length_nil]; omega
      generalize nm.data.toList ++ [123] = cur at *
      clear hown4 hbk4 HO3 HLS HK3
      go_loopw [4, 26] (fun v i wr => ∃ k : Nat, k ≤ m.length ∧ i = .int .i64 k ∧ Hid (OwnB wr w.heap.size v (cur ++ bodyL (m.take k))) ∧ Hid (Bk w.heap.size W4 wr)) (fun _ i _ => m.length - (intOf i).toNat)
      case atStart => exact ⟨0, Nat.zero_le _, rfl, Lib.hid (by rw [List.take_zero]; show OwnB W4 _ _ (cur ++ []); rw [List.append_nil]; exact HO4.out), Bk.refl _ _⟩
      case round =>
        clear HO4
        obtain ⟨k, hk, rfl, HO, HG⟩ := hrel
        have hBr : w.heap.size ≤ wr.heap.size := by have h1 := HG.out.b.size; have h2 := HK4.out.b.size; omega
        by_cases hlt : k < m.length
        · obtain ⟨b, o, hA, c1, c2, -⟩ := (HLS4.out.on HG.out).here.at_ hlt
          subst hA
          have hz := szT_take hlt
          have hbl := bodyL_len (m.take k)
          obtain ⟨x, hx⟩ : ∃ x, m[k] = x := ⟨_, rfl⟩
          rw [hx] at c1 c2 hz
          have HB1 : Hid (k = 0 → bodyL (m.take (k + 1)) = pieceT x) := Lib.hid (fun h => by subst h; rw [List.take_succ_eq_append_getElem hlt, hx, List.take_zero, List.nil_append, bodyL_one])
          have HB2 : Hid (k ≠ 0 → bodyL (m.take (k + 1)) = bodyL (m.take k) ++ [44] ++ pieceT x) := Lib.hid (fun h => by
            rw [List.take_succ_eq_append_getElem hlt, hx, bodyL_snoc]
            intro e
            have : (m.take k).length = 0 := by rw [e]; rfl
            rw [List.length_take] at this
            omega)
          clear hx
          obtain ⟨p, q⟩ := x
          simp only at c1 c2 hz
          have hbox : (wr.alloc (.cells #[.string p, .string q] 48)).heap[wr.heap.size]? = some (.cells #[.string p, .string q] 48 (0, 0)) := heap_alloc_new wr _
          have HBX := Lib.hid hbox
          clear hbox
          have CQ := Lib.hid (fun B v bs W h hB hn => appendQuoted_any B v bs q W h hB hn)
          by_cases hk0 : k = 0
          · have HBB := Lib.hid (HB1.out hk0)
            have hbt : Hid (bodyL (m.take k) = []) := Lib.hid (by subst hk0; rfl)
            have hd : decide (0 < k) = false := by simp; omega
            have HO' : Hid (OwnB wr w.heap.size u4 (cur ++ [])) := Lib.hid (by have := HO.out; rwa [hbt.out] at this)
            have HK0 := Lib.hid hk0
            clear hk0 HB1 HB2 hbl
            go_wp2_with (first
              | (have tok := hown6; clear tok; at_builtin; refine wpList_appB rfl rfl (.tmp 40) (.tmp 41) (by rfl) (by rfl) (B := w.heap.size) (l := cur ++ [] ++ p.data.toList) (m := [61]) (hown6.alloc _) (readsB_new _ _ [61] 1 rfl (by rfl)) (by simp) (by simp; omega) (by have := hbk6.b.size; simp at this ⊢; omega) ?_; intro v7 W7 hown7 hbk7; have hb7 : Hid (W7.heap[wr.heap.size]? = some (.cells #[.string p, .string q] 48 (0, 0))) := Lib.hid (hbk7.box ((Bk.refl w.heap.size W6).alloc (by have := hbk6.b.size; simp at this; omega) _ _ |>.box hb6.out)); have e7 := cell_of_row W7 wr.heap.size 1 _ _ _ hb7.out)
              | (at_builtin; refine wpList_appS rfl rfl (.tmp 36) (.tmp 38) (by rfl) (by rfl) (B := w.heap.size) (l := cur ++ []) (t := p) (HO'.out.alloc _) (by rfl) (by simp; omega) (by simp; omega) ?_; intro v6 W6 hown6 hbk6; have hb6 : Hid (W6.heap[wr.heap.size]? = some (.cells #[.string p, .string q] 48 (0, 0))) := Lib.hid (hbk6.box HBX.out)))
            refine (CQ.out w.heap.size _ (cur ++ [] ++ p.data.toList ++ [61]) W7 hown7 (by have h1 := hbk6.b.size; have h2 := hbk7.b.size; simp at h1 h2; omega) (by simp; omega)).mono ?_
            rintro e w8 ⟨v8, rfl, hown8, hbk8⟩
            have HO8 : Hid (OwnB w8 w.heap.size v8 (cur ++ bodyL (m.take (k + 1)))) := Lib.hid (by rw [HBB.out]; simpa [pieceT] using hown8)
            have hs6 : w.heap.size ≤ W6.heap.size := by have h1 := hbk6.b.size; simp at h1; omega
            have HG8 := Lib.hid ((((HG.out.trans ((Bk.refl _ _).alloc hBr _ _)).trans hbk6).trans ((Bk.refl _ _).alloc hs6 _ _)).trans (hbk7.trans hbk8))
            clear hown6 hbk6 hown7 hbk7 hown8 hbk8
            go_wp2
            go_roundw
            case rel => exact ⟨k + 1, by omega, by go_num, HO8, HG8⟩
            case measure => simp [intOf]; omega
          · have HBB := Lib.hid (HB2.out hk0)
            have hd : decide (0 < k) = true := by simp; omega
            clear HB1 HB2
            have hb2 : (bodyL (m.take k)).length ≤ szT m := by omega
            go_wp2_with (first
              | (have tok := hown6; clear tok; at_builtin; refine wpList_appB rfl rfl (.tmp 40) (.tmp 41) (by rfl) (by rfl) (B := w.heap.size) (l := cur ++ bodyL (m.take k) ++ [44] ++ p.data.toList) (m := [61]) (hown6.alloc _) (readsB_new _ _ [61] 1 rfl (by rfl)) (by simp) (by simp only [List.length_append, List.length_cons, List.length_nil]; have h2 : p.data.toList.length = p.size := (by simp); omega) (by have h1 := hbk5.b.size; have h2 := hbk6.b.size; simp at h1 h2 ⊢; omega) ?_; intro v7 W7 hown7 hbk7; have hb7 : Hid (W7.heap[wr.heap.size]? = some (.cells #[.string p, .string q] 48 (0, 0))) := Lib.hid (hbk7.box ((Bk.refl w.heap.size W6).alloc (by have h1 := hbk5.b.size; have h2 := hbk6.b.size; simp at h1 h2; omega) _ _ |>.box hb6.out)); have e7 := cell_of_row W7 wr.heap.size 1 _ _ _ hb7.out)
              | (have tok := hown5; clear tok; at_builtin; refine wpList_appS rfl rfl (.tmp 36) (.tmp 38) (by rfl) (by rfl) (B := w.heap.size) (l := cur ++ bodyL (m.take k) ++ [44]) (t := p) hown5 (by rfl) (by simp only [List.length_append, List.length_cons, List.length_nil]; omega) (by have h1 := hbk5.b.size; simp at h1; omega) ?_; intro v6 W6 hown6 hbk6; have hb6 : Hid (W6.heap[wr.heap.size]? = some (.cells #[.string p, .string q] 48 (0, 0))) := Lib.hid (hbk6.box hb5.out))
              | (at_builtin; refine wpList_appB rfl rfl (.tmp 33) (.tmp 34) (by rfl) (by rfl) (B := w.heap.size) (l := cur ++ bodyL (m.take k)) (m := [44]) ((HO.out.alloc _).alloc _) (readsB_behind wr _ _ [44] 1 rfl (by rfl)) (by simp) (by simp only [List.length_append, List.length_cons, List.length_nil]; omega) (by simp; omega) ?_; intro v5 W5 hown5 hbk5; have hb5 : Hid (W5.heap[wr.heap.size]? = some (.cells #[.string p, .string q] 48 (0, 0))) := Lib.hid (hbk5.box (((Bk.refl w.heap.size (wr.alloc (.cells #[.string p, .string q] 48))).alloc (by simp; omega) _ _).box HBX.out)); have e5 := cell_of_row W5 wr.heap.size 0 _ _ _ hb5.out))
            refine (CQ.out w.heap.size _ (cur ++ bodyL (m.take k) ++ [44] ++ p.data.toList ++ [61]) W7 hown7 (by have h1 := hbk5.b.size; have h2 := hbk6.b.size; have h3 := hbk7.b.size; simp at h1 h2 h3; omega) (by simp only [List.length_append, List.length_cons, List.length_nil]; have h2 : p.data.toList.length = p.size := (by simp); omega)).mono ?_
            rintro e w8 ⟨v8, rfl, hown8, hbk8⟩
            have HO8 : Hid (OwnB w8 w.heap.size v8 (cur ++ bodyL (m.take (k + 1)))) := Lib.hid (by rw [HBB.out]; simpa [pieceT] using hown8)
            have hs5 : w.heap.size ≤ W5.heap.size := by have h1 := hbk5.b.size; simp at h1; omega
            have hs6 : w.heap.size ≤ W6.heap.size := by have h1 := hbk6.b.size; omega
            have HG8 := Lib.hid (((((HG.out.trans (((Bk.refl _ _).alloc hBr _ _).alloc hBr _ _)).trans hbk5).trans hbk6).trans ((Bk.refl _ _).alloc hs6 _ _)).trans (hbk7.trans hbk8))
            clear hown5 hbk5 hown6 hbk6 hown7 hbk7 hown8 hbk8
            go_wp2
            go_roundw
            case rel => exact ⟨k + 1, by omega, by go_num, HO8, HG8⟩
            case measure => simp [intOf]; omega
        · obtain rfl : k = m.length := by omega
          have hbl := bodyL_len m
          have HE : Hid (OwnB wr w.heap.size u4 (cur ++ bodyL m)) := Lib.hid (by have := HO.out; rwa [List.take_length] at this)
          go_wp2_with (at_builtin; refine wpList_appB rfl rfl (.tmp 48) (.tmp 49) (by rfl) (by rfl) (B := w.heap.size) (l := cur ++ bodyL m) (m := [125]) (HE.out.alloc _) (readsB_new _ _ [125] 1 rfl (by rfl)) (by simp) (by simp only [List.length_append, List.length_cons, List.length_nil]; omega) (by simp; omega) ?_; intro v9 W9 hown9 hbk9; have hcv := conv_own hown9)
          have HG9 := Lib.hid (((HK4.out.trans HG.out).alloc (Nat.le_refl _) _ _).trans hbk9)
          clear hown9 hbk9
          go_ret
          exact ⟨by rw [HT.out, List.append_assoc]; rfl, HG9.out.gr⟩
end Go.Proofs.YtegbenbhiadnbaaDoor
