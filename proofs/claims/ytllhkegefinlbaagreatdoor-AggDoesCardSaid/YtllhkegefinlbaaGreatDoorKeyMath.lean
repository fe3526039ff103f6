/- Keys: one to one; the order's mirror. -/
import Derived.Test.YtllhkegefinlbaaGreatDoorText
import Derived.Test.YtllhkegefinlbaaGreatDoorCmp
namespace Go.Proofs.YtllhkegefinlbaaGreatDoor
open Go.RowKit Go.Sort
set_option maxRecDepth 100000
set_option maxHeartbeats 4000000

def pieceK (s : List UInt8) : List UInt8 := Lib.decDigits s.length ++ [58] ++ s
def keyL (l : List Lb) : List UInt8 := l.flatMap fun x => pieceK x.1.data.toList ++ pieceK x.2.data.toList
/-- the powers of ten as they are laid -/
def Kn (w : World) : Prop := Lib.TabIs Tryz.prog w "internal/strconv.uint64pow10" .u64 Lib.pow10Tab
theorem Kn.gr {w w' : World} (h : Kn w) (g : Gr w w') : Kn w' := Lib.tabBelow_of_tabIs h w' g.b
def KnB (B : Nat) (w : World) : Prop := Lib.TabBelow Tryz.prog B w "internal/strconv.uint64pow10" .u64 Lib.pow10Tab
theorem Kn.below {w w' : World} (h : Kn w) (g : Gr w w') : KnB w.heap.size w' := (Lib.tabBelow_of_tabIs h).on g.b
theorem dec_len (n : Nat) (h : n ≤ 1099511627776) : (Lib.decDigits n).length ≤ 20 := by
  have key : ∀ k n, n < 10 ^ k → 0 < k → (Lib.decDigits n).length ≤ k := by
    intro k
    induction k with
    | zero => intro n _ h; omega
    | succ k ih =>
      intro n hn _
      rw [Lib.decDigits]
      by_cases h10 : n < 10
      · rw [dif_pos h10]; simp
      · rw [dif_neg h10, List.length_append, List.length_cons, List.length_nil]
        have hk : 0 < k := by
          rcases Nat.eq_zero_or_pos k with e | e
          · subst e; simp at hn; omega
          · exact e
        have := ih (n / 10) (by rw [Nat.pow_succ] at hn; omega) hk
        omega
  exact key 20 n (by omega) (by omega)
theorem appendPiece_any (B : Nat) (v : Value) (bs : List UInt8) (s : ByteArray) (w : World) (h : OwnB w B v bs) (hB : B ≤ w.heap.size) (hk : KnB B w) (hn : bs.length + s.size + 100 ≤ 549755813888) :
    Calls Tryz.prog 74 #[v, .string s] w fun e w' => ∃ v', e = .returned v' ∧ OwnB w' B v' (bs ++ pieceK s.data.toList) ∧ Bk B w w' := by
  have hI := Tryz.strconv_AppendInt_10 B bs.length (s.size : Int) (by omega) (by omega) v (Lib.byteCells bs) w h hB (by omega) hk
  have hit : Lib.itoa (s.size : Int) = Lib.decDigits s.data.toList.length := by rw [Lib.itoa_nonneg, show s.data.toList.length = s.size by simp]
  rw [hit] at hI
  have hdl := dec_len s.size (by omega)
  have hsl : s.data.toList.length = s.size := by simp
  rw [hsl] at hI
  have HP : Hid (bs ++ pieceK s.data.toList = bs ++ Lib.decDigits s.size ++ [58] ++ s.data.toList) := Lib.hid (by unfold pieceK; rw [hsl]; simp)
  have HI := Lib.hid hI
  clear hI hit h hk hsl
  obtain ⟨dd, hdd⟩ : ∃ dd, Lib.decDigits s.size = dd := ⟨_, rfl⟩
  rw [hdd] at HI HP hdl
  clear hdd
  go_enter Tryz.func74, Tryz.ntmps74
  go_wp2_with fail
  refine HI.out.mono ?_
  rintro e w1 ⟨v1, rfl, hown1, hb1, ho1⟩
  have HO1 : Hid (OwnB w1 B v1 (bs ++ dd)) := Lib.hid (by unfold OwnB; rw [bc_app, List.length_append]; exact hown1)
  have HK1 : Hid (Bk B w w1) := Lib.hid ⟨hb1, ho1⟩
  have hs1 : B ≤ w1.heap.size := by have := hb1.size; omega
  clear hown1 hb1 ho1
  go_wp2_with (first
    | (have tok := hown2; clear tok; at_builtin; refine wpList_appS rfl rfl (.tmp 12) (.tmp 13) (by rfl) (by rfl) (B := B) (l := bs ++ dd ++ [58]) (t := s) hown2 (by rfl) (by simp; omega) (by have h := hbk2.b.size; simp at h; omega) ?_; intro v3 W3 hown3 hbk3)
    | (at_builtin; refine wpList_appB rfl rfl (.tmp 9) (.tmp 10) (by rfl) (by rfl) (B := B) (l := bs ++ dd) (m := [58]) (HO1.out.alloc _) (readsB_new w1 _ [58] 1 rfl (by rfl)) (by simp) (by simp; omega) (by simp; omega) ?_; intro v2 W2 hown2 hbk2))
  go_ret
  exact ⟨v3, rfl, by rw [HP.out]; exact hown3, ((HK1.out.trans ((Bk.refl _ _).alloc hs1 _ _)).trans hbk2).trans hbk3⟩

def szK (l : List Lb) : Nat := (l.map fun x => x.1.size + x.2.size + 50).sum
theorem keyL_len (l : List Lb) (h : ∀ x ∈ l, x.1.size ≤ 1099511627776 ∧ x.2.size ≤ 1099511627776) : (keyL l).length ≤ szK l := by
  induction l with
  | nil => simp [keyL]
  | cons x r ih =>
    have h1 := ih fun y hy => h y (List.mem_cons_of_mem _ hy)
    have h2 := h x List.mem_cons_self
    have h3 : szK (x :: r) = x.1.size + x.2.size + 50 + szK r := rfl
    have e1 : x.1.data.toList.length = x.1.size := by simp
    have e2 : x.2.data.toList.length = x.2.size := by simp
    have d1 := dec_len x.1.data.toList.length (by omega)
    have d2 := dec_len x.2.data.toList.length (by omega)
    have h4 : (keyL (x :: r)).length = (pieceK x.1.data.toList).length + (pieceK x.2.data.toList).length + (keyL r).length := by unfold keyL; rw [List.flatMap_cons, List.length_append, List.length_append]
    have h5 : ∀ s : List UInt8, (pieceK s).length = (Lib.decDigits s.length).length + 1 + s.length := fun s => by simp [pieceK]; omega
    rw [h5, h5] at h4
    omega
theorem szK_take {l : List Lb} {k : Nat} (h : k < l.length) : szK (l.take k) + ((l[k]).1.size + (l[k]).2.size + 50) ≤ szK l := by
  have e : l = l.take k ++ l[k] :: l.drop (k + 1) := by rw [← List.drop_eq_getElem_cons h, List.take_append_drop]
  conv => rhs; rw [e]
  simp only [szK, List.map_append, List.map_cons, List.sum_append, List.sum_cons]
  omega
theorem keyL_snoc (r : List Lb) (x : Lb) : keyL (r ++ [x]) = keyL r ++ pieceK x.1.data.toList ++ pieceK x.2.data.toList := by simp [keyL]
theorem key_any (A : Option Addr) (l : List Lb) (c : Nat) (w : World) (h : LabsAt w A l) (hl : l.length ≤ 549755813888) (hsz : szK l ≤ 137438953472) (hk : Kn w) :
    Calls Tryz.prog 44 #[.slice A l.length c] w fun e w' => e = .returned (.string ⟨(keyL l).toArray⟩) ∧ Gr w w' := by
  have HL := Lib.hid h; have HKN := Lib.hid hk
  have hwd : ∀ x ∈ l, x.1.size ≤ 1099511627776 ∧ x.2.size ≤ 1099511627776 := by
    intro x hx
    obtain ⟨i, hi, rfl⟩ := List.getElem_of_mem hx
    have := szK_take hi
    omega
  have HW := Lib.hid hwd
  clear h hk hwd
  go_enter Tryz.func44, Tryz.ntmps44
  go_wp2
  go_loopw [3, 8] (fun v i wr => ∃ k : Nat, k ≤ l.length ∧ i = .int .i64 k ∧ Hid (OwnB wr w.heap.size v (keyL (l.take k))) ∧ Hid (Bk w.heap.size w wr)) (fun _ i _ => l.length - (intOf i).toNat)
  case atStart => exact ⟨0, Nat.zero_le _, rfl, OwnB.nil _ _, Bk.refl _ _⟩
  case round =>
    obtain ⟨k, hk, rfl, HO, HG⟩ := hrel
    have hBr : w.heap.size ≤ wr.heap.size := HG.out.b.size
    by_cases hlt : k < l.length
    · obtain ⟨b, o, rfl, c1, c2, -⟩ := (HL.out.gr HG.out.gr).at_ hlt
      have hz := szK_take hlt
      have hkl := keyL_len (l.take k) fun y hy => HW.out y (List.mem_of_mem_take hy)
      obtain ⟨x, hx⟩ : ∃ x, l[k] = x := ⟨_, rfl⟩
      rw [hx] at c1 c2 hz
      have HS : Hid (keyL (l.take (k + 1)) = keyL (l.take k) ++ pieceK x.1.data.toList ++ pieceK x.2.data.toList) := Lib.hid (by rw [List.take_succ_eq_append_getElem hlt, hx, keyL_snoc])
      clear hx
      obtain ⟨p, q⟩ := x
      simp only at c1 c2 hz
      have hd1 := dec_len p.size (by omega)
      have hpk : (pieceK p.data.toList).length ≤ p.size + 21 := by
        have : p.data.toList.length = p.size := by simp
        simp only [pieceK, List.length_append, List.length_cons, List.length_nil, this]
        omega
      have HBX : Hid ((wr.alloc (.cells #[.string p, .string q] 42)).heap[wr.heap.size]? = some (.cells #[.string p, .string q] 42 (0, 0))) := Lib.hid (heap_alloc_new wr _)
      have HB1 := Lib.hid ((Bk.refl w.heap.size wr).alloc hBr #[.string p, .string q] 42)
      have CP1 := Lib.hid (appendPiece_any w.heap.size _ _ p (wr.alloc (.cells #[.string p, .string q] 42)) (HO.out.alloc _) (by simp; omega) (HKN.out.below ⟨(HG.out.trans HB1.out).b⟩) (by omega))
      go_wp2_with fail
      refine CP1.out.mono ?_
      rintro e w1 ⟨v1, rfl, hown1, hbk1⟩
      have hb1 : Hid (w1.heap[wr.heap.size]? = some (.cells #[.string p, .string q] 42 (0, 0))) := Lib.hid (hbk1.box HBX.out)
      have e1 := cell_of_row w1 wr.heap.size 1 _ _ _ hb1.out
      have hs1 : w.heap.size ≤ w1.heap.size := by have h := hbk1.b.size; simp at h; omega
      have HG1 := Lib.hid ((HG.out.trans HB1.out).trans hbk1)
      have CP2 := Lib.hid (appendPiece_any w.heap.size _ _ q w1 hown1 hs1 (HKN.out.below HG1.out.gr) (by simp only [List.length_append]; omega))
      clear hown1 hbk1 CP1
      go_wp2_with fail
      refine CP2.out.mono ?_
      rintro e w2 ⟨v2, rfl, hown2, hbk2⟩
      have HO2 : Hid (OwnB w2 w.heap.size v2 (keyL (l.take (k + 1)))) := Lib.hid (by rw [HS.out]; exact hown2)
      have HG2 := Lib.hid (HG1.out.trans hbk2)
      clear hown2 hbk2 e1
      go_wp2
      go_roundw
      case rel => exact ⟨k + 1, by omega, by go_num, HO2, HG2⟩
      case measure => simp [intOf]; omega
    · obtain rfl : k = l.length := by omega
      have HE : Hid (OwnB wr w.heap.size u3 (keyL l)) := Lib.hid (by have := HO.out; rwa [List.take_length] at this)
      have hcv := conv_own HE.out
      go_wp2
      go_ret
      exact ⟨rfl, HG.out.gr⟩
end Go.Proofs.YtllhkegefinlbaaGreatDoor
namespace Go.Proofs.YtllhkegefinlbaaGreatDoor
open Go.RowKit Go.Sort
set_option maxRecDepth 100000
set_option maxHeartbeats 1000000

/-! decimal numbers -/
theorem dec_digit : ∀ n, ∀ c ∈ Lib.decDigits n, 48 ≤ c.toNat ∧ c.toNat ≤ 57 := by
  intro n
  induction n using Nat.strongRecOn with
  | ind n ih =>
    intro c hc
    rw [Lib.decDigits] at hc
    split at hc
    · simp at hc; subst hc; simp; omega
    · rcases List.mem_append.1 hc with hc | hc
      · exact ih (n / 10) (by omega) c hc
      · simp at hc; subst hc; simp; omega
def valD (l : List UInt8) : Nat := l.foldl (fun a c => 10 * a + (c.toNat - 48)) 0
theorem valD_dec : ∀ n, valD (Lib.decDigits n) = n := by
  intro n
  induction n using Nat.strongRecOn with
  | ind n ih =>
    rw [Lib.decDigits]
    split
    · simp [valD]; omega
    · have := ih (n / 10) (by omega)
      unfold valD at this ⊢
      rw [List.foldl_append, this]
      simp
      omega
theorem dec_inj {a b : Nat} (h : Lib.decDigits a = Lib.decDigits b) : a = b := by rw [← valD_dec a, h, valD_dec]
/-- what stands ahead of a byte that is none of its own is told by the whole -/
theorem split_at {p : UInt8 → Prop} {a b x y : List UInt8} {c : UInt8} (hc : ¬ p c) (ha : ∀ u ∈ a, p u) (hb : ∀ u ∈ b, p u) (h : a ++ c :: x = b ++ c :: y) : a = b ∧ x = y := by
  induction a generalizing b with
  | nil =>
    cases b with
    | nil => simpa using h
    | cons u b => simp at h; exact absurd (h.1 ▸ hb u List.mem_cons_self) hc
  | cons v a ih =>
    cases b with
    | nil => simp at h; exact absurd (h.1 ▸ ha v List.mem_cons_self) hc
    | cons u b =>
      simp only [List.cons_append, List.cons.injEq] at h
      obtain ⟨e1, e2⟩ := ih (fun u hu => ha u (List.mem_cons_of_mem _ hu)) (fun u hu => hb u (List.mem_cons_of_mem _ hu)) h.2
      exact ⟨by rw [h.1, e1], e2⟩
theorem piece_inj {a b x y : List UInt8} (h : pieceK a ++ x = pieceK b ++ y) : a = b ∧ x = y := by
  unfold pieceK at h
  simp only [List.append_assoc, List.cons_append, List.nil_append] at h
  obtain ⟨e1, e2⟩ := split_at (p := fun c => 48 ≤ c.toNat ∧ c.toNat ≤ 57) (by decide) (dec_digit _) (dec_digit _) h
  have hl := dec_inj e1
  exact List.append_inj e2 hl
theorem piece_ne (a x : List UInt8) : pieceK a ++ x ≠ [] := by unfold pieceK; simp
theorem bytes_ext {a b : ByteArray} (h : a.data.toList = b.data.toList) : a = b := by
  cases a; cases b; simp only at h; congr 1; exact Array.toList_inj.1 h
theorem keyL_cons (x : Lb) (l : List Lb) : keyL (x :: l) = pieceK x.1.data.toList ++ (pieceK x.2.data.toList ++ keyL l) := by simp [keyL]
/-- a key that goes on from another's is of a list that goes on from the other's -/
theorem key_goes_on : ∀ (a l : List Lb) (r : List UInt8), keyL l = keyL a ++ r → ∃ b, l = a ++ b ∧ r = keyL b
  | [], l, r, h => ⟨l, rfl, by rw [h]; rfl⟩
  | x :: a, [], r, h => by
    rw [keyL_cons, List.append_assoc] at h
    exact absurd h.symm (piece_ne _ _)
  | x :: a, y :: l, r, h => by
    rw [keyL_cons, keyL_cons] at h
    simp only [List.append_assoc] at h
    obtain ⟨e1, h⟩ := piece_inj h
    obtain ⟨e2, h⟩ := piece_inj h
    obtain ⟨b, rfl, hb⟩ := key_goes_on a l r h
    refine ⟨b, ?_, hb⟩
    have : y = x := Prod.ext (bytes_ext e1) (bytes_ext e2)
    rw [this]; rfl
theorem keyL_inj {a b : List Lb} (h : keyL a = keyL b) : a = b := by
  obtain ⟨c, rfl, hc⟩ := key_goes_on b a [] (by rw [h, List.append_nil])
  cases c with
  | nil => simp
  | cons x c => rw [keyL_cons] at hc; exact absurd hc.symm (piece_ne _ _)

/-! the order's mirror -/
theorem cmpL_mirror (x y : Lb) : cmpL y x = - cmpL x y := by
  unfold cmpL
  by_cases e : x = y
  · rw [if_pos e, if_pos e.symm]; rfl
  · rw [if_neg e, if_neg (Ne.symm e)]
    have key : lbLt y x = !lbLt x y := by
      cases h1 : lbLt x y <;> cases h2 : lbLt y x
      · exact absurd (lbLt_tri h1 h2) e
      · rfl
      · rfl
      · have := lbLt_trans h1 h2; rw [lbLt_irrefl] at this; cases this
    rw [key]
    cases lbLt x y <;> rfl
theorem cmpLs_mirror : ∀ (a b : List Lb), cmpLs b a = - cmpLs a b
  | [], [] => rfl
  | [], _ :: _ => rfl
  | _ :: _, [] => rfl
  | x :: r, y :: s => by
    have ih := cmpLs_mirror r s
    have h := cmpL_mirror x y
    unfold cmpLs
    rw [h]
    by_cases e : cmpL x y = 0
    · rw [if_pos e, if_pos (by omega)]; exact ih
    · rw [if_neg e, if_neg (by omega)]
theorem key_cmp (a b : List Lb) : decide (keyL a = keyL b) = decide (cmpLs a b = 0) := by
  rw [decide_eq_decide, cmpLs_0_iff]
  exact ⟨keyL_inj, fun h => by rw [h]⟩
end Go.Proofs.YtllhkegefinlbaaGreatDoor
