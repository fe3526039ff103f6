/- item: a byte or a range of a set. -/
import Derived.Test.YtnlfndhgdeapeaaBset
import Derived.Test.YtnlfndhgdeapeaaLetter
namespace Go.Proofs.Ytnlfndhgdeapeaa
open Go.RowKit
set_option maxRecDepth 100000
set_option maxHeartbeats 4000000

/-- of what was there the blocks b and d alone may have changed -/
structure On2 (w w' : World) (b d : Nat) : Prop where
  os : w'.os = w.os
  tape : w'.tape = w.tape
  output : w'.output = w.output
  size : w.heap.size ≤ w'.heap.size
  block : ∀ i, i < w.heap.size → i ≠ b → i ≠ d → w'.heap[i]? = w.heap[i]?
theorem On2.refl (w : World) (b d : Nat) : On2 w w b d := ⟨rfl, rfl, rfl, Nat.le_refl _, fun _ _ _ _ => rfl⟩
theorem On2.l {a w w' : World} {b d : Nat} (h : On2 a w b d) (g : Only w w' b) : On2 a w' b d :=
  ⟨g.os.trans h.os, g.tape.trans h.tape, g.output.trans h.output, Nat.le_trans h.size g.size, fun i hi h1 h2 => (g.block i (Nat.lt_of_lt_of_le hi h.size) (fun e => h1 (Option.some.inj e))).trans (h.block i hi h1 h2)⟩
theorem On2.r {a w w' : World} {b d : Nat} (h : On2 a w b d) (g : Only w w' d) : On2 a w' b d :=
  ⟨g.os.trans h.os, g.tape.trans h.tape, g.output.trans h.output, Nat.le_trans h.size g.size, fun i hi h1 h2 => (g.block i (Nat.lt_of_lt_of_le hi h.size) (fun e => h2 (Option.some.inj e))).trans (h.block i hi h1 h2)⟩
theorem On2.trans {a w w' : World} {b d : Nat} (h : On2 a w b d) (g : On2 w w' b d) : On2 a w' b d :=
  ⟨g.os.trans h.os, g.tape.trans h.tape, g.output.trans h.output, Nat.le_trans h.size g.size, fun i hi h1 h2 => (g.block i (Nat.lt_of_lt_of_le hi h.size) h1 h2).trans (h.block i hi h1 h2)⟩
theorem On2.drewN {a w : World} {b d : Nat} (h : On2 a w b d) (n : Nat) : On2 a (w.drewN n) b d := ⟨h.os, h.tape, h.output, h.size, h.block⟩
theorem Only.blk {w w' : World} {b i : Nat} (g : Only w w' b) (hi : i < w.heap.size) (h : i ≠ b) : w'.heap[i]? = w.heap[i]? := g.block i hi (fun e => h (Option.some.inj e))
theorem BsAt.lt {W : World} {b o : Nat} {p : Nat → Bool} (h : BsAt W b o p) : b < W.heap.size := by
  obtain ⟨v, hv, -⟩ := h 0 (by omega)
  exact World.block_lt_of_cell? W _ hv
theorem BsAt.only {W W' : World} {b d o : Nat} {p : Nat → Bool} (h : BsAt W d o p) (g : Only W W' b) (hne : d ≠ b) : BsAt W' d o p := fun i hi => by
  obtain ⟨v, h1, h2, h3⟩ := h i hi
  have hb := g.blk h.lt hne
  exact ⟨v, (World.cell?_of_block (a := ⟨d, _, none⟩) hb).trans h1, (World.frozen?_of_block (a := ⟨d, _, none⟩) hb).trans h2, h3⟩
theorem KeepsB.only {w W W' : World} {b d o : Nat} (h : KeepsB w W d o) (g : Only W W' b) (hd : d < W.heap.size) (hne : d ≠ b) : KeepsB w W' d o := fun j hj => by
  have hb := g.blk hd hne
  exact ⟨(World.cell?_of_block (a := ⟨d, j, none⟩) hb).trans (h j hj).1, (World.frozen?_of_block (a := ⟨d, j, none⟩) hb).trans (h j hj).2⟩
theorem KeepsB.trans {w W W' : World} {d o : Nat} (h : KeepsB w W d o) (g : KeepsB W W' d o) : KeepsB w W' d o := fun j hj => ⟨(g j hj).1.trans (h j hj).1, (g j hj).2.trans (h j hj).2⟩
theorem Rd.only {W W' : World} {b d : Nat} {s : ByteArray} {k : Nat} (h : Rd W b s k) (g : Only W W' d) (hne : b ≠ d) : Rd W' b s k := (g.blk h.lt hne).trans h

def sbL : List UInt8 := [93, 92, 45, 94]
def sqL : List UInt8 := [92, 46, 91, 93, 40, 41, 124, 42, 43, 63, 45, 94]
/-- one item: is there one, from, to, and the place behind it (or where the reading stops) -/
def itemS (s : List UInt8) (k : Nat) : Bool × UInt8 × UInt8 × Nat :=
  let r := letterS s sbL sqL k
  if r.1 then
    if isAt s r.2.2 45 then
      let q := letterS s sbL sqL (r.2.2 + 1)
      if q.1 then (if q.2.1.toNat < r.2.1.toNat then (false, 0, 0, r.2.2 + 1) else (true, r.2.1, q.2.1, q.2.2)) else (false, 0, 0, q.2.2)
    else (true, r.2.1, r.2.1, r.2.2)
  else (false, 0, 0, r.2.2)
def ItemPost (b d o : Nat) (s : ByteArray) (p : Nat → Bool) (r : Bool × UInt8 × UInt8 × Nat) (w : World) (e : Ending) (w' : World) : Prop :=
  e = .returned (.bool r.1) ∧ Rd w' b s r.2.2.2 ∧ BsAt w' d o (if r.1 then fun x => p x || inR r.2.1.toNat r.2.2.1.toNat x else p) ∧ On2 w w' b d ∧ KeepsB w w' d o
theorem item_any (b d o k : Nat) (s : ByteArray) (p : Nat → Bool) (w : World) (h : Rd w b s k) (hk : k ≤ s.size) (hs : s.size ≤ 1000000) (hB : BsAt w d o p) (hne : d ≠ b) :
    Calls Try.prog 74 #[.pointer (some ⟨b, 0, none⟩), .pointer (some ⟨d, o, none⟩)] w (ItemPost b d o s p (itemS s.data.toList k) w) := by
  have hlen : s.data.toList.length = s.size := by simp
  have CL := Lib.hid (fun (k : Nat) W (h : Rd W b s k) (hk : k ≤ s.size) => letter_any b s ⟨#[93, 92, 45, 94]⟩ ⟨#[92, 46, 91, 93, 40, 41, 124, 42, 43, 63, 45, 94]⟩ k W h hk hs)
  have CT := Lib.hid (fun (k : Nat) W (h : Rd W b s k) (hk : k ≤ s.size) => take_any b s k 45 W h hk hs)
  have CA := Lib.hid (fun (c e : UInt8) W (q : Nat → Bool) (h : BsAt W d o q) => add_any d o q c.toNat e.toNat W h c.toNat_lt e.toNat_lt)
  have C1 := Lib.hid (CL.out k w h hk)
  have hle := letterS_le s.data.toList sbL sqL k (by rw [hlen]; exact hk)
  obtain ⟨R, hR⟩ : ∃ R, itemS s.data.toList k = R := ⟨_, rfl⟩
  rw [hR]
  unfold itemS at hR
  obtain ⟨r, hr⟩ : ∃ r, letterS s.data.toList sbL sqL k = r := ⟨_, rfl⟩
  rw [hr] at hle hR
  rw [hlen] at hle
  have C2 : Hid (Calls Try.prog 25 #[.pointer (some ⟨b, 0, none⟩), .string ⟨#[93, 92, 45, 94]⟩, .string ⟨#[92, 46, 91, 93, 40, 41, 124, 42, 43, 63, 45, 94]⟩] w (LetterPost b s r w)) := Lib.hid (by rw [← hr]; exact C1.out)
  have HB := Lib.hid hB
  clear hr C1 hB h
  obtain ⟨ok, c, k1⟩ := r
  simp only at hR hle
  have HR := Lib.hid hR
  clear hR
  cases ok
  · have H : Hid (R = (false, 0, 0, k1)) := Lib.hid (by rw [← HR.out]; rfl)
    go_enter Try.func74, Try.ntmps74
    go_wp2_with fail
    refine C2.out.mono ?_
    rintro e w1 ⟨rfl, hr1, ho1⟩
    obtain ⟨c0, c1, f0, f1⟩ := hr1.facts
    have HR1 := Lib.hid hr1
    clear hr1
    go_wp2_with fail
    go_quiet (fail)
    go_wp2
    go_ret
    exact ⟨by rw [H.out]; rfl, by rw [H.out]; exact HR1.out.drewN _, by rw [H.out]; exact HB.out.only (ho1.drewN _) hne, ((On2.refl w b d).l ho1).drewN _, (KeepsB.refl w d o).only (ho1.drewN _) HB.out.lt hne⟩
  have HT : Hid (R = if isAt s.data.toList k1 45 then (if (letterS s.data.toList sbL sqL (k1 + 1)).1 then (if (letterS s.data.toList sbL sqL (k1 + 1)).2.1.toNat < c.toNat then (false, 0, 0, k1 + 1) else (true, c, (letterS s.data.toList sbL sqL (k1 + 1)).2.1, (letterS s.data.toList sbL sqL (k1 + 1)).2.2)) else (false, 0, 0, (letterS s.data.toList sbL sqL (k1 + 1)).2.2)) else (true, c, c, k1)) := Lib.hid (by rw [← HR.out]; rfl)
  clear HR
  obtain ⟨tk, htk⟩ : ∃ tk, isAt s.data.toList k1 45 = tk := ⟨_, rfl⟩
  have htl : tk = true → k1 < s.size := fun e => by
    have := (List.getElem?_eq_some_iff.1 (of_decide_eq_true (htk.trans e))).1
    omega
  have CT1 : Hid (∀ W, Rd W b s k1 → Calls Try.prog 42 #[.pointer (some ⟨b, 0, none⟩), .int .u8 45] W fun e w' => e = .returned (.bool tk) ∧ Rd w' b s (if tk then k1 + 1 else k1) ∧ Only W w' b) := Lib.hid (by
    rw [← htk]; exact fun W h => CT.out k1 W h hle.1)
  rw [htk] at HT
  clear htk CT
  have hcc : ¬ c.toNat < c.toNat := by omega
  cases tk
  · have H : Hid (R = (true, c, c, k1)) := Lib.hid (by rw [HT.out]; rfl)
    go_enter Try.func74, Try.ntmps74
    go_wp2_with fail
    refine C2.out.mono ?_
    rintro e w1 ⟨rfl, hr1, ho1⟩
    obtain ⟨c0, c1, f0, f1⟩ := hr1.facts
    have HR1 := Lib.hid hr1
    have HB1 := Lib.hid (HB.out.only ho1 hne)
    have HO1 := Lib.hid ((On2.refl w b d).l ho1)
    have HK1 := Lib.hid ((KeepsB.refl w d o).only ho1 HB.out.lt hne)
    clear hr1 ho1
    go_wp2_with fail
    go_quiet (fail)
    go_wp2_with fail
    refine (CT1.out _ (HR1.out.drewN _)).mono ?_
    rintro e w2 ⟨rfl, hr2, ho2⟩
    have HB2 := Lib.hid (HB1.out.only (W := w1) ((Only.refl w1 b).drewN _ |>.trans ho2) hne)
    have HO2 := Lib.hid ((HO1.out.drewN _).l ho2)
    have HK2 := Lib.hid (HK1.out.only ((Only.refl w1 b).drewN _ |>.trans ho2) HB1.out.lt hne)
    go_wp2_with fail
    refine (CA.out c c _ p HB2.out).mono ?_
    rintro e w3 ⟨rfl, hb3, ho3, hk3⟩
    go_wp2
    go_ret
    exact ⟨by rw [H.out]; rfl, by rw [H.out]; exact hr2.only ho3 (Ne.symm hne), by rw [H.out]; exact hb3, HO2.out.r ho3, HK2.out.trans hk3⟩
  · have hk1 := htl rfl
    have hle2 := letterS_le s.data.toList sbL sqL (k1 + 1) (by rw [hlen]; omega)
    rw [hlen] at hle2
    have C3 := Lib.hid (fun W (h : Rd W b s (k1 + 1)) => CL.out (k1 + 1) W h (by omega))
    obtain ⟨q, hq⟩ : ∃ q, letterS s.data.toList sbL sqL (k1 + 1) = q := ⟨_, rfl⟩
    rw [hq] at HT hle2
    have C4 : Hid (∀ W, Rd W b s (k1 + 1) → Calls Try.prog 25 #[.pointer (some ⟨b, 0, none⟩), .string ⟨#[93, 92, 45, 94]⟩, .string ⟨#[92, 46, 91, 93, 40, 41, 124, 42, 43, 63, 45, 94]⟩] W (LetterPost b s q W)) := Lib.hid (by rw [← hq]; exact C3.out)
    clear hq C3 CL
    obtain ⟨ok2, c2, k2⟩ := q
    simp only at HT hle2
    have HT2 : Hid (R = if ok2 then (if c2.toNat < c.toNat then (false, 0, 0, k1 + 1) else (true, c, c2, k2)) else (false, 0, 0, k2)) := Lib.hid (by rw [HT.out]; rfl)
    clear HT
    go_enter Try.func74, Try.ntmps74
    go_wp2_with fail
    refine C2.out.mono ?_
    rintro e w1 ⟨rfl, hr1, ho1⟩
    obtain ⟨c0, c1, f0, f1⟩ := hr1.facts
    have HR1 := Lib.hid hr1
    have HB1 := Lib.hid (HB.out.only ho1 hne)
    have HO1 := Lib.hid ((On2.refl w b d).l ho1)
    have HK1 := Lib.hid ((KeepsB.refl w d o).only ho1 HB.out.lt hne)
    clear hr1 ho1
    go_wp2_with fail
    go_quiet (fail)
    go_wp2_with fail
    refine (CT1.out _ (HR1.out.drewN _)).mono ?_
    rintro e w2 ⟨rfl, hr2, ho2⟩
    have HB2 := Lib.hid (HB1.out.only (W := w1) ((Only.refl w1 b).drewN _ |>.trans ho2) hne)
    have HO2 := Lib.hid ((HO1.out.drewN _).l ho2)
    have HK2 := Lib.hid (HK1.out.only ((Only.refl w1 b).drewN _ |>.trans ho2) HB1.out.lt hne)
    have HR2 : Hid (Rd w2 b s (k1 + 1)) := Lib.hid hr2
    clear hr2 ho2 c0 c1 f0 f1
    obtain ⟨c0, c1, f0, f1⟩ := HR2.out.facts
    go_wp2_with fail
    refine (C4.out _ HR2.out).mono ?_
    rintro e w3 ⟨rfl, hr3, ho3⟩
    have HB3 := Lib.hid (HB2.out.only ho3 hne)
    have HO3 := Lib.hid (HO2.out.l ho3)
    have HK3 := Lib.hid (HK2.out.only ho3 HB2.out.lt hne)
    have HR3 : Hid (Rd w3 b s k2) := Lib.hid hr3
    clear hr3 ho3 c0 c1 f0 f1
    obtain ⟨c0, c1, f0, f1⟩ := HR3.out.facts
    cases ok2
    · have H : Hid (R = (false, 0, 0, k2)) := Lib.hid (by rw [HT2.out]; rfl)
      go_wp2
      go_ret
      exact ⟨by rw [H.out]; rfl, by rw [H.out]; exact HR3.out, by rw [H.out]; exact HB3.out, HO3.out, HK3.out⟩
    by_cases hlt : c2.toNat < c.toNat
    · have H : Hid (R = (false, 0, 0, k1 + 1)) := Lib.hid (by rw [HT2.out, if_pos rfl, if_pos hlt])
      go_wp2
      go_ret
      exact ⟨by rw [H.out]; rfl, by rw [H.out]; exact HR3.out.set (k1 + 1), by rw [H.out]; exact HB3.out.only ((Only.refl w3 b).setCell (by rfl) _) hne, HO3.out.l ((Only.refl w3 b).setCell (by rfl) _), HK3.out.only ((Only.refl w3 b).setCell (by rfl) _) HB3.out.lt hne⟩
    · have H : Hid (R = (true, c, c2, k2)) := Lib.hid (by rw [HT2.out, if_pos rfl, if_neg hlt])
      go_wp2_with fail
      refine (CA.out c c2 _ p HB3.out).mono ?_
      rintro e w4 ⟨rfl, hb4, ho4, hk4⟩
      go_wp2
      go_ret
      exact ⟨by rw [H.out]; rfl, by rw [H.out]; exact HR3.out.only ho4 (Ne.symm hne), by rw [H.out]; exact hb4, HO3.out.r ho4, HK3.out.trans hk4⟩
end Go.Proofs.Ytnlfndhgdeapeaa
