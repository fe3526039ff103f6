/- set: the bytes between brackets. -/
import Derived.Test.YtnlfndhgdeapeaaItem
import Derived.Test.YtnlfndhgdeapeaaOthers
import Derived.Test.YtnlfndhgdeapeaaLit
import Derived.Deep.LoopGhost
namespace Go.Proofs.Ytnlfndhgdeapeaa
open Go.RowKit
set_option maxRecDepth 100000
set_option maxHeartbeats 4000000

theorem itemS_le {s : List UInt8} {k : Nat} (h : k ≤ s.length) : (itemS s k).2.2.2 ≤ s.length ∧ ((itemS s k).1 = true → k < (itemS s k).2.2.2) := by
  have h1 := letterS_le s sbL sqL k h
  have h2 := letter_on (s := s) (a := sbL) (b := sqL) (k := k)
  unfold itemS
  obtain ⟨r, hr⟩ : ∃ r, letterS s sbL sqL k = r := ⟨_, rfl⟩
  rw [hr] at h1 h2 ⊢
  obtain ⟨ok, c, k1⟩ := r
  simp only at h1 h2 ⊢
  cases ok
  · exact ⟨h1.1, fun e => by cases e⟩
  have h2' := h2 rfl
  simp only [if_true]
  cases ht : isAt s k1 45
  · exact ⟨h1.1, fun _ => h2'⟩
  have hk1 : k1 < s.length := (List.getElem?_eq_some_iff.1 (of_decide_eq_true ht)).1
  have h3 := letterS_le s sbL sqL (k1 + 1) (by omega)
  simp only [if_true]
  obtain ⟨q, hq⟩ : ∃ q, letterS s sbL sqL (k1 + 1) = q := ⟨_, rfl⟩
  rw [hq] at h3 ⊢
  obtain ⟨ok2, c2, k2⟩ := q
  simp only at h3 ⊢
  cases ok2
  · exact ⟨h3.1, fun e => by cases e⟩
  simp only [if_true]
  split
  · exact ⟨by show k1 + 1 ≤ _; omega, fun e => by cases e⟩
  · exact ⟨h3.1, fun _ => by show k < k2; omega⟩
def setF (s : List UInt8) : Nat → Nat → (Nat → Bool) → Bool × (Nat → Bool) × Nat
  | 0, k, p => (false, p, k)
  | f + 1, k, p => if isAt s k 93 then (true, p, k + 1) else if (itemS s k).1 then setF s f (itemS s k).2.2.2 (fun x => p x || inR (itemS s k).2.1.toNat (itemS s k).2.2.1.toNat x) else (false, p, (itemS s k).2.2.2)
theorem setF_s (s : List UInt8) (f k : Nat) (p : Nat → Bool) : setF s (f + 1) k p = if isAt s k 93 then (true, p, k + 1) else if (itemS s k).1 then setF s f (itemS s k).2.2.2 (fun x => p x || inR (itemS s k).2.1.toNat (itemS s k).2.2.1.toNat x) else (false, p, (itemS s k).2.2.2) := rfl
/-- behind the opening bracket: is there a set, which, and the place behind it -/
def setS (s : List UInt8) (k : Nat) : Bool × (Nat → Bool) × Nat :=
  let k1 := if isAt s k 94 then k + 1 else k
  let r := itemS s k1
  if r.1 then
    let q := setF s (s.length + 1) r.2.2.2 (fun x => false || inR r.2.1.toNat r.2.2.1.toNat x)
    (q.1, (if isAt s k 94 then fun x => !q.2.1 x else q.2.1), q.2.2)
  else (false, fun _ => false, r.2.2.2)
/-- a node of one byte -/
def LeafV (v : Value) (p : Nat → Bool) : Prop := ∃ u0 u1 u2 u3 : Nat, v = .agg #[.int .i64 0, .int .u64 u0, .int .u64 u1, .int .u64 u2, .int .u64 u3, .slice none 0 0] ∧ Wd64 u0 p 0 ∧ Wd64 u1 p 1 ∧ Wd64 u2 p 2 ∧ Wd64 u3 p 3
def zeroN : Value := .agg #[.int .i64 0, .int .u64 0, .int .u64 0, .int .u64 0, .int .u64 0, .slice none 0 0]
def SetPPost (b : Nat) (s : ByteArray) (r : Bool × (Nat → Bool) × Nat) (w : World) (e : Ending) (w' : World) : Prop :=
  Rd w' b s r.2.2 ∧ Only w w' b ∧ ∃ v, e = .returned (.tuple #[v, .bool r.1]) ∧ (r.1 = true → LeafV v r.2.1) ∧ (r.1 = false → v = zeroN)
/-- six cells that may be written -/
def Six (W : World) (b : Nat) : Prop := ∀ i, i < 6 → (W.cell? ⟨b, i, none⟩).isSome = true ∧ W.frozen? ⟨b, i, none⟩ = false
theorem Six.on2 {W W' : World} {b d e : Nat} (h : Six W b) (g : On2 W W' d e) (h1 : b ≠ d) (h2 : b ≠ e) : Six W' b := fun i hi => by
  have hlt : b < W.heap.size := by
    obtain ⟨u, hu⟩ := Option.isSome_iff_exists.1 (h 0 (by omega)).1
    exact World.block_lt_of_cell? W _ hu
  have hb := g.block b hlt h1 h2
  exact ⟨by rw [World.cell?_of_block (a := ⟨b, i, none⟩) hb]; exact (h i hi).1, by rw [World.frozen?_of_block (a := ⟨b, i, none⟩) hb]; exact (h i hi).2⟩
theorem On2.of_r {w w' : World} {b d : Nat} (h : Only w w' b) : On2 w w' b d := (On2.refl w b d).l h
/-- what holds on the way: X: the world behind both new blocks -/
structure SetSt (b N : Nat) (s : ByteArray) (X W : World) (k : Nat) (p : Nat → Bool) : Prop where
  r : Rd W b s k
  p : BsAt W (N + 1) 1 p
  k : KeepsB X W (N + 1) 1
  x : Six W N
  o : On2 X W b (N + 1)
theorem SetSt.take {b N : Nat} {s : ByteArray} {X W W' : World} {k k' : Nat} {p : Nat → Bool} (h : SetSt b N s X W k p) (hb : b < N) (g : Only W W' b) (r : Rd W' b s k') : SetSt b N s X W' k' p :=
  ⟨r, h.p.only g (by omega), h.k.only g h.p.lt (by omega), h.x.on2 (On2.of_r (d := N + 1) g) (by omega) (by omega), h.o.l g⟩
theorem SetSt.item {b N : Nat} {s : ByteArray} {X W W' : World} {k k' : Nat} {p q : Nat → Bool} (h : SetSt b N s X W k p) (hb : b < N) (r : Rd W' b s k') (hp : BsAt W' (N + 1) 1 q) (g : On2 W W' b (N + 1)) (hk : KeepsB W W' (N + 1) 1) : SetSt b N s X W' k' q :=
  ⟨r, hp, h.k.trans hk, h.x.on2 g (by omega) (by omega), h.o.trans g⟩
theorem On2.only {w X W : World} {b : Nat} (g : Gr w X) (h : On2 X W b (w.heap.size + 1)) : Only w W b :=
  ⟨h.os.trans g.b.os, h.tape.trans g.b.tape, h.output.trans g.b.output, Nat.le_trans g.b.size h.size, fun i hi hne => (h.block i (Nat.lt_of_lt_of_le hi g.b.size) (fun e => hne (by rw [e])) (by omega)).trans (g.b.block i hi)⟩
theorem set_start (b k : Nat) (s : ByteArray) (w : World) (h : Rd w b s k) (X : World) (hX : X = (w.alloc (.cells #[.int .i64 0, .int .u64 0, .int .u64 0, .int .u64 0, .int .u64 0, .slice none 0 0] 57)).alloc (.cells #[.int .i64 0, .int .u64 0, .int .u64 0, .int .u64 0, .int .u64 0, .slice none 0 0] 57)) :
    SetSt b w.heap.size s X X k (fun _ => false) ∧ X.cell? ⟨w.heap.size + 1, 0, none⟩ = some (.int .i64 0) ∧ X.cell? ⟨w.heap.size + 1, 5, none⟩ = some (.slice none 0 0) ∧ Gr w X := by
  subst hX
  refine ⟨⟨h.gr (((Gr.refl w).alloc _ _).alloc _ _), fun i hi => ?_, KeepsB.refl _ _ _, fun i hi => ?_, On2.refl _ _ _⟩, by go_simp, by go_simp, ((Gr.refl w).alloc _ _).alloc _ _⟩
  · have e : Wd64 0 (fun _ => false) i := ⟨by omega, fun j _ => by simp⟩
    match i, hi with
    | 0, _ => exact ⟨0, by go_simp, by go_simp, e⟩
    | 1, _ => exact ⟨0, by go_simp, by go_simp, e⟩
    | 2, _ => exact ⟨0, by go_simp, by go_simp, e⟩
    | 3, _ => exact ⟨0, by go_simp, by go_simp, e⟩
  · match i, hi with
    | 0, _ => exact ⟨by go_simp, by go_simp⟩
    | 1, _ => exact ⟨by go_simp, by go_simp⟩
    | 2, _ => exact ⟨by go_simp, by go_simp⟩
    | 3, _ => exact ⟨by go_simp, by go_simp⟩
    | 4, _ => exact ⟨by go_simp, by go_simp⟩
    | 5, _ => exact ⟨by go_simp, by go_simp⟩
/-- the result's six cells, written -/
theorem Only.six {w W : World} {b : Nat} (h : Only w W b) (v0 v1 v2 v3 v4 v5 : Value) : Only w ((((((W.setCell ⟨w.heap.size, 0, none⟩ v0).setCell ⟨w.heap.size, 1, none⟩ v1).setCell ⟨w.heap.size, 2, none⟩ v2).setCell ⟨w.heap.size, 3, none⟩ v3).setCell ⟨w.heap.size, 4, none⟩ v4).setCell ⟨w.heap.size, 5, none⟩ v5) b := by
  have key : ∀ (W : World) (o : Nat) (v : Value), Only w W b → Only w (W.setCell ⟨w.heap.size, o, none⟩ v) b := fun W o v h =>
    ⟨h.os, h.tape, h.output, by simpa [World.setCell] using h.size, fun i hi hne => (Below.heap_setCell W _ _ i (by
      show i ≠ w.heap.size
      omega)).trans (h.block i hi hne)⟩
  exact key _ _ _ (key _ _ _ (key _ _ _ (key _ _ _ (key _ _ _ (key _ _ _ h)))))
theorem Rd.six {W : World} {b N : Nat} {s : ByteArray} {k : Nat} (h : Rd W b s k) (hb : b < N) (v0 v1 v2 v3 v4 v5 : Value) : Rd ((((((W.setCell ⟨N, 0, none⟩ v0).setCell ⟨N, 1, none⟩ v1).setCell ⟨N, 2, none⟩ v2).setCell ⟨N, 3, none⟩ v3).setCell ⟨N, 4, none⟩ v4).setCell ⟨N, 5, none⟩ v5) b s k := by
  have key : ∀ (W : World) (o : Nat) (v : Value), Rd W b s k → Rd (W.setCell ⟨N, o, none⟩ v) b s k := fun W o v h =>
    (Below.heap_setCell W _ _ b (by show b ≠ N; omega)).trans h
  exact key _ _ _ (key _ _ _ (key _ _ _ (key _ _ _ (key _ _ _ (key _ _ _ h)))))
theorem st_no {b k : Nat} {s : ByteArray} {w X W : World} {p q : Nat → Bool} {R : Bool × (Nat → Bool) × Nat} (v0 v1 v2 v3 v4 v5 : Value) (hb : b < w.heap.size) (H : R = (false, q, k)) (hg : Gr w X) (h : SetSt b w.heap.size s X W k p) :
    SetPPost b s R w (.returned (.tuple #[zeroN, .bool false])) ((((((W.setCell ⟨w.heap.size, 0, none⟩ v0).setCell ⟨w.heap.size, 1, none⟩ v1).setCell ⟨w.heap.size, 2, none⟩ v2).setCell ⟨w.heap.size, 3, none⟩ v3).setCell ⟨w.heap.size, 4, none⟩ v4).setCell ⟨w.heap.size, 5, none⟩ v5) := by
  subst H
  exact ⟨h.r.six hb _ _ _ _ _ _, (h.o.only hg).six _ _ _ _ _ _, zeroN, rfl, fun e => absurd e (by simp), fun _ => rfl⟩
theorem st_yes {b k : Nat} {s : ByteArray} {w X W : World} {p q : Nat → Bool} {v : Value} {R : Bool × (Nat → Bool) × Nat} (v0 v1 v2 v3 v4 v5 : Value) (hb : b < w.heap.size) (H : R = (true, q, k)) (hg : Gr w X) (h : SetSt b w.heap.size s X W k p) (hv : LeafV v q) :
    SetPPost b s R w (.returned (.tuple #[v, .bool true])) ((((((W.setCell ⟨w.heap.size, 0, none⟩ v0).setCell ⟨w.heap.size, 1, none⟩ v1).setCell ⟨w.heap.size, 2, none⟩ v2).setCell ⟨w.heap.size, 3, none⟩ v3).setCell ⟨w.heap.size, 4, none⟩ v4).setCell ⟨w.heap.size, 5, none⟩ v5) := by
  subst H
  exact ⟨h.r.six hb _ _ _ _ _ _, (h.o.only hg).six _ _ _ _ _ _, v, rfl, fun _ => hv, fun e => absurd e (by simp)⟩
theorem st_yes2 {b k : Nat} {s : ByteArray} {w X W : World} {q : Nat → Bool} {v : Value} {R : Bool × (Nat → Bool) × Nat} (v0 v1 v2 v3 v4 v5 : Value) (hb : b < w.heap.size) (H : R = (true, q, k)) (hg : Gr w X) (hr : Rd W b s k) (ho : On2 X W b (w.heap.size + 1)) (hv : LeafV v q) :
    SetPPost b s R w (.returned (.tuple #[v, .bool true])) ((((((W.setCell ⟨w.heap.size, 0, none⟩ v0).setCell ⟨w.heap.size, 1, none⟩ v1).setCell ⟨w.heap.size, 2, none⟩ v2).setCell ⟨w.heap.size, 3, none⟩ v3).setCell ⟨w.heap.size, 4, none⟩ v4).setCell ⟨w.heap.size, 5, none⟩ v5) := by
  subst H
  exact ⟨hr.six hb _ _ _ _ _ _, (ho.only hg).six _ _ _ _ _ _, v, rfl, fun _ => hv, fun e => absurd e (by simp)⟩
theorem Rd.four {W : World} {b N : Nat} {s : ByteArray} {k : Nat} (h : Rd W b s k) (hb : b < N) (v0 v1 v2 v3 : Value) : Rd ((((W.setCell ⟨N, 1, none⟩ v0).setCell ⟨N, 2, none⟩ v1).setCell ⟨N, 3, none⟩ v2).setCell ⟨N, 4, none⟩ v3) b s k := by
  have key : ∀ (W : World) (o : Nat) (v : Value), Rd W b s k → Rd (W.setCell ⟨N, o, none⟩ v) b s k := fun W o v h =>
    (Below.heap_setCell W _ _ b (by show b ≠ N; omega)).trans h
  exact key _ _ _ (key _ _ _ (key _ _ _ (key _ _ _ h)))
theorem set_any (b k : Nat) (s : ByteArray) (w : World) (h : Rd w b s k) (hk : k ≤ s.size) (hs : s.size ≤ 1000000) :
    Calls Try.prog 70 #[.pointer (some ⟨b, 0, none⟩)] w (SetPPost b s (setS s.data.toList k) w) := by
  have hlen : s.data.toList.length = s.size := by simp
  have HL := Lib.hid hlen
  have hbN := h.lt
  obtain ⟨X, hX⟩ : ∃ X, X = (w.alloc (.cells #[.int .i64 0, .int .u64 0, .int .u64 0, .int .u64 0, .int .u64 0, .slice none 0 0] 57)).alloc (.cells #[.int .i64 0, .int .u64 0, .int .u64 0, .int .u64 0, .int .u64 0, .slice none 0 0] 57) := ⟨_, rfl⟩
  obtain ⟨hst, hx0, hx5, hgX⟩ := set_start b k s w h X hX
  have CT := Lib.hid (fun (c : UInt8) (k : Nat) W (h : Rd W b s k) (hk : k ≤ s.size) => take_any b s k c W h hk hs)
  have CI := Lib.hid (fun (k : Nat) W p (h : Rd W b s k) (hk : k ≤ s.size) (hB : BsAt W (w.heap.size + 1) 1 p) => item_any b (w.heap.size + 1) 1 k s p W h hk hs hB (by omega))
  have HST := Lib.hid hst
  have HX := Lib.hid (And.intro hx0 (And.intro hx5 hgX))
  clear hst hx0 hx5 hgX h
  obtain ⟨R, hR⟩ : ∃ R, setS s.data.toList k = R := ⟨_, rfl⟩
  rw [hR]
  have HR := Lib.hid hR
  clear hR
  obtain ⟨wo, hwo⟩ : ∃ wo, isAt s.data.toList k 94 = wo := ⟨_, rfl⟩
  have hwl : wo = true → k < s.size := fun e => by
    have := (List.getElem?_eq_some_iff.1 (of_decide_eq_true (hwo.trans e))).1
    omega
  have C1 := Lib.hid (CT.out 94 k X HST.out.r hk)
  unfold TakePost at C1
  rw [hwo] at C1
  have HWO := Lib.hid hwo
  clear hwo
  go_enter Try.func70, Try.ntmps70
  go_wp2_with fail
  rw [← hX]
  refine C1.out.mono ?_
  rintro e w1 ⟨rfl, hr1, ho1⟩
  obtain ⟨k1, hk1⟩ : ∃ k1, (if wo then k + 1 else k) = k1 := ⟨_, rfl⟩
  have hk1s : k1 ≤ s.size := by
    rw [← hk1]
    cases wo
    · exact hk
    · exact hwl rfl
  rw [hk1] at hr1
  have HS1 := Lib.hid (HST.out.take hbN ho1 hr1)
  have C2 := Lib.hid (CI.out k1 w1 _ HS1.out.r hk1s HS1.out.p)
  have hit := itemS_le (s := s.data.toList) (k := k1) (by rw [hlen]; exact hk1s)
  rw [hlen] at hit
  have hR2 := HR.out
  unfold setS at hR2
  simp only at hR2
  rw [HWO.out] at hR2
  rw [hk1] at hR2
  obtain ⟨r, hr⟩ : ∃ r, itemS s.data.toList k1 = r := ⟨_, rfl⟩
  rw [hr] at hR2 C2 hit
  have HR3 := Lib.hid hR2
  clear HR hR2
  clear hr hr1 ho1 C1 hk1 HST
  obtain ⟨ok, c, d, k2⟩ := r
  unfold ItemPost at C2
  simp only at HR3 C2 hit
  have hres : Try.f70.results = #[.cell 2 57, .tmp 3] := by kernel_rfl
  cases ok
  · have H : Hid (R = (false, fun _ => false, k2)) := Lib.hid (by rw [← HR3.out]; rfl)
    clear HR3
    go_wp2_with fail
    refine C2.out.mono ?_
    rintro e w2 ⟨rfl, hr2, hb2, ho2, hk2⟩
    have HQ := Lib.hid (HS1.out.item hbN hr2 hb2 ho2 hk2)
    clear hr2 hb2 ho2 hk2
    obtain ⟨y0, e0⟩ := Option.isSome_iff_exists.1 (HQ.out.x 0 (by omega)).1
    obtain ⟨y1, e1⟩ := Option.isSome_iff_exists.1 (HQ.out.x 1 (by omega)).1
    obtain ⟨y2, e2⟩ := Option.isSome_iff_exists.1 (HQ.out.x 2 (by omega)).1
    obtain ⟨y3, e3⟩ := Option.isSome_iff_exists.1 (HQ.out.x 3 (by omega)).1
    obtain ⟨y4, e4⟩ := Option.isSome_iff_exists.1 (HQ.out.x 4 (by omega)).1
    obtain ⟨y5, e5⟩ := Option.isSome_iff_exists.1 (HQ.out.x 5 (by omega)).1
    have f0 := (HQ.out.x 0 (by omega)).2
    have f1 := (HQ.out.x 1 (by omega)).2
    have f2 := (HQ.out.x 2 (by omega)).2
    have f3 := (HQ.out.x 3 (by omega)).2
    have f4 := (HQ.out.x 4 (by omega)).2
    have f5 := (HQ.out.x 5 (by omega)).2
    go_wp2
    refine bodyPost_ret (v := .tuple #[zeroN, .bool false]) ?_ rfl ?_
    · simp only [results, hres]
      go_simp
      rfl
    exact st_no _ _ _ _ _ _ hbN H.out HX.out.2.2 HQ.out
  have HR4 : Hid (R = ((setF s.data.toList (s.size + 1) k2 (fun x => false || inR c.toNat d.toNat x)).1, (if wo then fun x => !(setF s.data.toList (s.size + 1) k2 (fun x => false || inR c.toNat d.toNat x)).2.1 x else (setF s.data.toList (s.size + 1) k2 (fun x => false || inR c.toNat d.toNat x)).2.1), (setF s.data.toList (s.size + 1) k2 (fun x => false || inR c.toNat d.toNat x)).2.2)) := Lib.hid (by rw [← HR3.out, hlen]; rfl)
  clear HR3
  obtain ⟨Q, hQ⟩ : ∃ Q, setF s.data.toList (s.size + 1) k2 (fun x => false || inR c.toNat d.toNat x) = Q := ⟨_, rfl⟩
  rw [hQ] at HR4
  have HQF := Lib.hid hQ
  have hk2 : k2 ≤ s.size := hit.1
  clear hQ hit
  go_wp2_with fail
  refine C2.out.mono ?_
  rintro e w2 ⟨rfl, hr2, hb2, ho2, hkk2⟩
  have HS2 := Lib.hid (HS1.out.item hbN hr2 hb2 ho2 hkk2)
  clear hr2 hb2 ho2 hkk2 C2 HS1
  go_wp2
  go_loopg [] (s.size + 1) (fun g wx => ∃ (k : Nat) (p : Nat → Bool), k ≤ s.size ∧ s.size + 1 ≤ k + g ∧ Hid (SetSt b w.heap.size s X wx k p) ∧ Hid (setF s.data.toList g k p = Q))
  case atStart => exact ⟨k2, _, hk2, by omega, HS2, HQF⟩
  case round =>
    clear HS2 HQF
    obtain ⟨k, p, hk, hf, HS, HF⟩ := hrel
    cases gk with
    | zero => omega
    | succ f =>
      have hF := HF.out
      rw [setF_s] at hF
      have C3 := Lib.hid (CT.out 93 k wr HS.out.r hk)
      unfold TakePost at C3
      obtain ⟨tk, htk⟩ : ∃ tk, isAt s.data.toList k 93 = tk := ⟨_, rfl⟩
      rw [htk] at C3 hF
      have htl : tk = true → k < s.size := fun e => by
        have := (List.getElem?_eq_some_iff.1 (of_decide_eq_true (htk.trans e))).1
        omega
      clear htk
      have HF2 := Lib.hid hF
      clear hF HF
      cases tk
      · have hit := itemS_le (s := s.data.toList) (k := k) (by rw [hlen]; exact hk)
        rw [hlen] at hit
        go_wp2_with fail
        refine C3.out.mono ?_
        rintro e w3 ⟨rfl, hr3, ho3⟩
        have HS3 : Hid (SetSt b w.heap.size s X w3 k p) := Lib.hid (HS.out.take hbN ho3 hr3)
        clear hr3 ho3
        have C4 := Lib.hid (CI.out k w3 _ HS3.out.r hk HS3.out.p)
        obtain ⟨r, hr⟩ : ∃ r, itemS s.data.toList k = r := ⟨_, rfl⟩
        rw [hr] at C4 hit HF2
        clear hr
        obtain ⟨ok, c', d', k'⟩ := r
        unfold ItemPost at C4
        simp only at C4 hit HF2
        cases ok
        · have H : Hid (R = (false, R.2.1, k')) := Lib.hid (by rw [HR4.out, ← HF2.out]; rfl)
          go_wp2_with fail
          refine C4.out.mono ?_
          rintro e w4 ⟨rfl, hr4, hb4, ho4, hk4⟩
          have HQ := Lib.hid (HS3.out.item hbN hr4 hb4 ho4 hk4)
          clear hr4 hb4 ho4 hk4
          obtain ⟨y0, e0⟩ := Option.isSome_iff_exists.1 (HQ.out.x 0 (by omega)).1
          obtain ⟨y1, e1⟩ := Option.isSome_iff_exists.1 (HQ.out.x 1 (by omega)).1
          obtain ⟨y2, e2⟩ := Option.isSome_iff_exists.1 (HQ.out.x 2 (by omega)).1
          obtain ⟨y3, e3⟩ := Option.isSome_iff_exists.1 (HQ.out.x 3 (by omega)).1
          obtain ⟨y4, e4⟩ := Option.isSome_iff_exists.1 (HQ.out.x 4 (by omega)).1
          obtain ⟨y5, e5⟩ := Option.isSome_iff_exists.1 (HQ.out.x 5 (by omega)).1
          have f0 := (HQ.out.x 0 (by omega)).2
          have f1 := (HQ.out.x 1 (by omega)).2
          have f2 := (HQ.out.x 2 (by omega)).2
          have f3 := (HQ.out.x 3 (by omega)).2
          have f4 := (HQ.out.x 4 (by omega)).2
          have f5 := (HQ.out.x 5 (by omega)).2
          go_wp2
          refine bodyPost_ret (v := .tuple #[zeroN, .bool false]) ?_ rfl ?_
          · simp only [results, hres]
            go_simp
            rfl
          exact st_no _ _ _ _ _ _ hbN H.out HX.out.2.2 HQ.out
        · have hit2 := hit.2 rfl
          have H : Hid (setF s.data.toList f k' (fun x => p x || inR c'.toNat d'.toNat x) = Q) := Lib.hid (by rw [← HF2.out]; rfl)
          go_wp2_with fail
          refine C4.out.mono ?_
          rintro e w4 ⟨rfl, hr4, hb4, ho4, hk4⟩
          have HQ := Lib.hid (HS3.out.item hbN hr4 hb4 ho4 hk4)
          clear hr4 hb4 ho4 hk4
          go_wp2
          go_roundg f
          case measure => omega
          case rel => exact ⟨k', _, hit.1, by omega, HQ, H⟩
      · have htl' := htl rfl
        have H : Hid (Q = (true, p, k + 1)) := Lib.hid (by rw [← HF2.out]; rfl)
        go_wp2_with fail
        refine C3.out.mono ?_
        rintro e w3 ⟨rfl, hr3, ho3⟩
        have HQ : Hid (SetSt b w.heap.size s X w3 (k + 1) p) := Lib.hid (HS.out.take hbN ho3 hr3)
        clear hr3 ho3
        cases wo
        · have H2 : Hid (R = (true, p, k + 1)) := Lib.hid (by rw [HR4.out, H.out]; rfl)
          have n0 := (HQ.out.k 0 (Or.inl (by omega))).1.trans HX.out.1
          have n5 := (HQ.out.k 5 (Or.inr (by omega))).1.trans HX.out.2.1
          obtain ⟨a0, n1, g1, p0⟩ := HQ.out.p 0 (by omega)
          obtain ⟨a1, n2, g2, p1⟩ := HQ.out.p 1 (by omega)
          obtain ⟨a2, n3, g3, p2⟩ := HQ.out.p 2 (by omega)
          obtain ⟨a3, n4, g4, p3⟩ := HQ.out.p 3 (by omega)
          simp only [Nat.reduceAdd] at n1 n2 n3 n4 g1 g2 g3 g4
          obtain ⟨y0, e0⟩ := Option.isSome_iff_exists.1 (HQ.out.x 0 (by omega)).1
          obtain ⟨y1, e1⟩ := Option.isSome_iff_exists.1 (HQ.out.x 1 (by omega)).1
          obtain ⟨y2, e2⟩ := Option.isSome_iff_exists.1 (HQ.out.x 2 (by omega)).1
          obtain ⟨y3, e3⟩ := Option.isSome_iff_exists.1 (HQ.out.x 3 (by omega)).1
          obtain ⟨y4, e4⟩ := Option.isSome_iff_exists.1 (HQ.out.x 4 (by omega)).1
          obtain ⟨y5, e5⟩ := Option.isSome_iff_exists.1 (HQ.out.x 5 (by omega)).1
          have f0 := (HQ.out.x 0 (by omega)).2
          have f1 := (HQ.out.x 1 (by omega)).2
          have f2 := (HQ.out.x 2 (by omega)).2
          have f3 := (HQ.out.x 3 (by omega)).2
          have f4 := (HQ.out.x 4 (by omega)).2
          have f5 := (HQ.out.x 5 (by omega)).2
          go_wp2
          refine bodyPost_ret (v := .tuple #[.agg #[.int .i64 0, .int .u64 a0, .int .u64 a1, .int .u64 a2, .int .u64 a3, .slice none 0 0], .bool true]) ?_ rfl ?_
          · simp only [results, hres]
            go_simp
          exact st_yes _ _ _ _ _ _ hbN H2.out HX.out.2.2 HQ.out ⟨a0, a1, a2, a3, rfl, p0, p1, p2, p3⟩
        · have H2 : Hid (R = (true, fun x => !p x, k + 1)) := Lib.hid (by rw [HR4.out, H.out]; rfl)
          have n0 := (HQ.out.k 0 (Or.inl (by omega))).1.trans HX.out.1
          have n5 := (HQ.out.k 5 (Or.inr (by omega))).1.trans HX.out.2.1
          obtain ⟨a0, n1, g1, p0⟩ := HQ.out.p 0 (by omega)
          obtain ⟨a1, n2, g2, p1⟩ := HQ.out.p 1 (by omega)
          obtain ⟨a2, n3, g3, p2⟩ := HQ.out.p 2 (by omega)
          obtain ⟨a3, n4, g4, p3⟩ := HQ.out.p 3 (by omega)
          simp only [Nat.reduceAdd] at n1 n2 n3 n4 g1 g2 g3 g4
          have CO := Lib.hid (others_any a0 a1 a2 a3 p w3 p0 p1 p2 p3)
          go_wp2_with fail
          refine CO.out.mono ?_
          rintro e w4 ⟨⟨u0, u1, u2, u3, rfl, q0, q1, q2, q3⟩, gg⟩
          have m0 := gg.cell n0
          have m1 := gg.cell n1
          have m2 := gg.cell n2
          have m3 := gg.cell n3
          have m4 := gg.cell n4
          have m5 := gg.cell n5
          have HQ2 : Hid (SetSt b w.heap.size s X w4 (k + 1) p) := Lib.hid (HQ.out.take hbN ((Only.refl _ b).gr gg) (HQ.out.r.gr gg))
          clear n0 n1 n2 n3 n4 n5 g1 g2 g3 g4 p0 p1 p2 p3 gg
          obtain ⟨_, _, g1, _⟩ := HQ2.out.p 0 (by omega)
          obtain ⟨_, _, g2, _⟩ := HQ2.out.p 1 (by omega)
          obtain ⟨_, _, g3, _⟩ := HQ2.out.p 2 (by omega)
          obtain ⟨_, _, g4, _⟩ := HQ2.out.p 3 (by omega)
          simp only [Nat.reduceAdd] at g1 g2 g3 g4
          have HQV := Lib.hid (show LeafV (.agg #[.int .i64 0, .int .u64 u0, .int .u64 u1, .int .u64 u2, .int .u64 u3, .slice none 0 0]) (fun x => !p x) from ⟨u0, u1, u2, u3, rfl, q0, q1, q2, q3⟩)
          clear q0 q1 q2 q3
          obtain ⟨y0, e0⟩ := Option.isSome_iff_exists.1 (HQ2.out.x 0 (by omega)).1
          obtain ⟨y1, e1⟩ := Option.isSome_iff_exists.1 (HQ2.out.x 1 (by omega)).1
          obtain ⟨y2, e2⟩ := Option.isSome_iff_exists.1 (HQ2.out.x 2 (by omega)).1
          obtain ⟨y3, e3⟩ := Option.isSome_iff_exists.1 (HQ2.out.x 3 (by omega)).1
          obtain ⟨y4, e4⟩ := Option.isSome_iff_exists.1 (HQ2.out.x 4 (by omega)).1
          obtain ⟨y5, e5⟩ := Option.isSome_iff_exists.1 (HQ2.out.x 5 (by omega)).1
          have f0 := (HQ2.out.x 0 (by omega)).2
          have f1 := (HQ2.out.x 1 (by omega)).2
          have f2 := (HQ2.out.x 2 (by omega)).2
          have f3 := (HQ2.out.x 3 (by omega)).2
          have f4 := (HQ2.out.x 4 (by omega)).2
          have f5 := (HQ2.out.x 5 (by omega)).2
          go_wp2
          refine bodyPost_ret (v := .tuple #[.agg #[.int .i64 0, .int .u64 u0, .int .u64 u1, .int .u64 u2, .int .u64 u3, .slice none 0 0], .bool true]) ?_ rfl ?_
          · simp only [results, hres]
            go_simp
          exact st_yes2 _ _ _ _ _ _ hbN H2.out HX.out.2.2 (HQ2.out.r.four (by omega) _ _ _ _) (HQ2.out.o.r (((((Only.refl w4 (w.heap.size + 1)).setCell (by rfl) _).setCell (by rfl) _).setCell (by rfl) _).setCell (by rfl) _)) HQV.out
end Go.Proofs.Ytnlfndhgdeapeaa
