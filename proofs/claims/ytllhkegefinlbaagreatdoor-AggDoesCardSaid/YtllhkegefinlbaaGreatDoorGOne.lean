/- Rows of numbers in memory; sums, quotients, the least and the greatest. -/
import Derived.Test.YtllhkegefinlbaaGreatDoorGMath
import Derived.Test.YtllhkegefinlbaaGreatDoorFRef
import Derived.Deep.Cut
import Derived.Deep.CutBlock
import Derived.Deep.CutRange
namespace Go.Proofs.YtllhkegefinlbaaGreatDoor.Pt
open Go.RowKit Fv
set_option maxRecDepth 100000
set_option maxHeartbeats 4000000

/-! ### what an operation gives, and how often it asks -/
theorem nanAt_facts (w : World) (a b : Nat) : nanB (nanAt w a b) = true ∧ nanAt w a b < 2 ^ 64 := by
  have k : ∀ t : Nat, 0x7FF0000000000000 < (t % 2 * 2 ^ 63 + 0x7ff0000000000000 + 1 + t / 2 % (2 ^ 52 - 1)) % 2 ^ 63 ∧ t % 2 * 2 ^ 63 + 0x7ff0000000000000 + 1 + t / 2 % (2 ^ 52 - 1) < 2 ^ 64 := fun t => by
    have h1 : t / 2 % (2 ^ 52 - 1) < 2 ^ 52 - 1 := Nat.mod_lt _ (by decide)
    generalize t / 2 % (2 ^ 52 - 1) = r at *
    rcases (by omega : t % 2 = 0 ∨ t % 2 = 1) with h | h <;> rw [h] <;> omega
  refine ⟨?_, (k _).2⟩
  exact nanAt_nan w a b
def valO (w : World) (a b : Nat) : Option Nat → Nat
  | some r => r
  | none => nanAt w a b
def askO : Option Nat → Nat
  | some _ => 0
  | none => 1
theorem valO_canon (w : World) (a b : Nat) (o : Option Nat) : canon (valO w a b o) = canonO o := by
  cases o with
  | none => exact nanAt_canon w a b
  | some r => rfl
def addV (w : World) (a b : Nat) : Nat := valO w a b (Ieee.double.add a b)
def addN (a b : Nat) : Nat := askO (Ieee.double.add a b)
@[go_sem] theorem run_addF {P : Program} (t : TypeId) (a b : Nat) (w : World) : (binOp .add t (.float .f64 a) (.float .f64 b)).run P w = .ok (.float .f64 (addV w a b)) (w.drewN (addN a b)) := by
  unfold addV addN
  cases h : Ieee.double.add a b with
  | none =>
    have h' : FloatKind.f64.format.add a b = none := h
    simp [binOp, Op.floatArith, h', valO, askO, nanAt, choose, Sem.run, Question.forced]; rfl
  | some r => exact run_float_arith w .add t .f64 a b r h
theorem add_nan_l {b : Nat} (v : Nat) (h : nanB b = true) : Ieee.double.add b v = none := add_nan v h
theorem addC_l {a c : Nat} (b : Nat) (h : canon a = c) : addC a b = addC c b := by
  unfold addC
  cases hb : nanB a
  · have : canon a = a := by simp [canon, hb]
    rw [← h, this]
  · have h2 : c = kNaN.toNat := by rw [← h]; simp [canon, hb]
    rw [add_nan b hb, h2, add_nan b kNaN_nan]
theorem addV_c (w : World) (a b : Nat) : canon (addV w a b) = addC a b := valO_canon ..
def divV (w : World) (a b : Nat) : Nat := valO w a b (Ieee.double.div a b)
def divN (a b : Nat) : Nat := askO (Ieee.double.div a b)
@[go_sem] theorem run_divF {P : Program} (t : TypeId) (a b : Nat) (w : World) : (binOp .quo t (.float .f64 a) (.float .f64 b)).run P w = .ok (.float .f64 (divV w a b)) (w.drewN (divN a b)) := by
  unfold divV divN
  cases h : Ieee.double.div a b with
  | none =>
    have h' : FloatKind.f64.format.div a b = none := h
    simp [binOp, Op.floatArith, h', valO, askO, nanAt, choose, Sem.run, Question.forced]; rfl
  | some r => exact run_float_arith w .quo t .f64 a b r h
theorem divV_c (w : World) (a b : Nat) : canon (divV w a b) = divC a b := valO_canon ..
theorem valO_lt (w : World) (a b : Nat) {o : Option Nat} (h : ∀ r, o = some r → r < 2 ^ 64) : valO w a b o < 2 ^ 64 := by
  cases o with
  | none => exact (nanAt_facts w a b).2
  | some r => exact h r rfl
theorem divV_lt (w : World) (a b : Nat) : divV w a b < 2 ^ 64 := valO_lt w a b fun _ => Wv.Flo.div_lt
@[go_sem] theorem run_convIF (t : TypeId) (k : IntKind) (n : Int) (w : World) (ht : Tryz.prog.underlying t = some (.int k)) : (convert t 25 (.int k n)).run Tryz.prog w = .ok (.float .f64 (Wv.Flo.ofI n)) w := by
  simp [convert, Sem.run_bind, run_underlying ht, run_underlying Tryz.underlying25, Conv.intToFloat]
  rfl
theorem canon_cn (a : Nat) : canon (canon a) = canon a := by
  unfold canon
  cases h : nanB a
  · simp [h]
  · have h2 : nanB kNaN.toNat = true := kNaN_nan
    simp [h2]
theorem canonO_cn (o : Option Nat) : canon (canonO o) = canonO o := by
  cases o with
  | none => simp [canonO, canon, kNaN_nan]
  | some r => exact canon_cn r
theorem foldl_cn (r : List Nat) : ∀ c, canon c = c → canon (r.foldl addC c) = r.foldl addC c := by
  induction r with
  | nil => intro c h; exact h
  | cons a r ih => intro c _; rw [List.foldl_cons]; exact ih _ (canonO_cn _)

/-! ### rows whose elements take one cell -/
/-- a row of the call's own -/
def Own1 {α : Type} (enc : α → Value) (T : TypeId) (W : World) (B : Nat) (v : Value) (l : List α) : Prop := W.ownsRow B T 1 v l.length (l.map enc)
/-- a row that is read -/
def At1 {α : Type} (enc : α → Value) (W : World) (A : Option Addr) (l : List α) : Prop :=
  0 < l.length → ∃ b o, A = some ⟨b, o, none⟩ ∧ ∀ i x, l[i]? = some x → W.cell? ⟨b, o + i, none⟩ = some (enc x)
section
variable {α : Type} {enc : α → Value} {T : TypeId} {W W' : World} {B : Nat} {v : Value} {l : List α} {A : Option Addr}
theorem At1.gr (h : At1 enc W A l) (g : Gr W W') : At1 enc W' A l := fun h0 => by
  obtain ⟨b, o, e, hc⟩ := h h0
  exact ⟨b, o, e, fun i x hx => g.cell (hc i x hx)⟩
theorem At1.nil (W : World) (A : Option Addr) : At1 enc W A [] := fun h => absurd h (by simp)
theorem Own1.nil (W : World) (B : Nat) : Own1 enc T W B (.slice none 0 0) [] := World.ownsRow_nil _ _ _ _
theorem add_none_ (g j : Nat) : (⟨g, 0, none⟩ : Addr).add j = ⟨g, j, none⟩ := by unfold Addr.add; split <;> simp_all
theorem Own1.form (h : Own1 enc T W B v l) : ∃ A c, v = .slice A l.length c ∧ At1 enc W A l ∧ l.length ≤ c ∧ c ≤ maxLen ∧ (A = none → l.length = 0 ∧ c = 0) ∧ (0 < l.length → ∃ g, A = some ⟨g, 0, none⟩ ∧ B ≤ g) := by
  have hcl := fun (g : Nat) (hg : v.ownBlock = some g) => h.cells hg
  rcases h.2 with ⟨e, e0⟩ | ⟨g, cap, cur, rfl, hb, hg, h1, h2, h3, h4⟩
  · exact ⟨none, 0, by rw [e, e0], fun hh => absurd hh (by omega), by omega, by unfold maxLen; omega, fun _ => ⟨e0, rfl⟩, fun hh => absurd hh (by omega)⟩
  · refine ⟨_, cap, rfl, fun h0 => ⟨g, 0, rfl, fun i x hx => ?_⟩, h1, h2, (fun e => by cases e), fun _ => ⟨g, rfl, hb⟩⟩
    have d1 := hcl g rfl i (enc x) (by rw [List.getElem?_map, hx]; rfl)
    rw [add_none_] at d1
    rw [Nat.zero_add]; exact d1
theorem Own1.gr (h : Own1 enc T W B v l) (g : Gr W W') : Own1 enc T W' B v l := World.ownsRow.kept h g.gb (by cases v.ownBlock <;> simp)
theorem Own1.lt (h : Own1 enc T W B v l) {k : Nat} (hk : v.ownBlock = some k) : B ≤ k ∧ k < W.heap.size := World.ownsRow.lt h k hk
theorem Own1.kept (h : Own1 enc T W B v l) {row : Option Nat} (g : W.grownBy W' row) (hne : v.ownBlock = none ∨ v.ownBlock ≠ row) : Own1 enc T W' B v l := World.ownsRow.kept h g hne
/-- a store into it -/
theorem Own1.stored {g n cap : Nat} (h : Own1 enc T W B (.slice (some ⟨g, 0, none⟩) n cap) l) (hn : n = l.length) (j : Nat) (x : α) :
    Own1 enc T (W.setCell ⟨g, j, none⟩ (enc x)) B (.slice (some ⟨g, 0, none⟩) n cap) (l.set j x) ∧ W.grownBy (W.setCell ⟨g, j, none⟩ (enc x)) (some g) := by
  subst hn
  have h1 := World.ownsRow.stored h j (enc x)
  refine ⟨?_, h1.2⟩
  unfold Own1
  rw [List.length_set, List.map_set]
  exact h1.1
theorem Own1.cellAt {g n cap : Nat} (h : Own1 enc T W B (.slice (some ⟨g, 0, none⟩) n cap) l) (hn : n = l.length) {j : Nat} (hj : j < l.length) : W.cell? ⟨g, j, none⟩ = some (enc l[j]) ∧ W.frozen? ⟨g, j, none⟩ = false := by
  subst hn
  refine ⟨?_, World.ownsRow.frozenAt h j⟩
  rw [World.ownsRow.cellAt h j (by omega), List.getElem?_map, List.getElem?_eq_getElem hj]; rfl
/-- a row that make laid -/
theorem own1_made (W : World) (z : α) (n : Nat) (hB : B ≤ W.heap.size) (hn : n ≤ maxLen) : Own1 enc T (W.alloc (.cells (madeCells #[enc z] n) T)) B (.slice (some ⟨W.heap.size, 0, none⟩) n n) (List.replicate n z) := by
  have h := World.ownsRow_lit (e := T) (size := 1) W (madeCells #[enc z] n) n hB hn (by simp [madeCells])
  unfold Own1
  rw [List.length_replicate, List.map_replicate, ← toList_madeCells_one]
  exact h
end
theorem run_app1 {α : Type} (enc : α → Value) (h1c : ∀ x, (enc x).oneCell' = true) (S T : TypeId) (z : Value) (by_ : Nat) (hS : Tryz.prog.underlying S = some (.slice T)) (hT : (Tryz.prog.info? T).map (fun i => (i.zero, i.size, i.bytes)) = some (some z, 1, by_)) (hz : z.cells.size = 1) (hby : by_ ≤ 48)
    {W : World} {B : Nat} {v : Value} {l m : List α} {A : Option Addr} {c : Nat} (h : Own1 enc T W B v l) (hs : At1 enc W A m) (hn : l.length + m.length ≤ 1099511627776) (hB : B ≤ W.heap.size) :
    ∃ v' W', (Builtin.append_ #[S, S] S #[v, .slice A m.length c]).run Tryz.prog W = .ok v' W' ∧ Own1 enc T W' B v' (l ++ m) ∧ W.grownBy W' v.ownBlock ∧ (v'.ownBlock = v.ownBlock ∨ v'.ownBlock = some W.heap.size) := by
  obtain ⟨i0, hi, hz0, hz1, hz2⟩ := info_parts hT
  cases A with
  | none =>
    have h0 : m = [] := by
      rcases Nat.eq_zero_or_pos m.length with e | e
      · exact List.eq_nil_of_length_eq_zero e
      · obtain ⟨b, o, e, _⟩ := hs e; cases e
    subst h0
    refine ⟨v, W, ?_, by rw [List.append_nil]; exact h, World.grownBy.refl W _, .inl rfl⟩
    rcases h.2 with ⟨rfl, _⟩ | ⟨g, cap, cur, rfl, _, _, hnc, _⟩
    · simp [Builtin.append_, run_underlying hS, sizeOf, typeInfo, hi, Builtin.lenOf, Builtin.firstCells]
    · simp [Builtin.append_, run_underlying hS, sizeOf, typeInfo, hi, Builtin.lenOf, Builtin.firstCells, hnc, storeCells]
  | some a =>
    have hcells : ∀ j u, (m.map enc)[j]? = some u → W.cell? (a.add j) = some u := by
      intro j u hu
      have hj : j < m.length := by have := (List.getElem?_eq_some_iff.1 hu).1; simpa using this
      obtain ⟨b, o, e, hc⟩ := hs (by omega)
      injection e with e
      subst e
      have hadd : (⟨b, o, none⟩ : Addr).add j = ⟨b, o + j, none⟩ := by unfold Addr.add; split <;> simp_all
      rw [hadd]
      rw [List.getElem?_map, List.getElem?_eq_getElem hj] at hu
      cases hu
      exact hc _ _ (List.getElem?_eq_getElem hj)
    obtain ⟨v', w', hr, h2, h3, _, h5⟩ := run_append_own_at (P := Tryz.prog) W B S S T i0 z 1 by_ hS hi hz0 hz1 hz2 hz (by omega) v l.length _ h a m.length c (m.map enc) (by simp) hcells (fun u hu => by
      obtain ⟨x, -, rfl⟩ := List.mem_map.1 hu
      exact h1c x) (by unfold maxLen; omega) (by
        have : (l.length + m.length) * by_ ≤ 1099511627776 * 48 := Nat.mul_le_mul hn hby
        omega) hB
    refine ⟨v', w', hr, ?_, h3, h5⟩
    unfold Own1
    rw [List.map_append, List.length_append]
    exact h2
def encF (x : Nat) : Value := .float .f64 x
def encB (x : Bool) : Value := .bool x
theorem info_float : (Tryz.prog.info? 25).map (fun i => (i.zero, i.size, i.bytes)) = some (some (.float .f64 0), 1, 8) := by kernel_rfl
theorem info_bool : (Tryz.prog.info? 4).map (fun i => (i.zero, i.size, i.bytes)) = some (some (.bool false), 1, 1) := by kernel_rfl
abbrev FlL (W : World) (A : Option Addr) (l : List Nat) : Prop := At1 encF W A l
abbrev OwnF (W : World) (B : Nat) (v : Value) (l : List Nat) : Prop := Own1 encF 25 W B v l
abbrev OwnB (W : World) (B : Nat) (v : Value) (l : List Bool) : Prop := Own1 encB 4 W B v l
theorem run_appF {W : World} {B : Nat} {v : Value} {l m : List Nat} {A : Option Addr} {c : Nat} (h : OwnF W B v l) (hs : FlL W A m) (hn : l.length + m.length ≤ 1099511627776) (hB : B ≤ W.heap.size) :
    ∃ v' W', (Builtin.append_ #[55, 55] 55 #[v, .slice A m.length c]).run Tryz.prog W = .ok v' W' ∧ OwnF W' B v' (l ++ m) ∧ W.grownBy W' v.ownBlock ∧ (v'.ownBlock = v.ownBlock ∨ v'.ownBlock = some W.heap.size) :=
  run_app1 encF (fun _ => rfl) _ _ _ 8 Tryz.underlying55 info_float rfl (by omega) h hs hn hB
theorem run_appB {W : World} {B : Nat} {v : Value} {l m : List Bool} {A : Option Addr} {c : Nat} (h : OwnB W B v l) (hs : At1 encB W A m) (hn : l.length + m.length ≤ 1099511627776) (hB : B ≤ W.heap.size) :
    ∃ v' W', (Builtin.append_ #[57, 57] 57 #[v, .slice A m.length c]).run Tryz.prog W = .ok v' W' ∧ OwnB W' B v' (l ++ m) ∧ W.grownBy W' v.ownBlock ∧ (v'.ownBlock = v.ownBlock ∨ v'.ownBlock = some W.heap.size) :=
  run_app1 encB (fun _ => rfl) _ _ _ 1 Tryz.underlying57 info_bool rfl (by omega) h hs hn hB
/-- a new block of one element -/
theorem at1_one {α : Type} {enc : α → Value} (W : World) (x : α) (t : TypeId) : At1 enc (W.alloc (.cells #[enc x] t)) (some ⟨W.heap.size, 0, none⟩) [x] := fun _ => ⟨W.heap.size, 0, rfl, fun i y hy => by
  match i, hy with
  | 0, hy =>
    obtain rfl : x = y := by simpa using hy
    rw [World.cell?_alloc_at _ _ _ _ (by simp)]; rfl⟩

/-- the cells of a row of numbers, those behind the first apart -/
theorem tail_cells {W : World} {b o : Nat} {x : Nat} {r : List Nat} (hc : ∀ i y, (x :: r)[i]? = some y → W.cell? ⟨b, o + i, none⟩ = some (encF y)) :
    W.cell? ⟨b, o, none⟩ = some (.float .f64 x) ∧ Hid (∀ i y, r[i]? = some y → W.cell? ⟨b, o + 1 + i, none⟩ = some (.float .f64 y)) := by
  refine ⟨hc 0 x rfl, Lib.hid fun i y hi => ?_⟩
  have := hc (i + 1) y hi
  rw [show o + 1 + i = o + (i + 1) by omega]; exact this
theorem sumP_any (A : Option Addr) (cap : Nat) (l : List Nat) (w : World) (ht : Tab w) (h : FlL w A l) (hc : l.length ≤ cap) (hn : l.length ≤ 1099511627776) :
    Calls Tryz.prog 49 #[.slice A l.length cap] w fun e w' => e = .returned (.float .f64 (sumL l)) ∧ ∃ n, w' = w.drewN n := by
  cases l with
  | nil =>
    clear h ht
    go_enter Tryz.func49, Tryz.ntmps49
    go_wp2
    go_ret
    exact ⟨rfl, 0, rfl⟩
  | cons x r =>
    obtain ⟨b, off, rfl, hcells⟩ := h (by simp)
    obtain ⟨c0, HC⟩ := tail_cells hcells
    obtain ⟨m, hm⟩ : ∃ m, r.length = m := ⟨_, rfl⟩
    have hl : (x :: r).length = m + 1 := by rw [← hm]; rfl
    rw [hl] at hc hn ⊢
    have HM := Lib.hid hm
    have HS : Hid (∀ k y, r[k]? = some y → (r.take (k + 1)).foldl addC (canon x) = addC ((r.take k).foldl addC (canon x)) y) := Lib.hid fun k y hy => foldl_s _ _ hy
    have HE : Hid ((r.take m).foldl addC (canon x) = sumL (x :: r)) := Lib.hid (by rw [← hm, List.take_length]; rfl)
    have HL : Hid (∀ k, k < m → ∃ y, r[k]? = some y) := Lib.hid fun k hk => ⟨_, List.getElem?_eq_getElem (by omega)⟩
    have HN : Hid (∀ n, canon ((r.take n).foldl addC (canon x)) = (r.take n).foldl addC (canon x)) := Lib.hid fun n => foldl_cn _ _ (canon_cn _)
    have HT := Lib.hid ht
    clear hcells h ht hl hm
    by_cases h1 : cap = 1
    · obtain rfl : m = 0 := by omega
      subst h1
      clear hc hn
      go_enter Tryz.func49, Tryz.ntmps49
      go_wp2
      refine wp_loop_rounds 1 ?_
      rw [rounds_succ]
      go_wp2_with (go_at_call 35; refine (canon_any _ _ HT.out).mono ?_; rintro e w' ⟨rfl, rfl⟩)
      go_ret
      exact ⟨by rw [← HE.out]; rfl, 0, rfl⟩
    · have h2 : 1 < cap := by omega
      clear h1
      go_enter Tryz.func49, Tryz.ntmps49
      go_wp2
      go_loopw [3, 15] (fun s i wr => ∃ k : Nat, k ≤ m ∧ i = .int .i64 k ∧ (∃ c, s = .float .f64 c ∧ Hid (canon c = (r.take k).foldl addC (canon x))) ∧ ∃ n, wr = w.drewN n) (fun _ i _ => m - (intOf i).toNat)
      case atStart => exact ⟨0, Nat.zero_le _, rfl, ⟨_, rfl, Lib.hid rfl⟩, 0, rfl⟩
      case round =>
        obtain ⟨k, hk, rfl, ⟨c, rfl, HCC⟩, n, rfl⟩ := hrel
        by_cases hlt : k < m
        · obtain ⟨y, hy⟩ := HL.out k hlt
          have hcell := HC.out k y hy
          have HY := Lib.hid (HS.out k y hy)
          clear hy
          go_wp2
          go_roundw
          case rel => exact ⟨k + 1, by omega, by go_num, ⟨_, rfl, Lib.hid (by rw [HY.out]; exact (addV_c _ _ _).trans (addC_l _ HCC.out))⟩, _, rfl⟩
          case measure => simp [intOf]; omega
        · obtain rfl : k = m := by omega
          go_wp2_with (go_at_call 35; refine (canon_any _ _ (by exact HT.out.drewN _)).mono ?_; rintro e w' ⟨rfl, rfl⟩)
          go_ret
          exact ⟨by rw [HCC.out, HE.out]; rfl, _, rfl⟩
theorem rsumL_any (A : Option Addr) (cap : Nat) (l : List Nat) (w : World) (h : FlL w A l) (hn : l.length ≤ 1099511627776) :
    Calls Tryz.prog 56 #[.slice A l.length cap] w fun e w' => e = .returned (.float .f64 (sumL l)) ∧ ∃ n, w' = w.drewN n := by
  cases l with
  | nil =>
    clear h
    go_enter Tryz.func56, Tryz.ntmps56
    go_wp2
    go_ret
    exact ⟨rfl, 0, rfl⟩
  | cons x r =>
    obtain ⟨b, off, rfl, hcells⟩ := h (by simp)
    obtain ⟨c0, -⟩ := tail_cells hcells
    obtain ⟨m, hm⟩ : ∃ m, r.length = m := ⟨_, rfl⟩
    have HC : Hid (∀ i y, r[i]? = some y → w.cell? ⟨b, off + (i + 1), none⟩ = some (.float .f64 y)) := Lib.hid fun i y hi => hcells (i + 1) y hi
    have hl : (x :: r).length = m + 1 := by rw [← hm]; rfl
    rw [hl] at hn ⊢
    have HS : Hid (∀ k y, r[k]? = some y → (r.take (k + 1)).foldl addC (canon x) = addC ((r.take k).foldl addC (canon x)) y) := Lib.hid fun k y hy => foldl_s _ _ hy
    have HE : Hid ((r.take m).foldl addC (canon x) = sumL (x :: r)) := Lib.hid (by rw [← hm, List.take_length]; rfl)
    have HL : Hid (∀ k, k < m → ∃ y, r[k]? = some y) := Lib.hid fun k hk => ⟨_, List.getElem?_eq_getElem (by omega)⟩
    clear hcells h hl hm
    go_enter Tryz.func56, Tryz.ntmps56
    go_wp2
    go_loopw [3, 4] (fun s i wr => ∃ k : Nat, k ≤ m ∧ i = .int .i64 ((k : Int) + 1) ∧ (∃ c, s = .float .f64 c ∧ Hid (canon c = (r.take k).foldl addC (canon x))) ∧ ∃ n, wr = w.drewN n) (fun _ i _ => m + 1 - (intOf i).toNat)
    case atStart => exact ⟨0, Nat.zero_le _, rfl, ⟨_, rfl, Lib.hid rfl⟩, 0, rfl⟩
    case round =>
      obtain ⟨k, hk, rfl, ⟨c, rfl, HCC⟩, n, rfl⟩ := hrel
      by_cases hlt : k < m
      · obtain ⟨y, hy⟩ := HL.out k hlt
        have hcell := HC.out k y hy
        have HY := Lib.hid (HS.out k y hy)
        have n1 : (0 : Int) ≤ (k : Int) + 1 := by omega
        have n2 : (k : Int) + 1 < (m : Int) + 1 := by omega
        clear hy
        go_wp2
        go_roundw
        case rel => exact ⟨k + 1, by omega, by go_num, ⟨_, rfl, Lib.hid (by rw [HY.out]; exact (addV_c _ _ _).trans (addC_l _ HCC.out))⟩, _, rfl⟩
        case measure => simp [intOf]; omega
      · obtain rfl : k = m := by omega
        have n3 : ¬ (k : Int) + 1 < (k : Int) + 1 := by omega
        go_wp2_with (go_at_call 58; refine (rcanon_any _ _).mono ?_; rintro e w' ⟨rfl, rfl⟩)
        go_ret
        exact ⟨by rw [HCC.out, HE.out]; rfl, _, rfl⟩
theorem rleast_any (most : Bool) (A : Option Addr) (cap x : Nat) (r : List Nat) (w : World) (h : FlL w A (x :: r)) (hn : r.length ≤ 1099511627776) :
    Calls Tryz.prog 57 #[.slice A (r.length + 1) cap, .bool most] w fun e w' => e = .returned (.float .f64 (extL most (x :: r))) ∧ w = w' := by
  obtain ⟨b, off, rfl, hcells⟩ := h (by simp)
  obtain ⟨c0, -⟩ := tail_cells hcells
  obtain ⟨m, hm⟩ : ∃ m, r.length = m := ⟨_, rfl⟩
  have HC : Hid (∀ i y, r[i]? = some y → w.cell? ⟨b, off + (i + 1), none⟩ = some (.float .f64 y)) := Lib.hid fun i y hi => hcells (i + 1) y hi
  rw [hm] at hn ⊢
  have HS : Hid (∀ k y, r[k]? = some y → (r.take (k + 1)).foldl (extS most) x = extS most ((r.take k).foldl (extS most) x) y) := Lib.hid fun k y hy => foldl_s _ _ hy
  have HE : Hid ((r.take m).foldl (extS most) x = extL most (x :: r)) := Lib.hid (by rw [← hm, List.take_length]; rfl)
  have HL : Hid (∀ k, k < m → ∃ y, r[k]? = some y) := Lib.hid fun k hk => ⟨_, List.getElem?_eq_getElem (by omega)⟩
  have HX : Hid (∀ a y, extS most a y = if nanB a || (if most then gtB y a else ltB y a) then y else a) := Lib.hid fun _ _ => rfl
  clear hcells h hm
  go_enter Tryz.func57, Tryz.ntmps57
  go_wp2
  go_loopw [5, 6] (fun s i wr => ∃ k : Nat, k ≤ m ∧ i = .int .i64 ((k : Int) + 1) ∧ s = .float .f64 ((r.take k).foldl (extS most) x) ∧ wr = w) (fun _ i _ => m + 1 - (intOf i).toNat)
  case atStart => exact ⟨0, Nat.zero_le _, rfl, rfl, rfl⟩
  case round =>
    obtain ⟨k, hk, rfl, rfl, rfl⟩ := hrel
    by_cases hlt : k < m
    · obtain ⟨y, hy⟩ := HL.out k hlt
      have hcell := HC.out k y hy
      have HY := Lib.hid (HS.out k y hy)
      obtain ⟨a, ha⟩ : ∃ a, (r.take k).foldl (extS most) x = a := ⟨_, rfl⟩
      rw [ha] at HY ⊢
      have HV := Lib.hid (HX.out a y)
      obtain ⟨c1, hc1⟩ : ∃ c, ltB y a = c := ⟨_, rfl⟩
      obtain ⟨c3, hc3⟩ : ∃ c, gtB y a = c := ⟨_, rfl⟩
      obtain ⟨c2, hc2⟩ : ∃ c, nanB a = c := ⟨_, rfl⟩
      rw [hc1, hc2, hc3] at HV
      have hn2 := nan_walk hc2
      have hn3 := lt_walk hc1
      have hn4 := gt_walk hc3
      have n1 : (0 : Int) ≤ (k : Int) + 1 := by omega
      have n2 : (k : Int) + 1 < (m : Int) + 1 := by omega
      clear hy ha hc1 hc2 hc3
      cases most <;> cases c2 <;> cases c1 <;> cases c3
      all_goals
        go_wp2
        go_roundw
        case rel => exact ⟨k + 1, by omega, by go_num, by rw [HY.out, HV.out]; rfl, trivial⟩
        case measure => simp [intOf]; omega
    · obtain rfl : k = m := by omega
      have n3 : ¬ (k : Int) + 1 < (k : Int) + 1 := by omega
      go_wp2
      go_ret
      exact ⟨by rw [← HE.out]; rfl, rfl⟩
end Go.Proofs.YtllhkegefinlbaaGreatDoor.Pt
