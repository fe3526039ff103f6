/- What the laws are made of: values of bits; what is known. -/
import Derived.Test.YtoglkgagdilfjaaDoorWRef
import Derived.Below
import Derived.Deep.Draws
import Derived.Laws.OwnMore
import Derived.Laws.AppendOwn
namespace Go.Proofs.YtoglkgagdilfjaaDoor
open Go.RowKit
set_option maxRecDepth 100000
set_option maxHeartbeats 2000000

theorem below_drewN {B : Nat} {a w : World} (h : Below B a w) (n : Nat) : Below B a (w.drewN n) := ⟨h.os, h.tape, h.output, h.size, h.block⟩
/-- nothing that was there has changed -/
structure Gr (w w' : World) : Prop where
  b : Below w.heap.size w w'
theorem Gr.refl (w : World) : Gr w w := ⟨Below.refl _ _⟩
theorem Gr.alloc {w w' : World} (h : Gr w w') (c : Array Value) (t : TypeId) : Gr w (w'.alloc (.cells c t)) := ⟨h.b.alloc h.b.size _⟩
theorem Gr.setCell {w w' : World} (h : Gr w w') {a : Addr} (ha : w.heap.size ≤ a.block) (v : Value) : Gr w (w'.setCell a v) := ⟨h.b.setCell ha v⟩
theorem Gr.drewN {w w' : World} (h : Gr w w') (n : Nat) : Gr w (w'.drewN n) := ⟨below_drewN h.b n⟩
theorem Gr.drew {w w' : World} (h : Gr w w') : Gr w w'.drew := ⟨⟨h.b.os, h.b.tape, h.b.output, h.b.size, h.b.block⟩⟩
theorem Gr.trans {a b c : World} (h : Gr a b) (g : Gr b c) : Gr a c := ⟨h.b.trans (g.b.mono h.b.size)⟩
theorem Gr.cell {w w' : World} (g : Gr w w') {b o : Nat} {v : Value} (h : w.cell? ⟨b, o, none⟩ = some v) : w'.cell? ⟨b, o, none⟩ = some v :=
  (g.b.cell (p := ⟨b, o, none⟩) (World.block_lt_of_cell? w _ h)).trans h
theorem Gr.size {w w' : World} (g : Gr w w') : w.heap.size ≤ w'.heap.size := g.b.size
theorem Tab.gr {w w' : World} (h : Tab w) (g : Gr w w') : Tab w' := ⟨g.cell h.c0, g.cell h.c1, g.cell h.c2, g.cell h.c3⟩
theorem FlsAt.gr {W W' : World} {A : Option Addr} {n : Nat} {x : Nat → Nat} (h : FlsAt W A n x) (g : Gr W W') : FlsAt W' A n x := fun h0 => by
  obtain ⟨b, o, e, hc⟩ := h h0
  exact ⟨b, o, e, fun i hi => g.cell (hc i hi)⟩
/-- numbers in memory -/
def UsAt (W : World) (A : Option Addr) (n : Nat) (x : Nat → Nat) : Prop := 0 < n → ∃ b o, A = some ⟨b, o, none⟩ ∧ ∀ i, i < n → W.cell? ⟨b, o + i, none⟩ = some (.int .u64 (x i))
theorem UsAt.gr {W W' : World} {A : Option Addr} {n : Nat} {x : Nat → Nat} (h : UsAt W A n x) (g : Gr W W') : UsAt W' A n x := fun h0 => by
  obtain ⟨b, o, e, hc⟩ := h h0
  exact ⟨b, o, e, fun i hi => g.cell (hc i hi)⟩
theorem info_float : (Tryd.prog.info? 28).map (fun i => (i.zero, i.size, i.bytes)) = some (some (.float .f64 0), 1, 8) := by kernel_rfl
theorem info_parts {P : Program} {t : TypeId} {z : Option Value} {s b : Nat} (h : (P.info? t).map (fun i => (i.zero, i.size, i.bytes)) = some (z, s, b)) : ∃ i, P.info? t = some i ∧ i.zero = z ∧ i.size = s ∧ i.bytes = b := by
  cases hi : P.info? t with
  | none => rw [hi] at h; cases h
  | some i => rw [hi] at h; simp at h; exact ⟨i, rfl, h.1, h.2.1, h.2.2⟩
abbrev rowF (x : Nat → Nat) (k : Nat) : List Value := (List.range k).map fun j => Value.float .f64 (x j)
theorem rowF_succ (x : Nat → Nat) (k : Nat) : rowF x (k + 1) = rowF x k ++ [.float .f64 (x k)] := by simp [rowF, List.range_succ]
theorem own_fls {W : World} {B n : Nat} {v : Value} {x : Nat → Nat} (hown : W.ownsRow B 28 1 v n (rowF x n)) : ∃ A c, v = .slice A n c ∧ n ≤ c ∧ c ≤ maxLen ∧ FlsAt W A n x ∧ (A = none → n = 0 ∧ c = 0) := by
  rcases hown.2 with ⟨e, h0⟩ | ⟨g, cap', cur, hv, _, hgg, hnc, hcm, hcs, htake⟩
  · refine ⟨none, 0, ?_, by omega, by unfold maxLen; omega, fun h => by omega, fun _ => ⟨h0, rfl⟩⟩
    rw [e]; simp [h0]
  · refine ⟨some ⟨g, 0, none⟩, cap', hv, hnc, hcm, fun _ => ⟨g, 0, rfl, fun i hi => ?_⟩, fun h => by cases h⟩
    subst hv
    have := hown.cellAt i (by omega)
    rw [Nat.zero_add, this]
    simp [rowF, List.getElem?_map, List.getElem?_range hi]
theorem values_any (A : Option Addr) (n cap : Nat) (x : Nat → Nat) (w : World) (h : UsAt w A n x) (hn : n ≤ 1000) :
    Calls Tryd.prog 8 #[.slice A n cap] w fun e w' => Gr w w' ∧ ∃ A' c', e = .returned (.slice A' n c') ∧ n ≤ c' ∧ c' ≤ maxLen ∧ FlsAt w' A' n x := by
  obtain ⟨i0, hi, hz0, hz1, hz2⟩ := info_parts info_float
  have H := Lib.hid h
  clear h
  go_enter Tryd.func8, Tryd.ntmps8
  go_wp2
  go_loopw [3, 4] (fun v i wr => ∃ j : Nat, j ≤ n ∧ i = .int .i64 j ∧ wr.ownsRow w.heap.size 28 1 v j (rowF x j) ∧ Gr w wr) (fun _ i _ => n - (intOf i).toNat)
  case atStart => exact ⟨0, Nat.zero_le _, rfl, World.ownsRow_nil _ _ _ _, Gr.refl _⟩
  case round =>
    obtain ⟨j, hj, rfl, hown, hgr⟩ := hrel
    by_cases hlt : j < n
    · obtain ⟨b, off, rfl, hc⟩ := H.out (by omega)
      have hcx : wr.cell? ⟨b, off + j, none⟩ = some (.int .u64 (x j)) := hgr.cell (hc j hlt)
      clear hc
      go_wp2_with (first
        | (at_builtin; refine wpList_append_own _ rfl _ _ 24 rfl w.heap.size 28 i0 (.float .f64 0) 1 8 Tryd.underlying24 hi hz0 hz1 hz2 rfl (by decide) _ _ _ rfl (hown.alloc _) ⟨wr.heap.size, 0, none⟩ 1 1 [.float .f64 (x j)] rfl rfl ?c1 ?c2 ?c3 ?c4 ?c5 ?_))
      case c1 =>
        intro i u hu
        match i, hu with
        | 0, hu => simp at hu; subst hu; simp [Addr.add]
      case c2 => intro u hu; simp at hu; subst hu; rfl
      case c3 => unfold maxLen; omega
      case c4 => omega
      case c5 => have := hgr.b.size; simp; omega
      intro v' w2 hown' hgrow _
      rw [← rowF_succ] at hown'
      have hgr' : Gr w w2 := ⟨(hgr.b.alloc hgr.b.size _).grown hgrow (by have := hgr.b.size; simp; omega) (fun i hi => (hown.lt i hi).1)⟩
      clear hgrow hown hgr hcx
      go_wp2_with fail
      go_roundw
      case rel => exact ⟨j + 1, by omega, by go_num, hown', hgr'⟩
      case measure => simp [intOf]; omega
    · obtain rfl : j = n := by omega
      obtain ⟨A', c', hv, h1, h2, h3, -⟩ := own_fls hown
      subst hv
      have n3 : ¬ (j : Int) < (j : Int) := by omega
      clear hown
      go_wp2
      go_ret
      exact ⟨hgr, A', c', rfl, h1, h2, h3⟩

/-! what is known -/
def xk (j : Nat) : Nat := match j with | 0 => 4607182418800017408 | 1 => 4611686018427387904 | 2 => 4613937818241073152 | _ => 4616189618054758400
theorem xk_sum : sumF xk 4 = (13835058055282163712, 13835058055282163712) := by
  rw [sumF_3 rfl, sumF_2 rfl, sumF_1 rfl, sumF_0 rfl, sumF_z]; decide +kernel
theorem fls4 (W : World) (a b c d : Nat) (x : Nat → Nat) (h0 : x 0 = a) (h1 : x 1 = b) (h2 : x 2 = c) (h3 : x 3 = d) :
    FlsAt (W.alloc (.cells #[.float .f64 a, .float .f64 b, .float .f64 c, .float .f64 d] 28)) (some ⟨W.heap.size, 0, none⟩) 4 x := fun _ => ⟨_, 0, rfl, fun i hi => by
  rw [World.cell?_alloc_at _ _ _ _ (by simp)]
  match i, hi with
  | 0, _ => simp [h0]
  | 1, _ => simp [h1]
  | 2, _ => simp [h2]
  | 3, _ => simp [h3]⟩
theorem known_any (w : World) (ht : Tab w) :
    Calls Tryd.prog 7 #[] w fun e w' => e = .returned (.bool true) ∧ Gr w w' := by
  have HT := Lib.hid ht
  have CS := Lib.hid (fun W (h : FlsAt W (some ⟨w.heap.size, 0, none⟩) 4 xk) (g : Gr w W) => sum_any _ 4 4 xk W (ht.gr g) h (by unfold maxLen; omega))
  rw [xk_sum] at CS
  have CM := Lib.hid (fun W (g : Gr w W) => mag_any 13835058055282163712 13835058055282163712 W (ht.gr g))
  rw [show magV 13835058055282163712 13835058055282163712 = 4620693217682128896 by decide +kernel] at CM
  have CQ := Lib.hid (fun W => qu_any 13835058055282163712 13835058055282163712 W)
  rw [show quV 13835058055282163712 13835058055282163712 = 2 by decide +kernel] at CQ
  have CT := Lib.hid (fun W (g : Gr w W) => turn_any 4607182418800017408 4611686018427387904 1 W (ht.gr g))
  rw [show tR (qn 1) 4607182418800017408 4611686018427387904 = 13835058055282163712 by decide +kernel, show tI (qn 1) 4607182418800017408 4611686018427387904 = 4607182418800017408 by decide +kernel] at CT
  have CE := Lib.hid (fun W (g : Gr w W) => wsame_any 13835058055282163712 4607182418800017408 13835058055282163712 4607182418800017408 W (ht.gr g))
  rw [same_refl, same_refl] at CE
  have o1 : (FloatKind.f64.format.order 13835058055282163712 13835058055282163712 == some .eq) = true := by decide +kernel
  have o2 : (FloatKind.f64.format.order 4620693217682128896 4620693217682128896 == some .eq) = true := by decide +kernel
  clear ht
  go_enter Tryd.func7, Tryd.ntmps7
  go_wp2_with (first
    | (go_at_call 21; refine (CS.out _ (fls4 w _ _ _ _ xk rfl rfl rfl rfl) ((Gr.refl w).alloc _ _)).mono ?_; rintro e w1 ⟨rfl, n1, rfl⟩; have G1 := Lib.hid (fun n => ((Gr.refl w).alloc #[.float .f64 4607182418800017408, .float .f64 4611686018427387904, .float .f64 4613937818241073152, .float .f64 4616189618054758400] 28).drewN n))
    | (go_at_call 16; refine (CM.out _ (G1.out _)).mono ?_; rintro e w2 ⟨rfl, n2, rfl⟩)
    | (go_at_call 14; refine (CQ.out _).mono ?_; rintro e w3 ⟨rfl, rfl⟩)
    | (go_at_call 12; refine (CT.out _ (G1.out _)).mono ?_; rintro e w4 ⟨rfl, rfl⟩)
    | (go_at_call 19; refine (CE.out _ (G1.out _)).mono ?_; rintro e w5 ⟨rfl, rfl⟩)
    | fail)
  go_ret
  exact ⟨rfl, G1.out _⟩
end Go.Proofs.YtoglkgagdilfjaaDoor
