/- Layer 2: Check, Points, At, of the program and of the reference. -/
import Derived.Test.YthjfmfacnknpfaaDoorAlTwo
import Derived.Deep.DeepMust
import Derived.Deep.RegionWith
import Derived.Below
import Derived.Deep.Draws
namespace Go.Proofs.YthjfmfacnknpfaaDoor
open Go.RowKit

theorem below_drewN {B : Nat} {a w : World} (h : Below B a w) (n : Nat) : Below B a (w.drewN n) := ⟨h.os, h.tape, h.output, h.size, h.block⟩
/-- nothing that was there has changed -/
structure Gr (w w' : World) : Prop where
  b : Below w.heap.size w w'
theorem Gr.refl (w : World) : Gr w w := ⟨Below.refl _ _⟩
theorem Gr.alloc {w w' : World} (h : Gr w w') (c : Array Value) (t : TypeId) : Gr w (w'.alloc (.cells c t)) := ⟨h.b.alloc h.b.size _⟩
theorem Gr.setCell {w w' : World} (h : Gr w w') {a : Addr} (ha : w.heap.size ≤ a.block) (v : Value) : Gr w (w'.setCell a v) := ⟨h.b.setCell ha v⟩
theorem Gr.drewN {w w' : World} (h : Gr w w') (n : Nat) : Gr w (w'.drewN n) := ⟨below_drewN h.b n⟩
theorem Gr.drew {w w' : World} (h : Gr w w') : Gr w w'.drew := ⟨⟨h.b.os, h.b.tape, h.b.output, h.b.size, h.b.block⟩⟩
theorem Gr.trans {a b c : World} (h : Gr a b) (g : Gr b c) : Gr a c := ⟨h.b.trans (g.b.mono h.b.size)⟩
theorem bcell {W w1 : World} (hb : Gr W w1) : (∀ b o, b < W.heap.size → w1.cell? ⟨b, o, none⟩ = W.cell? ⟨b, o, none⟩) ∧ (∀ b o, b < W.heap.size → w1.frozen? ⟨b, o, none⟩ = W.frozen? ⟨b, o, none⟩) :=
  ⟨fun b o h => hb.b.cell (p := ⟨b, o, none⟩) h, fun b o h => hb.b.frozen (p := ⟨b, o, none⟩) h⟩

def ptN (s e p : Int) : Int := (e - s) / p + 1
def gridB (s e p : Int) : Bool := inB s && inB e && !decide (e < s) && lenB p
def chE (s e p : Int) : Int := if gridB s e p then (if 4096 < ptN s e p then 6 else 0) else 1
def ptV (s e p : Int) : Int := if chE s e p = 0 then ptN s e p else 0
theorem ptN_bd (s e p : Int) (h1 : s ≤ e) (h2 : 1 ≤ p) : 0 ≤ (e - s) / p ∧ (e - s) / p ≤ e - s := by
  refine ⟨Int.ediv_nonneg (by omega) (by omega), ?_⟩
  exact Int.ediv_le_self _ (by omega)

theorem points_any (s e p : Int) (w : World) (hs : -1125899906842624 ≤ s) (he : e ≤ 1125899906842624) (hse : s ≤ e) (hp : 1 ≤ p) (hp2 : p ≤ 1125899906842624) :
    Calls Tryd.prog 40 #[.agg #[.int .i64 s, .int .i64 e, .int .i64 p]] w fun E w' => E = .returned (.int .i64 (ptN s e p)) ∧ Gr w w' := by
  obtain ⟨k1, k2⟩ := ptN_bd s e p hse hp
  have k3 : (e - s) / p ≤ 2251799813685248 := by omega
  have k4 : 0 ≤ e - s := by omega
  have k5 : e - s ≤ 2251799813685248 := by omega
  have k6 : ¬ p = 0 := by omega
  go_enter Tryd.func40, Tryd.ntmps40
  go_wp2
  go_ret
  exact ⟨rfl, (Gr.refl _).alloc _ _⟩

theorem check_any (s e p : Int) (w : World) :
    Calls Tryd.prog 24 #[.agg #[.int .i64 s, .int .i64 e, .int .i64 p]] w fun E w' => E = .returned (.int .i64 (chE s e p)) ∧ Gr w w' := by
  cases hs : inB s <;> cases he : inB e <;> cases hse : decide (e < s) <;> cases hp : lenB p
  case true.true.false.true =>
    obtain ⟨s1, s2⟩ := inB_t hs
    obtain ⟨e1, e2⟩ := inB_t he
    obtain ⟨p1, p2⟩ := lenB_t hp
    have hse' : s ≤ e := by simpa using hse
    cases hl : decide (4096 < ptN s e p)
    all_goals
      have hv : chE s e p = if decide (4096 < ptN s e p) = true then 6 else 0 := by simp [chE, gridB, hs, he, hse, hp]
      rw [hl] at hv
      have Hv := Lib.hid hv; clear hv
      go_enter Tryd.func24, Tryd.ntmps24
      go_wp2_with (first | (go_at_call 27; refine (isTime_any _ _).mono ?_; rintro e w' ⟨rfl, rfl⟩) | (go_at_call 30; refine (isLength_any _ _).mono ?_; rintro e w' ⟨rfl, rfl⟩) | (go_at_call 40; refine (points_any _ _ _ _ s1 e2 hse' p1 p2).mono ?_; rintro e w1 ⟨rfl, hg⟩))
      go_ret
      exact ⟨by rw [Hv.out]; rfl, ((Gr.refl _).alloc _ _).trans hg⟩
  all_goals
    have hv : chE s e p = 1 := by simp [chE, gridB, hs, he, hse, hp]
    have Hv := Lib.hid hv; clear hv
    go_enter Tryd.func24, Tryd.ntmps24
    go_wp2_with (first | (go_at_call 27; refine (isTime_any _ _).mono ?_; rintro e w' ⟨rfl, rfl⟩) | (go_at_call 30; refine (isLength_any _ _).mono ?_; rintro e w' ⟨rfl, rfl⟩))
    go_ret
    exact ⟨by rw [Hv.out]; rfl, (Gr.refl _).alloc _ _⟩
end Go.Proofs.YthjfmfacnknpfaaDoor
