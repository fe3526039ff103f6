/- One sample as it comes: its labels, its time; Check. -/
import Derived.Test.YtoooaipbkkiefaaGreatDoorFv
import Derived.Test.YtoooaipbkkiefaaGreatDoorLabAll
import Derived.Test.YtoooaipbkkiefaaGreatDoorSetF
namespace Go.Proofs.YtoooaipbkkiefaaGreatDoor
open Go.RowKit
set_option maxRecDepth 100000
set_option maxHeartbeats 2000000

/-- a new block -/
theorem fresh (w : World) (cs : Array Value) (t : TypeId) : ∃ W, w.alloc (.cells cs t) = W ∧ Gr w W ∧ ∀ i v, cs[i]? = some v → W.cell? ⟨w.heap.size, i, none⟩ = some v := by
  refine ⟨_, rfl, (Gr.refl w).alloc _ _, fun i v h => ?_⟩
  rw [World.cell?_alloc_at _ _ _ _ (by simp)]
  simpa using h
/-- a sample as it comes -/
structure Rwm where
  l : List Lb
  t : Int
  v : Nat
/-- what is wrong with it -/
def rawE (r : Rwm) : Int := if setE r.l = 0 then if r.t < -1125899906842624 ∨ 1125899906842624 < r.t then 1 else 0 else setE r.l
theorem setE_or (l : List Lb) : setE l = 0 ∨ setE l = 1 := by
  unfold setE; split
  · exact .inl rfl
  · exact .inr rfl
/-- a whole number of the machine's -/
def I64 (n : Int) : Prop := -9223372036854775808 ≤ n ∧ n ≤ 9223372036854775807

def LofPost (r : Rwm) (w : World) (e : Ending) (w' : World) : Prop :=
  Gr w w' ∧ if rawE r = 0 then ∃ A c, e = .returned (.tuple #[.slice A (setV r.l).length c, .int .i64 0]) ∧ LabsAt w' A (setV r.l) ∧ Fresh w A (setV r.l) else e = .returned (.tuple #[.slice none 0 0, .int .i64 (rawE r)])
theorem labelsOf_any (A : Option Addr) (c : Nat) (r : Rwm) (w : World) (h : LabsAt w A r.l) (hw : Wd r.l) (hl : r.l.length ≤ 1099511627775) :
    Calls Tryz.prog 78 #[.agg #[.slice A r.l.length c, .int .i64 r.t, .float .f64 r.v]] w (LofPost r w) := by
  obtain ⟨l, t, v⟩ := r
  simp only at h hw hl ⊢
  obtain ⟨W, hW, g0, hb⟩ := fresh w #[.slice A l.length c, .int .i64 t, .float .f64 v] 58
  have b0 := hb 0 (.slice A l.length c) rfl
  have b1 := hb 1 (.int .i64 t) rfl
  clear hb
  have CS := Lib.hid (setF_any A l c W (h.gr g0) hw (by omega))
  have HW := Lib.hid hW
  have G0 := Lib.hid g0
  clear h hw hW g0
  rcases setE_or l with h0 | h0
  · have HE : Hid (∀ d, rawE ⟨l, t, v⟩ = d ↔ (if t < -1125899906842624 ∨ 1125899906842624 < t then 1 else 0) = d) := Lib.hid (fun d => by unfold rawE; rw [h0]; rfl)
    have H0 := Lib.hid h0
    clear h0
    go_enter Tryz.func78, Tryz.ntmps78
    go_upto_region 1 with fail
    rw [HW.out]
    go_wp2_with fail
    refine CS.out.mono ?_
    rintro e w1 ⟨A1, c1, rfl, h1, g1, hf1⟩
    have HF1 : Hid (Fresh w A1 (setV l)) := Lib.hid (fun h0 => by
      obtain ⟨b, o, e, hb⟩ := hf1 h0
      exact ⟨b, o, e, Nat.le_trans G0.out.size hb⟩)
    clear hf1
    have H1 := Lib.hid h1
    have G1 := Lib.hid g1
    have b2 := g1.cell b1
    rw [H0.out]
    clear h1 g1 b0 b1 CS
    by_cases hlo : t < -1125899906842624
    · have HR : Hid (rawE ⟨l, t, v⟩ = 1) := Lib.hid ((HE.out 1).2 (if_pos (.inl hlo)))
      go_wp2
      go_ret2
      exact ⟨G0.out.trans G1.out, by rw [HR.out, if_neg (by decide)]; rfl⟩
    · by_cases hhi : (1125899906842624 : Int) < t
      · have HR : Hid (rawE ⟨l, t, v⟩ = 1) := Lib.hid ((HE.out 1).2 (if_pos (.inr hhi)))
        go_wp2
        go_ret2
        exact ⟨G0.out.trans G1.out, by rw [HR.out, if_neg (by decide)]; rfl⟩
      · have HR : Hid (rawE ⟨l, t, v⟩ = 0) := Lib.hid ((HE.out 0).2 (if_neg (by omega)))
        go_wp2
        go_ret2
        exact ⟨G0.out.trans G1.out, by rw [if_pos HR.out]; exact ⟨A1, c1, rfl, H1.out, HF1.out⟩⟩
  · have HR : Hid (rawE ⟨l, t, v⟩ = 1) := Lib.hid (by unfold rawE; simp only [h0]; rfl)
    have H0 := Lib.hid h0
    clear h0
    go_enter Tryz.func78, Tryz.ntmps78
    go_upto_region 1 with fail
    rw [HW.out]
    go_wp2_with fail
    refine CS.out.mono ?_
    rintro e w1 ⟨A1, c1, rfl, h1, g1, -⟩
    have G1 := Lib.hid g1
    rw [H0.out]
    clear h1 g1 b0 b1 CS
    go_wp2
    go_ret2
    exact ⟨G0.out.trans G1.out, by rw [HR.out, if_neg (by decide)]; rfl⟩
theorem rIn_any (t : Int) (w : World) : Calls Tryz.prog 87 #[.int .i64 t] w fun e w' => e = .returned (.bool (decide (-1125899906842624 ≤ t) && decide (t ≤ 1125899906842624))) ∧ w = w' := by
  by_cases h1 : -1125899906842624 ≤ t
  · by_cases h2 : t ≤ 1125899906842624
    · rw [show (decide (-1125899906842624 ≤ t) && decide (t ≤ 1125899906842624)) = true by simp; omega]
      go_enter Tryz.func87, Tryz.ntmps87
      go_wp2
      go_ret
      exact ⟨rfl, rfl⟩
    · rw [show (decide (-1125899906842624 ≤ t) && decide (t ≤ 1125899906842624)) = false by simp; omega]
      go_enter Tryz.func87, Tryz.ntmps87
      go_wp2
      go_ret
      exact ⟨rfl, rfl⟩
  · rw [show (decide (-1125899906842624 ≤ t) && decide (t ≤ 1125899906842624)) = false by simp; omega]
    go_enter Tryz.func87, Tryz.ntmps87
    go_wp2
    go_ret
    exact ⟨rfl, rfl⟩
/-- the reference's -/
theorem rcheck_raw (A : Option Addr) (c : Nat) (r : Rwm) (w : World) (h : LabsAt w A r.l) (hw : Wd r.l) (hl : r.l.length ≤ 1099511627775) :
    Calls Tryz.prog 54 #[.agg #[.slice A r.l.length c, .int .i64 r.t, .float .f64 r.v]] w fun e w' => e = .returned (.int .i64 (rawE r)) ∧ Gr w w' := by
  obtain ⟨l, t, v⟩ := r
  simp only at h hw hl ⊢
  obtain ⟨W, hW, g0, hb⟩ := fresh w #[.slice A l.length c, .int .i64 t, .float .f64 v] 121
  have b0 := hb 0 (.slice A l.length c) rfl
  have b1 := hb 1 (.int .i64 t) rfl
  clear hb
  have CS := Lib.hid (rSet_any A l c W (h.gr g0) hw hl)
  have HW := Lib.hid hW
  have G0 := Lib.hid g0
  have CI := Lib.hid (fun W => rIn_any t W)
  clear h hw hW g0
  rcases setE_or l with h0 | h0
  · have HE : Hid (rawE ⟨l, t, v⟩ = if (decide (-1125899906842624 ≤ t) && decide (t ≤ 1125899906842624)) = true then 0 else 1) := Lib.hid (by
      unfold rawE
      rw [h0, if_pos rfl]
      by_cases h1 : t < -1125899906842624 ∨ 1125899906842624 < t
      · rw [if_pos h1, if_neg (by simp; omega)]
      · rw [if_neg h1, if_pos (by simp; omega)])
    have H0 := Lib.hid h0
    clear h0
    obtain ⟨d, hd⟩ : ∃ d, (decide (-1125899906842624 ≤ t) && decide (t ≤ 1125899906842624)) = d := ⟨_, rfl⟩
    rw [hd] at HE CI
    rw [HE.out]
    clear hd HE
    go_enter Tryz.func54, Tryz.ntmps54
    go_upto_region 1 with fail
    rw [HW.out]
    go_wp2_with fail
    refine CS.out.mono ?_
    rintro e w1 ⟨A1, c1, rfl, h1, g1⟩
    have G1 := Lib.hid (G0.out.trans g1)
    have b2 := g1.cell b1
    rw [H0.out]
    clear h1 g1 b0 b1 CS
    cases d
    · go_wp2_with fail
      refine (CI.out _).mono ?_
      rintro e w2 ⟨rfl, rfl⟩
      go_wp2
      go_ret
      exact ⟨rfl, G1.out⟩
    · go_wp2_with fail
      refine (CI.out _).mono ?_
      rintro e w2 ⟨rfl, rfl⟩
      go_wp2
      go_ret
      exact ⟨rfl, G1.out⟩
  · have HR : Hid (rawE ⟨l, t, v⟩ = 1) := Lib.hid (by unfold rawE; simp only [h0]; rfl)
    have H0 := Lib.hid h0
    rw [HR.out]
    clear h0 HR
    go_enter Tryz.func54, Tryz.ntmps54
    go_upto_region 1 with fail
    rw [HW.out]
    go_wp2_with fail
    refine CS.out.mono ?_
    rintro e w1 ⟨A1, c1, rfl, h1, g1⟩
    have G1 := Lib.hid (G0.out.trans g1)
    rw [H0.out]
    clear h1 g1 b0 b1 CS
    go_wp2
    go_ret
    exact ⟨rfl, G1.out⟩
end Go.Proofs.YtoooaipbkkiefaaGreatDoor
