/- budget, Few: how large a plan may be for a play. -/
import Derived.Test.YtikaamonmaohjaaGreatDoorICk
namespace Go.Proofs.YtikaamonmaohjaaGreatDoor.Ir
open Go.RowKit
set_option maxRecDepth 100000
set_option maxHeartbeats 2000000

structure OkD (d : Nf) (nk : Nat) : Prop where
  m : d.m.length ≤ 40
  g : d.gn.length ≤ 40
  x : d.xn.length ≤ 40
  i : d.inc.length ≤ 40
  k : nk ≤ 1000
mutual
def OkT : Tr → Prop | .mk d ks => OkD d ks.length ∧ OkK ks
def OkK : List Tr → Prop | [] => True | t :: r => OkT t ∧ OkK r
end
theorem okK_snoc {l : List Tr} {t : Tr} (h : OkK l) (ht : OkT t) : OkK (l ++ [t]) := by
  induction l with
  | nil => exact ⟨ht, trivial⟩
  | cons x r ih =>
    rw [OkK] at h
    rw [List.cons_append, OkK]
    exact ⟨h.1, ih h.2⟩
mutual
theorem ok_nodes : ∀ (t : Tr) (dp : Nat), OkT t → ∀ x ∈ nodesT dp t, OkD x.2.d x.2.ks.length
  | .mk d ks, dp, h, x, hx => by
    rw [OkT] at h
    rw [nodesT] at hx
    rcases List.mem_append.1 hx with hx | hx
    · exact ok_nodesK ks (dp + 1) h.2 x hx
    · obtain rfl : x = (dp, .mk d ks) := by simpa using hx
      exact h.1
theorem ok_nodesK : ∀ (ks : List Tr) (dp : Nat), OkK ks → ∀ x ∈ nodesK dp ks, OkD x.2.d x.2.ks.length
  | [], dp, h, x, hx => by rw [nodesK] at hx; cases hx
  | t :: r, dp, h, x, hx => by
    rw [OkK] at h
    rw [nodesK] at hx
    rcases List.mem_append.1 hx with hx | hx
    · exact ok_nodes t dp h.1 x hx
    · exact ok_nodesK r dp h.2 x hx
end
def BudPost (t : Tr) (deep left : Nat) (w : World) (e : Ending) (w' : World) : Prop := ∃ b : Nat, e = .returned (.int .i64 b) ∧ b ≤ left ∧ (0 < b → b + cnt t ≤ left ∧ dep t ≤ deep ∧ OkT t) ∧ Gr w w'
theorem bud_bad (d : Nf) (ks : List Tr) (p : Np) (deep left : Nat) (w : World) (h : TrP w (.mk d ks) p) (hd : deep ≤ 1000) (hl : left ≤ 1000) (hbad : left = 0 ∨ deep = 0 ∨ 40 < d.m.length ∨ 40 < d.gn.length ∨ 40 < d.xn.length ∨ 40 < d.inc.length ∨ 300 < d.name.size ∨ 600 < d.value.size ∨ 1000 < ks.length) :
    Calls Tryz.prog 15 #[.agg (nV d p ks.length).toArray, .int .i64 deep, .int .i64 left] w (BudPost (.mk d ks) deep left w) := by
  have HT := Lib.hid h
  have hk1 := h.w.b.k1
  have hk2 := h.w.b.k2
  have hm2 := Nat.le_trans h.w.b.m1 h.w.b.m2
  have hg2 := Nat.le_trans h.w.b.g1 h.w.b.g2
  have hx2 := Nat.le_trans h.w.b.x1 h.w.b.x2
  have hi2 := Nat.le_trans h.w.b.i1 h.w.b.i2
  have hnm := h.w.b.nm
  have hvl := h.w.b.vl
  have HB := Lib.hid h.w.b
  simp only [Tr.d, Tr.ks] at hk1 hk2 hm2 hg2 hx2 hi2 hnm hvl ⊢
  unfold maxLen at hnm hvl
  clear h
  obtain ⟨W1, hW1, g1, hb1, -, hsz⟩ := nbox w (nV d p ks.length) 31
  obtain ⟨-, -, -, a3, -, -, -, -, a8, -, a10, -, a12, -, a14, a15, a16⟩ := hb1.all
  simp only [Nat.zero_add] at a3 a8 a10 a12 a14 a15 a16
  obtain ⟨P, hP⟩ : ∃ P, w.heap.size = P := ⟨_, rfl⟩
  rw [hP] at a3 a8 a10 a12 a14 a15 a16
  have HP := Lib.hid hP; have HW1 := Lib.hid hW1; have HG1 := Lib.hid g1; have HT1 : Hid (TrP W1 (.mk d ks) p) := Lib.hid (HT.out.gr g1)
  have HWN := Lib.hid HT1.out.w
  simp only [Tr.d, Tr.ks] at HWN
  obtain ⟨pm, hpm⟩ : ∃ x, p.mA = x := ⟨_, rfl⟩
  obtain ⟨pg, hpg⟩ : ∃ x, p.gA = x := ⟨_, rfl⟩
  obtain ⟨px, hpx⟩ : ∃ x, p.xA = x := ⟨_, rfl⟩
  obtain ⟨pi, hpi⟩ : ∃ x, p.iA = x := ⟨_, rfl⟩
  obtain ⟨A, hAe⟩ : ∃ A, p.kA = A := ⟨_, rfl⟩
  rw [hpm] at a3; rw [hpg] at a8; rw [hpx] at a10; rw [hpi] at a12; rw [hAe] at a16
  have HAe := Lib.hid hAe
  have HMA : Hid (MatsAt W1 pm d.m) := Lib.hid (by rw [← hpm]; exact HWN.out.m)
  have HGA : Hid (StrsAt W1 pg d.gn) := Lib.hid (by rw [← hpg]; exact HWN.out.g)
  have HXA : Hid (StrsAt W1 px d.xn) := Lib.hid (by rw [← hpx]; exact HWN.out.x)
  have HIA : Hid (StrsAt W1 pi d.inc) := Lib.hid (by rw [← hpi]; exact HWN.out.i)
  clear hW1 g1 hb1 hsz hP hpm hpg hpx hpi hAe
  have zero : BudPost (.mk d ks) deep left w (.returned (.int .i64 0)) W1 := ⟨0, rfl, Nat.zero_le _, fun h => absurd h (by omega), HG1.out⟩
  have ZE := Lib.hid zero
  clear zero
  by_cases hl0 : left = 0
  · subst hl0
    go_enter Tryz.func15, Tryz.ntmps15
    go_upto_region 1 with fail
    rw [HW1.out, HP.out]
    go_wp2
    go_ret
    exact ZE.out
  have hl0' : 0 < left := by omega
  clear hl0
  by_cases hd0 : deep = 0
  · subst hd0
    go_enter Tryz.func15, Tryz.ntmps15
    go_upto_region 1 with fail
    rw [HW1.out, HP.out]
    go_wp2
    go_ret
    exact ZE.out
  have hd0' : 0 < deep := by omega
  clear hd0
  by_cases c3 : 40 < d.m.length
  · skip
    go_enter Tryz.func15, Tryz.ntmps15
    go_upto_region 1 with fail
    rw [HW1.out, HP.out]
    go_wp2
    go_ret
    exact ZE.out
  have c3' : d.m.length ≤ 40 := by omega
  clear c3
  by_cases c4 : 40 < d.gn.length
  · skip
    go_enter Tryz.func15, Tryz.ntmps15
    go_upto_region 1 with fail
    rw [HW1.out, HP.out]
    go_wp2
    go_ret
    exact ZE.out
  have c4' : d.gn.length ≤ 40 := by omega
  clear c4
  by_cases c5 : 40 < d.xn.length
  · skip
    go_enter Tryz.func15, Tryz.ntmps15
    go_upto_region 1 with fail
    rw [HW1.out, HP.out]
    go_wp2
    go_ret
    exact ZE.out
  have c5' : d.xn.length ≤ 40 := by omega
  clear c5
  by_cases c6 : 40 < d.inc.length
  · skip
    go_enter Tryz.func15, Tryz.ntmps15
    go_upto_region 1 with fail
    rw [HW1.out, HP.out]
    go_wp2
    go_ret
    exact ZE.out
  have c6' : d.inc.length ≤ 40 := by omega
  clear c6
  by_cases c7 : 300 < d.name.size
  · skip
    go_enter Tryz.func15, Tryz.ntmps15
    go_upto_region 1 with fail
    rw [HW1.out, HP.out]
    go_wp2
    go_ret
    exact ZE.out
  have c7' : d.name.size ≤ 300 := by omega
  clear c7
  by_cases c8 : 600 < d.value.size
  · skip
    go_enter Tryz.func15, Tryz.ntmps15
    go_upto_region 1 with fail
    rw [HW1.out, HP.out]
    go_wp2
    go_ret
    exact ZE.out
  have c8' : d.value.size ≤ 600 := by omega
  clear c8
  by_cases c9 : 1000 < ks.length
  · skip
    go_enter Tryz.func15, Tryz.ntmps15
    go_upto_region 1 with fail
    rw [HW1.out, HP.out]
    go_wp2
    go_ret
    exact ZE.out
  have c9' : ks.length ≤ 1000 := by omega
  clear c9
  omega
end Go.Proofs.YtikaamonmaohjaaGreatDoor.Ir
