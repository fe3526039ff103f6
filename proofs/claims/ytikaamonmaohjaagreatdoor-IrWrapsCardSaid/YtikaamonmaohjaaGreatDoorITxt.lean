/- kidsOf. -/
import Derived.Test.YtikaamonmaohjaaGreatDoorISize
import Derived.Test.YtikaamonmaohjaaGreatDoorSetP
import Derived.Test.YtikaamonmaohjaaGreatDoorShelfI
import Derived.Lib.Builder
import Derived.Test.YtikaamonmaohjaaGreatDoorICn
import Derived.Test.YtikaamonmaohjaaGreatDoorIEach
namespace Go.Proofs.YtikaamonmaohjaaGreatDoor.Ir
open Go.RowKit Go.Shelf
set_option maxRecDepth 100000
set_option maxHeartbeats 2000000

/-- a builder in block b that holds these bytes; its buffer lies from base on -/
def Bld (W : World) (base b : Nat) (l : List UInt8) : Prop :=
  b < base ∧ base ≤ W.heap.size ∧ ∃ p v, (p = .pointer none ∨ p = .pointer (some ⟨b, 0, none⟩)) ∧ W.heap[b]? = some (.cells #[p, v] 65 (0, 0)) ∧ OwnB W base v l
/-- below base all stays but block b -/
structure AgB (base b : Nat) (W W' : World) : Prop where
  os : W'.os = W.os
  tape : W'.tape = W.tape
  output : W'.output = W.output
  size : W.heap.size ≤ W'.heap.size
  blk : ∀ k, k < base → k ≠ b → W'.heap[k]? = W.heap[k]?
theorem AgB.refl (base b : Nat) (W : World) : AgB base b W W := ⟨rfl, rfl, rfl, Nat.le_refl _, fun _ _ _ => rfl⟩
theorem AgB.trans {base b : Nat} {A B C : World} (h : AgB base b A B) (g : AgB base b B C) : AgB base b A C := ⟨g.os.trans h.os, g.tape.trans h.tape, g.output.trans h.output, Nat.le_trans h.size g.size, fun k hk hn => (g.blk k hk hn).trans (h.blk k hk hn)⟩
theorem AgB.cell {base b : Nat} {W W' : World} (h : AgB base b W W') {k o : Nat} {v : Value} (hk : k < base) (hn : k ≠ b) (hc : W.cell? ⟨k, o, none⟩ = some v) : W'.cell? ⟨k, o, none⟩ = some v :=
  (World.cell?_of_block (a := ⟨k, o, none⟩) (h.blk k hk hn)).trans hc
theorem Gr.agB {base b : Nat} {W W' : World} (g : Gr W W') (hb : base ≤ W.heap.size) : AgB base b W W' := ⟨g.b.os, g.b.tape, g.b.output, g.b.size, fun k hk _ => g.b.block k (by omega)⟩
theorem bld_info : (Tryz.prog.info? 65).map (·.size) = some 2 := by kernel_rfl
theorem cc_used (b : Nat) (w : World) (h0 : w.cell? ⟨b, 0, none⟩ = some (.pointer (some ⟨b, 0, none⟩))) :
    Calls Tryz.prog 92 #[.pointer (some ⟨b, 0, none⟩)] w fun e w' => e = .returned (.tuple #[]) ∧ w' = w := by
  obtain ⟨j, hj, -⟩ := Option.map_eq_some_iff.1 bld_info
  go_enter Tryz.func92, Tryz.ntmps92
  go_wp2
  rw [Lib.run_neq_ptr_same w _ Tryz.underlying62 hj]
  go_wp2
  go_end0
  exact ⟨rfl, rfl⟩
theorem cc_fresh (b : Nat) (v : Value) (w : World) (hb : w.heap[b]? = some (.cells #[.pointer none, v] 65 (0, 0))) :
    Calls Tryz.prog 92 #[.pointer (some ⟨b, 0, none⟩)] w fun e w' => e = .returned (.tuple #[]) ∧ w' = w.setCell ⟨b, 0, none⟩ (.pointer (some ⟨b, 0, none⟩)) := by
  obtain ⟨j, hj, hjs⟩ := Option.map_eq_some_iff.1 bld_info
  have h0 : w.cell? ⟨b, 0, none⟩ = some (.pointer none) := by rw [Lib.cell_of_heap hb]; rfl
  have hfz : w.frozen? ⟨b, 0, none⟩ = false := Lib.frozen_of_heap hb 0
  have hsh : w.shape? b = some (65, 2) := by simp [World.shape?, hb]
  go_enter Tryz.func92, Tryz.ntmps92
  go_wp2
  rw [Lib.run_to_unsafe w ⟨b, 0, none⟩ Tryz.underlying62 Tryz.underlying137 hj (by rw [hjs]; decide) hsh (Nat.zero_lt_succ 1)]
  simp only [Result.andThen]
  rw [Oper.upon_value]
  go_wp2
  rw [run_callFunc_extern Tryz.func114 (by kernel_rfl) (by kernel_rfl) (by kernel_rfl) (e := Extern.AbiNoEscape.same) (by kernel_rfl)]
  rw [Lib.run_noEscape]
  simp only [Result.andThen]
  rw [Oper.upon_value]
  go_wp2
  rw [Lib.run_from_unsafe w ⟨b, 0, none⟩ Tryz.underlying137 Tryz.underlying62 hj hsh (by kernel_rfl)]
  simp only [Result.andThen]
  rw [Oper.upon_value]
  go_wp2
  go_end0
  exact ⟨rfl, rfl⟩
theorem cc_any (base b : Nat) (l : List UInt8) (w : World) (h : Bld w base b l) :
    Calls Tryz.prog 92 #[.pointer (some ⟨b, 0, none⟩)] w fun e w' => e = .returned (.tuple #[]) ∧ (∃ v, w'.heap[b]? = some (.cells #[.pointer (some ⟨b, 0, none⟩), v] 65 (0, 0)) ∧ OwnB w' base v l) ∧ AgB base b w w' := by
  obtain ⟨h1, h2, p, v, hp, hb, ho⟩ := h
  rcases hp with rfl | rfl
  · refine (cc_fresh b v w hb).mono ?_
    rintro e w' ⟨rfl, rfl⟩
    have hs := heap_setCell_same w b 0 _ _ (.pointer (some ⟨b, 0, none⟩)) hb
    have hne : v.ownBlock ≠ some b := fun e => by have := (ho.lt e).1; omega
    refine ⟨rfl, ⟨v, by simpa using hs, ?_⟩, ⟨rfl, rfl, rfl, by simp [World.setCell], fun k hk hn => Below.heap_setCell _ _ _ _ (by show k ≠ b; exact hn)⟩⟩
    exact World.ownsRow.kept ho (row := some b) ⟨rfl, rfl, rfl, by simp [World.setCell], fun k _ hk => Below.heap_setCell _ _ _ _ (fun e => hk (by simp [e]))⟩ (Or.inr hne)
  · refine (cc_used b w (by rw [Lib.cell_of_heap hb]; rfl)).mono ?_
    rintro e w' ⟨rfl, rfl⟩
    exact ⟨rfl, ⟨v, hb, ho⟩, AgB.refl _ _ _⟩
theorem bws_any (base b : Nat) (l : List UInt8) (s : ByteArray) (w : World) (h : Bld w base b l) (hl : l.length + s.size ≤ 1000000) :
    Calls Tryz.prog 47 #[.pointer (some ⟨b, 0, none⟩), .string s] w fun e w' => e = .returned (.tuple #[.int .i64 s.size, .nilIface]) ∧ Bld w' base b (l ++ s.data.toList) ∧ AgB base b w w' := by
  have hbb := h.1
  have hbs := h.2.1
  have CC := Lib.hid (cc_any base b l w h)
  clear h
  go_enter Tryz.func47, Tryz.ntmps47
  go_upto_region 2 with (go_at_call 92; refine CC.out.mono ?_; rintro e w1 ⟨rfl, ⟨v, hb, ho⟩, hag⟩)
  have c1 : w1.cell? ⟨b, 1, none⟩ = some v := by rw [Lib.cell_of_heap hb]; rfl
  have hsz := hag.size
  have HB := Lib.hid hb; have HO := Lib.hid ho; have HAG := Lib.hid hag
  obtain ⟨A0, n0, k0, hv0⟩ : ∃ ao n' cap, v = .slice ao n' cap := by
    rcases ho.2 with ⟨hv, _⟩ | ⟨g, cap, cur, hv, _⟩
    · exact ⟨_, _, _, hv⟩
    · exact ⟨_, _, _, hv⟩
  subst hv0
  clear hb ho hag
  go_wp2_with (at_builtin; refine wpList_appS rfl rfl _ _ rfl rfl HO.out rfl (by omega) (by omega) ?_)
  intro v' w2 ho2 hbk
  have hb2 : w2.heap[b]? = some (.cells #[.pointer (some ⟨b, 0, none⟩), .slice A0 n0 k0] 65 (0, 0)) := (hbk.b.block b hbb).trans HB.out
  have f1 : w2.frozen? ⟨b, 1, none⟩ = false := Lib.frozen_of_heap hb2 1
  have d1 : w2.cell? ⟨b, 1, none⟩ = some (.slice A0 n0 k0) := by rw [Lib.cell_of_heap hb2]; rfl
  obtain ⟨ao, n', cap, rfl⟩ : ∃ ao n' cap, v' = .slice ao n' cap := by
    rcases ho2.2 with ⟨hv, _⟩ | ⟨g, cap, cur, hv, _⟩
    · exact ⟨_, _, _, hv⟩
    · exact ⟨_, _, _, hv⟩
  have HB2 := Lib.hid hb2; have HO2 := Lib.hid ho2; have HBK := Lib.hid hbk
  clear hb2 ho2 hbk
  go_wp2
  go_ret2
  have hs := heap_setCell_same w2 b 1 _ _ (.slice ao n' cap) HB2.out
  have hsz2 := HBK.out.b.size
  refine ⟨rfl, ⟨hbb, by simp only [World.setCell, Array.size_modify]; omega, .pointer (some ⟨b, 0, none⟩), .slice ao n' cap, .inr rfl, by simpa using hs, ?_⟩, HAG.out.trans ⟨HBK.out.b.os, HBK.out.b.tape, HBK.out.b.output, by simp only [World.setCell, Array.size_modify]; omega, fun k hk hn => ?_⟩⟩
  · exact World.ownsRow.kept HO2.out (row := some b) ⟨rfl, rfl, rfl, by simp [World.setCell], fun k _ hk => Below.heap_setCell _ _ _ _ (fun e => hk (by simp [e]))⟩ (Or.inr (fun e => by have := (HO2.out.lt e).1; omega))
  · exact (Below.heap_setCell _ _ _ _ (by show k ≠ b; exact hn)).trans (HBK.out.b.block k hk)
end Go.Proofs.YtikaamonmaohjaaGreatDoor.Ir
namespace Go.Proofs.YtikaamonmaohjaaGreatDoor.Ir
open Go.RowKit Go.Shelf
set_option maxRecDepth 100000
set_option maxHeartbeats 4000000
attribute [local irreducible] wpQuiet

theorem part_no (f P : Value) (w : World) : Calls Tryz.prog 46 #[.bool false, f, P] w fun e w' => e = .returned (.tuple #[]) ∧ w = w' := by
  go_enter Tryz.func46, Tryz.ntmps46
  go_wp2
  go_end0
  exact ⟨rfl, rfl⟩
/-- how many kids a node has at most -/
def kdM (k : Int) (nk : Nat) : Nat := if kdN k < nk then (kdN k).toNat else nk
theorem kdN_bd (k : Int) : 0 ≤ kdN k ∧ kdN k ≤ 2 := by unfold kdN; split <;> (try split) <;> omega
theorem shKV_cells {W : World} {b : Nat} {k fn : Int} (h : W.rangeAt b 0 (shKV k fn).toList) :
    W.cell? ⟨b, 0, none⟩ = some (.bool (hN k fn)) ∧ W.cell? ⟨b, 1, none⟩ = some (.bool (hF k)) ∧ W.cell? ⟨b, 2, none⟩ = some (.bool (hM k)) ∧ W.cell? ⟨b, 3, none⟩ = some (.bool (hL k)) ∧ W.cell? ⟨b, 4, none⟩ = some (.bool (hS k)) ∧ W.cell? ⟨b, 5, none⟩ = some (.bool (hO k)) ∧ W.cell? ⟨b, 6, none⟩ = some (.bool (hG k)) ∧ W.cell? ⟨b, 7, none⟩ = some (.bool (hX k)) ∧ W.cell? ⟨b, 8, none⟩ = some (.bool (hX k)) ∧ W.cell? ⟨b, 9, none⟩ = some (.bool (hLb k)) ∧ W.cell? ⟨b, 10, none⟩ = some (.int .i64 (kdN k)) :=
  ⟨h 0 _ rfl, h 1 _ rfl, h 2 _ rfl, h 3 _ rfl, h 4 _ rfl, h 5 _ rfl, h 6 _ rfl, h 7 _ rfl, h 8 _ rfl, h 9 _ rfl, h 10 _ rfl⟩
theorem kids_any (d : Nf) (p : Np) (nk : Nat) (k fn : Int) (w : World) (h1 : nk ≤ p.kC) (h2 : p.kC ≤ 9223372036854775807) (h3 : p.kA = none → nk = 0) :
    Calls Tryz.prog 65 #[.agg (shKV k fn), .agg (nV d p nk).toArray] w fun e w' => e = .returned (.slice p.kA (kdM k nk) p.kC) ∧ Gr w w' := by
  obtain ⟨W1, hW1⟩ : ∃ W, w.alloc (.cells (shKV k fn) 77) = W := ⟨_, rfl⟩
  have g1 : Gr w W1 := by rw [← hW1]; exact (Gr.refl w).alloc _ _
  have hs1 : W1.heap.size = w.heap.size + 1 := by rw [← hW1]; simp
  have hr1 : W1.rangeAt w.heap.size 0 (shKV k fn).toList := by
    intro i v e
    rw [← hW1, World.cell?_alloc_at _ _ _ _ (by simp), Nat.zero_add]
    simpa using e
  obtain ⟨W2, hW2, g2, hb2, -, hsz⟩ := nbox W1 (nV d p nk) 31
  obtain ⟨-, -, -, -, -, -, -, -, -, -, c10⟩ := shKV_cells hr1
  have d10 := g2.cell c10
  have a16 := hb2 16 _ rfl
  simp only [Nat.zero_add] at a16
  obtain ⟨kd0, kd1⟩ := kdN_bd k
  obtain ⟨kd, hkd⟩ : ∃ x : Nat, kdN k = x := ⟨(kdN k).toNat, by omega⟩
  have HM : Hid (kdM k nk = if kd < nk then kd else nk) := Lib.hid (by unfold kdM; rw [hkd]; simp)
  rw [hkd] at d10 kd1
  obtain ⟨Pz, hPz⟩ : ∃ P, w.heap.size = P := ⟨_, rfl⟩
  rw [hPz] at d10 hs1
  rw [hs1] at a16
  obtain ⟨A, hA⟩ : ∃ A, p.kA = A := ⟨_, rfl⟩
  obtain ⟨c, hc⟩ : ∃ c, p.kC = c := ⟨_, rfl⟩
  rw [hA, hc] at a16 ⊢
  rw [hA] at h3
  rw [hc] at h1 h2
  have HW1 := Lib.hid hW1; have HW2 := Lib.hid hW2; have HP := Lib.hid hPz; have HG := Lib.hid (g1.trans g2); have HS1 := Lib.hid hs1
  clear hW1 hW2 hPz g1 g2 hb2 hr1 c10 hkd hA hc hsz hs1
  obtain ⟨m, hm⟩ : ∃ m, kdM k nk = m := ⟨_, rfl⟩
  rw [hm]
  rw [hm] at HM
  have hmb : m ≤ nk := by have := HM.out; split at this <;> omega
  have hmi : (if (nk : Int) < (kd : Int) then (nk : Int) else (kd : Int)) = (m : Int) := by
    have := HM.out
    split at this <;> split <;> omega
  have hmi2 : (if (kd : Int) ≤ (nk : Int) then (kd : Int) else (nk : Int)) = (m : Int) := by
    have := HM.out
    split at this <;> split <;> omega
  have hmc : m ≤ c := by omega
  clear hm
  cases A with
  | none =>
    obtain rfl := h3 rfl
    obtain rfl : m = 0 := by omega
    have hz : Hid (((0 : Nat) : Int) = 0) := Lib.hid rfl
    go_enter Tryz.func65, Tryz.ntmps65
    go_upto_region 1 with fail
    rw [HW1.out, HW2.out, HP.out]
    go_wp2
    go_ret
    exact ⟨by rw [show (min (kd : Int) 0).toNat = 0 by omega]; rfl, HG.out⟩
  | some a =>
    go_enter Tryz.func65, Tryz.ntmps65
    go_upto_region 1 with fail
    rw [HW1.out, HW2.out, HP.out]
    go_wp2
    go_ret
    exact ⟨by rw [show (min (kd : Int) (nk : Int)).toNat = m by have := HM.out; split at this <;> omega]; rfl, HG.out⟩
end Go.Proofs.YtikaamonmaohjaaGreatDoor.Ir
