/- labels.Compare: new memory alone, told exactly. -/
import Derived.Test.YtoooaipbkkiefaaGreatDoorLCmp
import Derived.Test.YtoooaipbkkiefaaGreatDoorShelf
import Derived.Shelf.SlSortCmp.QuietGrown
namespace Go.Proofs.YtoooaipbkkiefaaGreatDoor
open Go.RowKit Go.Sort
set_option maxRecDepth 100000
set_option maxHeartbeats 2000000

/-- so many draws, these blocks behind -/
def Gn (w w' : World) : Prop := ∃ q os', w' = grow (w.drewN q) os'
theorem Gn.refl (w : World) : Gn w w := ⟨0, #[], by rw [grow_empty]; rfl⟩
theorem Gn.trans {a b c : World} (h : Gn a b) (g : Gn b c) : Gn a c := by
  obtain ⟨q, os, rfl⟩ := h
  obtain ⟨q', os', rfl⟩ := g
  exact ⟨q + q', os ++ os', by show grow (grow ((a.drewN q).drewN q') os) os' = _; rw [grow_grow, World.drewN_drewN]⟩
theorem Gn.alloc {a b : World} (h : Gn a b) (o : Obj) : Gn a (b.alloc o) := by
  obtain ⟨q, os, rfl⟩ := h
  exact ⟨q, os ++ #[o], by rw [alloc_eq_grow, grow_grow]⟩
theorem Gn.gr {w w' : World} (h : Gn w w') : Gr w w' := by
  obtain ⟨q, os, rfl⟩ := h
  exact ⟨⟨rfl, rfl, rfl, by simp [grow], fun i hi => by
    show (w.heap ++ os)[i]? = w.heap[i]?
    rw [Array.getElem?_append_left hi]⟩⟩
theorem compare_gn (x y : Lb) (W : World) : Calls Tryz.prog 83 #[.agg #[.string x.1, .string x.2], .agg #[.string y.1, .string y.2]] W fun e w' => e = .returned (.int .i64 (cmpL x y)) ∧ Gn W w' :=
  (compare_any x.1 x.2 y.1 y.2 W).mono fun _ _ ⟨h, g⟩ => ⟨h, g ▸ ((Gn.refl _).alloc _).alloc _⟩
theorem compareG_any (A B : Option Addr) (a b : List Lb) (c d : Nat) (w : World) (ha : LabsAt w A a) (hb : LabsAt w B b) (la : a.length ≤ 1099511627776) (lb : b.length ≤ 1099511627776) :
    Calls Tryz.prog 50 #[.slice A a.length c, .slice B b.length d] w fun e w' => e = .returned (.int .i64 (cmpLs a b)) ∧ Gn w w' := by
  have HA := Lib.hid ha; have HB := Lib.hid hb
  clear ha hb
  by_cases hab : a.length ≤ b.length
  · go_enter Tryz.func50, Tryz.ntmps50
    go_wp2
    go_loopw [12] (fun i wr => ∃ k : Nat, k ≤ a.length ∧ i = .int .i64 k ∧ Hid (cmpLs a b = cmpLs (a.drop k) (b.drop k)) ∧ Gn w wr) (fun i _ => a.length - (intOf i).toNat)
    case atStart => exact ⟨0, by omega, rfl, rfl, Gn.refl _⟩
    case round =>
      obtain ⟨k, hk, rfl, HR, hg⟩ := hrel
      by_cases h1 : k < a.length
      · have ha : k < a.length := by omega
        have hb : k < b.length := by omega
        obtain ⟨b1, o1, rfl, c1, c2, -⟩ := (HA.out.gr hg.gr).at_ ha
        obtain ⟨b2, o2, rfl, d1, d2, -⟩ := (HB.out.gr hg.gr).at_ hb
        have HS := Lib.hid (cmpLs_step ha hb)
        obtain ⟨x, hx⟩ : ∃ x, a[k] = x := ⟨_, rfl⟩
        obtain ⟨y, hy⟩ : ∃ y, b[k] = y := ⟨_, rfl⟩
        rw [hx] at c1 c2
        rw [hy] at d1 d2
        have HE : Hid (cmpLs (a.drop k) (b.drop k) = if cmpL x y = 0 then cmpLs (a.drop (k + 1)) (b.drop (k + 1)) else cmpL x y) := by have := HS.out; rw [hx, hy] at this; exact this
        clear hx hy HS
        obtain ⟨v, hv⟩ : ∃ v, cmpL x y = v := ⟨_, rfl⟩
        have CC := Lib.hid (fun n os => Calls.grown_of (compare_gn x y (Go.Sort.grow (wr.drewN n) os)))
        rw [hv] at HE CC
        clear hv
        have k1 := cell_grown (World.block_lt_of_cell? wr _ c1) c1; have k2 := cell_grown (World.block_lt_of_cell? wr _ c2) c2; have k3 := cell_grown (World.block_lt_of_cell? wr _ d1) d1; have k4 := cell_grown (World.block_lt_of_cell? wr _ d2) d2
        clear c1 c2 d1 d2
        go_wp2_with fail
        refine wp_region_quiet_grown (by kernel_rfl) (by kernel_rfl) ?_
        repeat (quiet_step (exact CC.out _ _))
        refine wpQuiet_nil ?_
        intro _ hw'
        obtain ⟨⟨dq, osq⟩, hw''⟩ := hw'
        subst hw''
        have hg5 := hg.trans ⟨dq, osq, rfl⟩
        clear k1 k2 k3 k4 CC
        generalize Go.Sort.grow (wr.drewN dq) osq = w5 at *
        by_cases e1 : v = 0
        · subst e1
          have HN : Hid (cmpLs a b = cmpLs (a.drop (k + 1)) (b.drop (k + 1))) := Lib.hid (by rw [HR.out, HE.out]; rfl)
          go_wp2
          go_roundw
          case rel => exact ⟨k + 1, by omega, by go_num, HN, hg5⟩
          case measure => simp [intOf]; omega
        · have HN : Hid (cmpLs a b = v) := Lib.hid (by rw [HR.out, HE.out, if_neg e1])
          go_wp2
          go_ret
          exact ⟨by rw [HN.out]; rfl, hg5⟩
      · obtain rfl : k = a.length := by omega
        have HE := Lib.hid (cmpLs_end (a := a) (b := b) (by omega) (by omega) (.inl rfl))
        have HN : Hid (cmpLs a b = cmpI a.length b.length) := Lib.hid (by rw [HR.out, HE.out]; unfold cmpI; simp only [Int.ofNat_lt])
        go_wp2_with (go_at_call 84; refine (cmpInt_any _ _ _).mono ?_; rintro e w' ⟨rfl, rfl⟩)
        go_ret
        exact ⟨by rw [HN.out]; rfl, hg⟩
  · go_enter Tryz.func50, Tryz.ntmps50
    go_wp2
    go_loopw [12] (fun i wr => ∃ k : Nat, k ≤ b.length ∧ i = .int .i64 k ∧ Hid (cmpLs a b = cmpLs (a.drop k) (b.drop k)) ∧ Gn w wr) (fun i _ => b.length - (intOf i).toNat)
    case atStart => exact ⟨0, by omega, rfl, rfl, Gn.refl _⟩
    case round =>
      obtain ⟨k, hk, rfl, HR, hg⟩ := hrel
      by_cases h1 : k < b.length
      · have ha : k < a.length := by omega
        have hb : k < b.length := by omega
        obtain ⟨b1, o1, rfl, c1, c2, -⟩ := (HA.out.gr hg.gr).at_ ha
        obtain ⟨b2, o2, rfl, d1, d2, -⟩ := (HB.out.gr hg.gr).at_ hb
        have HS := Lib.hid (cmpLs_step ha hb)
        obtain ⟨x, hx⟩ : ∃ x, a[k] = x := ⟨_, rfl⟩
        obtain ⟨y, hy⟩ : ∃ y, b[k] = y := ⟨_, rfl⟩
        rw [hx] at c1 c2
        rw [hy] at d1 d2
        have HE : Hid (cmpLs (a.drop k) (b.drop k) = if cmpL x y = 0 then cmpLs (a.drop (k + 1)) (b.drop (k + 1)) else cmpL x y) := by have := HS.out; rw [hx, hy] at this; exact this
        clear hx hy HS
        obtain ⟨v, hv⟩ : ∃ v, cmpL x y = v := ⟨_, rfl⟩
        have CC := Lib.hid (fun n os => Calls.grown_of (compare_gn x y (Go.Sort.grow (wr.drewN n) os)))
        rw [hv] at HE CC
        clear hv
        have k1 := cell_grown (World.block_lt_of_cell? wr _ c1) c1; have k2 := cell_grown (World.block_lt_of_cell? wr _ c2) c2; have k3 := cell_grown (World.block_lt_of_cell? wr _ d1) d1; have k4 := cell_grown (World.block_lt_of_cell? wr _ d2) d2
        clear c1 c2 d1 d2
        go_wp2_with fail
        refine wp_region_quiet_grown (by kernel_rfl) (by kernel_rfl) ?_
        repeat (quiet_step (exact CC.out _ _))
        refine wpQuiet_nil ?_
        intro _ hw'
        obtain ⟨⟨dq, osq⟩, hw''⟩ := hw'
        subst hw''
        have hg5 := hg.trans ⟨dq, osq, rfl⟩
        clear k1 k2 k3 k4 CC
        generalize Go.Sort.grow (wr.drewN dq) osq = w5 at *
        by_cases e1 : v = 0
        · subst e1
          have HN : Hid (cmpLs a b = cmpLs (a.drop (k + 1)) (b.drop (k + 1))) := Lib.hid (by rw [HR.out, HE.out]; rfl)
          go_wp2
          go_roundw
          case rel => exact ⟨k + 1, by omega, by go_num, HN, hg5⟩
          case measure => simp [intOf]; omega
        · have HN : Hid (cmpLs a b = v) := Lib.hid (by rw [HR.out, HE.out, if_neg e1])
          go_wp2
          go_ret
          exact ⟨by rw [HN.out]; rfl, hg5⟩
      · obtain rfl : k = b.length := by omega
        have HE := Lib.hid (cmpLs_end (a := a) (b := b) (by omega) (by omega) (.inr rfl))
        have HN : Hid (cmpLs a b = cmpI a.length b.length) := Lib.hid (by rw [HR.out, HE.out]; unfold cmpI; simp only [Int.ofNat_lt])
        go_wp2_with (go_at_call 84; refine (cmpInt_any _ _ _).mono ?_; rintro e w' ⟨rfl, rfl⟩)
        go_ret
        exact ⟨by rw [HN.out]; rfl, hg⟩
end Go.Proofs.YtoooaipbkkiefaaGreatDoor
