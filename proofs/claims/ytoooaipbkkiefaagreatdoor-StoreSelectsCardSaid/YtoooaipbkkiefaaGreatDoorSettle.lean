/- store.settle: in the order of times, of one time the last. -/
import Derived.Test.YtoooaipbkkiefaaGreatDoorStable
namespace Go.Proofs.YtoooaipbkkiefaaGreatDoor
open Go.RowKit Go.Sort
set_option maxRecDepth 100000
set_option maxHeartbeats 2000000

theorem sortStable_any (b o c n : Nat) (l : List Sm) (w : World) (h : RowP w b o l) (hn : l.length = n) (hl : n ≤ 1099511627776) (h0 : 0 < n) :
    Calls Tryz.prog 85 #[.slice (some ⟨b, o, none⟩) n c, .func (.func 86) #[] #[]] w fun e w' => e = .returned (.tuple #[]) ∧ ∃ r, AscT r ∧ EqT l r ∧ Rw w w' b o r := by
  have C := Lib.hid (stable_any b o c n l w h hn hl h0)
  clear h hn
  go_enter Tryz.func85, Tryz.ntmps85
  go_wp2_with fail
  refine C.out.mono ?_
  rintro e w1 ⟨rfl, r, h1, h2, h3⟩
  go_wp2
  go_end0
  exact ⟨rfl, r, h1, h2, h3⟩

/-- of each run of one time the last -/
def lasts : List Sm → List Sm
  | [] => []
  | [x] => [x]
  | x :: y :: r => if x.1 = y.1 then lasts (y :: r) else x :: lasts (y :: r)
theorem lasts_len : ∀ l : List Sm, (lasts l).length ≤ l.length
  | [] => by simp [lasts]
  | [x] => by simp [lasts]
  | x :: y :: r => by
    have := lasts_len (y :: r)
    unfold lasts
    split <;> simp only [List.length_cons] at * <;> omega
theorem RowP.left {W : World} {b o : Nat} {l m : List Sm} (h : RowP W b o (l ++ m)) : RowP W b o l := fun i x hx => by
  have hi := (List.getElem?_eq_some_iff.1 hx).1
  exact h i x (by rw [List.getElem?_append_left hi]; exact hx)
theorem set_mid (K M : List Sm) (x : Sm) (S : List Sm) : (K ++ (M ++ x :: S)).set K.length x = (K ++ [x]) ++ ((M ++ [x]).tail ++ S) := by
  rw [List.set_append_right _ _ (Nat.le_refl _), Nat.sub_self]
  cases M with
  | nil => simp
  | cons a M => simp
attribute [local irreducible] wpQuiet
theorem settle_any (b o c n : Nat) (l : List Sm) (w : World) (h : RowP w b o l) (hn : l.length = n) (hl : n ≤ 1099511627776) (h0 : 0 < n) (hc : n ≤ c) :
    Calls Tryz.prog 51 #[.slice (some ⟨b, o, none⟩) n c] w fun e w' => ∃ r k, AscT r ∧ EqT l r ∧ (lasts r).length = k ∧ e = .returned (.slice (some ⟨b, o, none⟩) k k) ∧ Rw w w' b o (lasts r) := by
  have CS := Lib.hid (sortStable_any b o c n l w h hn hl h0)
  have HN := Lib.hid hn
  clear h hn
  go_enter Tryz.func51, Tryz.ntmps51
  go_wp2_with fail
  refine CS.out.mono ?_
  rintro e w1 ⟨rfl, r, hA, hE, hr⟩
  have HA := Lib.hid hA; have HE := Lib.hid hE; have HR0 := Lib.hid hr
  have HRN : Hid (r.length = n) := Lib.hid (by rw [hE.length]; exact HN.out)
  clear hA hE hr CS HN
  go_wp2
  go_loopw [3, 10] (fun vn vk wr => ∃ (m k : Nat) (K M : List Sm), vn = .int .i64 m ∧ vk = .int .i64 k ∧ m ≤ k ∧ k ≤ n ∧ Hid (K.length = m ∧ K.length + M.length = k ∧ K ++ lasts (r.drop k) = lasts r) ∧ Hid (Rw w wr b o (K ++ (M ++ r.drop k)))) (fun _ vk _ => n - (intOf vk).toNat)
  case atStart => exact ⟨0, 0, [], [], by go_num, by go_num, Nat.le_refl _, Nat.zero_le _, Lib.hid ⟨rfl, rfl, rfl⟩, by simpa using HR0⟩
  case round =>
    clear HR0
    obtain ⟨m, k, K, M, rfl, rfl, hmk, hkn, HK, HR⟩ := hrel
    by_cases hlt : k < n
    · have n1 : (k : Int) < (n : Int) := by omega
      have hkr : k < r.length := by have := HRN.out; omega
      obtain ⟨x, hx⟩ : ∃ x, r[k] = x := ⟨_, rfl⟩
      have hd : r.drop k = x :: r.drop (k + 1) := by rw [List.drop_eq_getElem_cons hkr, hx]
      have HD := Lib.hid hd
      have gx : (K ++ (M ++ r.drop k))[k]? = some x := by
        obtain ⟨e1, e2, e3⟩ := HK.out
        rw [hd, ← List.append_assoc, List.getElem?_append_right (by simp; omega)]
        simp [show k - (K.length + M.length) = 0 by omega]
      obtain ⟨c1, c2⟩ := cell_at HR.out.r gx
      have hbr : b < wr.heap.size := World.block_lt_of_cell? wr _ c1
      by_cases hk1 : k + 1 < n
      · have n2 : (k : Int) + 1 < (n : Int) := by omega
        have n3 : (0 : Int) ≤ (k : Int) + 1 := by omega
        have n4 : ((k : Int) + 1).toNat = k + 1 := by omega
        obtain ⟨y, hy⟩ : ∃ y, r[k + 1]'(by have := HRN.out; omega) = y := ⟨_, rfl⟩
        have hd2 : r.drop (k + 1) = y :: r.drop (k + 1 + 1) := by rw [List.drop_eq_getElem_cons (by have := HRN.out; omega), hy]
        have gy : (K ++ (M ++ r.drop k))[k + 1]? = some y := by
          obtain ⟨e1, e2, e3⟩ := HK.out
          rw [hd, hd2, ← List.append_assoc, List.getElem?_append_right (by simp; omega)]
          simp [show k + 1 - (K.length + M.length) = 1 by omega]
        obtain ⟨c3, c4⟩ := cell_at HR.out.r gy
        have HLS : Hid (lasts (r.drop k) = if x.1 = y.1 then lasts (r.drop (k + 1)) else x :: lasts (r.drop (k + 1))) := Lib.hid (by rw [hd, hd2]; rfl)
        clear hd hd2 hx hy gx gy c4
        by_cases hxy : y.1 = x.1
        · have hb : (y.1 == x.1) = true := by simpa using hxy
          have HLS2 : Hid (lasts (r.drop k) = lasts (r.drop (k + 1))) := Lib.hid (by rw [HLS.out, if_pos hxy.symm])
          clear hxy HLS
          go_upto_region 6 with fail
          have x1 : (wr.alloc (.cells #[.int .i64 x.1, .float .f64 x.2] 60)).cell? ⟨wr.heap.size, 0, none⟩ = some (.int .i64 x.1) := by go_simp
          have x2 : (wr.alloc (.cells #[.int .i64 x.1, .float .f64 x.2] 60)).cell? ⟨wr.heap.size, 1, none⟩ = some (.float .f64 x.2) := by go_simp
          have gV : Gr wr (wr.alloc (.cells #[.int .i64 x.1, .float .f64 x.2] 60)) := (Gr.refl wr).alloc _ _
          obtain ⟨V, hV⟩ : ∃ V, wr.alloc (.cells #[.int .i64 x.1, .float .f64 x.2] 60) = V := ⟨_, rfl⟩
          rw [hV] at gV x1 x2
          have ww : IntKind.i64.wrap ((k : Int) + 1) = (k : Int) + 1 := by rw [IntKind.wrap_i64]; omega
          have HRV := Lib.hid (HR.out.gr gV)
          have c5 := gV.cell c3
          rw [hV]
          obtain ⟨N, hN⟩ : ∃ N, wr.heap.size = N := ⟨_, rfl⟩
          rw [hN] at x1 x2 hbr ⊢
          clear hV hN c1 c2 c3
          have k1 := cell_regrown x1; have k2 := cell_regrown x2; have k3 := cell_regrown c5
          refine wp_region_quiet_below (by kernel_rfl) (by kernel_rfl) ?_
          repeat (quiet_step (fail))
          refine wpQuiet_nil ?_
          intro _ hw'
          obtain ⟨⟨dq, osq⟩, hw''⟩ := hw'
          subst hw''
          have HG : Hid (Gr V (Go.Sort.grow (redrawn V dq) osq)) := Lib.hid ⟨below_regrown V dq osq⟩
          clear k1 k2 k3
          generalize Go.Sort.grow (redrawn V dq) osq = w5 at *
          have HN5 := Lib.hid (HRV.out.gr HG.out)
          have x3 := HG.out.cell x1
          have x4 := HG.out.cell x2
          go_wp2
          go_roundw
          case rel => exact ⟨m, k + 1, K, M ++ [x], rfl, by go_num, by omega, by omega, Lib.hid (by
            obtain ⟨e1, e2, e3⟩ := HK.out
            exact ⟨e1, by simp; omega, by rw [← HLS2.out]; exact e3⟩), Lib.hid (by have := HN5.out; rw [HD.out] at this; simpa using this)⟩
          case measure => simp [intOf]; omega
        · have hb : (y.1 == x.1) = false := by simpa using hxy
          have HLS : Hid (lasts (r.drop k) = x :: lasts (r.drop (k + 1))) := Lib.hid (by rw [HLS.out, if_neg (Ne.symm hxy)])
          clear hxy
          go_upto_region 6 with fail
          have x1 : (wr.alloc (.cells #[.int .i64 x.1, .float .f64 x.2] 60)).cell? ⟨wr.heap.size, 0, none⟩ = some (.int .i64 x.1) := by go_simp
          have x2 : (wr.alloc (.cells #[.int .i64 x.1, .float .f64 x.2] 60)).cell? ⟨wr.heap.size, 1, none⟩ = some (.float .f64 x.2) := by go_simp
          have gV : Gr wr (wr.alloc (.cells #[.int .i64 x.1, .float .f64 x.2] 60)) := (Gr.refl wr).alloc _ _
          obtain ⟨V, hV⟩ : ∃ V, wr.alloc (.cells #[.int .i64 x.1, .float .f64 x.2] 60) = V := ⟨_, rfl⟩
          rw [hV] at gV x1 x2
          have ww : IntKind.i64.wrap ((k : Int) + 1) = (k : Int) + 1 := by rw [IntKind.wrap_i64]; omega
          have HRV := Lib.hid (HR.out.gr gV)
          have c5 := gV.cell c3
          rw [hV]
          obtain ⟨N, hN⟩ : ∃ N, wr.heap.size = N := ⟨_, rfl⟩
          rw [hN] at x1 x2 hbr ⊢
          clear hV hN c1 c2 c3
          have k1 := cell_regrown x1; have k2 := cell_regrown x2; have k3 := cell_regrown c5
          refine wp_region_quiet_below (by kernel_rfl) (by kernel_rfl) ?_
          repeat (quiet_step (fail))
          refine wpQuiet_nil ?_
          intro _ hw'
          obtain ⟨⟨dq, osq⟩, hw''⟩ := hw'
          subst hw''
          have HG : Hid (Gr V (Go.Sort.grow (redrawn V dq) osq)) := Lib.hid ⟨below_regrown V dq osq⟩
          clear k1 k2 k3
          generalize Go.Sort.grow (redrawn V dq) osq = w5 at *
          have HN5 := Lib.hid (HRV.out.gr HG.out)
          have x3 := HG.out.cell x1
          have x4 := HG.out.cell x2
          have HP : Hid (K.length = m ∧ K.length + M.length = k ∧ K ++ lasts (r.drop k) = lasts r) := HK
          obtain ⟨d1, d2, f1, f2⟩ := HN5.out.r.cell (k := m) (by
            obtain ⟨e1, e2, e3⟩ := HK.out
            have := HRN.out
            simp only [List.length_append, List.length_drop]; omega)
          have HW : Hid (Rw w ((w5.setCell ⟨b, o + m * 2, none⟩ (.int .i64 x.1)).setCell ⟨b, o + m * 2 + 1, none⟩ (.float .f64 x.2)) b o ((K ++ [x]) ++ ((M ++ [x]).tail ++ r.drop (k + 1)))) := Lib.hid (by
            obtain ⟨e1, e2, e3⟩ := HK.out
            refine ⟨?_, (HN5.out.g.setCell (p := ⟨b, o + m * 2, none⟩) rfl _).setCell (p := ⟨b, o + m * 2 + 1, none⟩) rfl _⟩
            have := HN5.out.r.store (k := m) (by
              have := HRN.out
              simp only [List.length_append, List.length_drop]; omega) x
            rw [HD.out, ← e1, set_mid, e1] at this
            exact this)
          have m1 : (m : Int) < (n : Int) := by omega
          generalize (K ++ (M ++ r.drop k))[m]'(_) = z at d1 d2
          go_wp2
          go_roundw
          case rel => exact ⟨m + 1, k + 1, K ++ [x], (M ++ [x]).tail, by go_num, by go_num, by omega, by omega, Lib.hid (by
            obtain ⟨e1, e2, e3⟩ := HK.out
            refine ⟨by simp; omega, by simp; omega, ?_⟩
            rw [← e3, HLS.out]
            simp), HW⟩
          case measure => simp [intOf]; omega
      · have n2 : ¬ (k : Int) + 1 < (n : Int) := by omega
        have nd : decide ((k : Int) + 1 < (n : Int)) = false := decide_eq_false n2
        have HLS : Hid (lasts (r.drop k) = x :: lasts (r.drop (k + 1))) := Lib.hid (by
          have : r.drop (k + 1) = [] := List.drop_eq_nil_of_le (by have := HRN.out; omega)
          rw [HD.out, this]; rfl)
        clear hd hx gx
        go_upto_region 6 with fail
        have x1 : (wr.alloc (.cells #[.int .i64 x.1, .float .f64 x.2] 60)).cell? ⟨wr.heap.size, 0, none⟩ = some (.int .i64 x.1) := by go_simp
        have x2 : (wr.alloc (.cells #[.int .i64 x.1, .float .f64 x.2] 60)).cell? ⟨wr.heap.size, 1, none⟩ = some (.float .f64 x.2) := by go_simp
        have gV : Gr wr (wr.alloc (.cells #[.int .i64 x.1, .float .f64 x.2] 60)) := (Gr.refl wr).alloc _ _
        obtain ⟨V, hV⟩ : ∃ V, wr.alloc (.cells #[.int .i64 x.1, .float .f64 x.2] 60) = V := ⟨_, rfl⟩
        rw [hV] at gV x1 x2
        have ww : IntKind.i64.wrap ((k : Int) + 1) = (k : Int) + 1 := by rw [IntKind.wrap_i64]; omega
        have HRV := Lib.hid (HR.out.gr gV)
        rw [hV]
        obtain ⟨N, hN⟩ : ∃ N, wr.heap.size = N := ⟨_, rfl⟩
        rw [hN] at x1 x2 hbr ⊢
        clear hV hN c1 c2
        have k1 := cell_regrown x1; have k2 := cell_regrown x2
        refine wp_region_quiet_below (by kernel_rfl) (by kernel_rfl) ?_
        repeat (quiet_step (fail))
        refine wpQuiet_nil ?_
        intro _ hw'
        obtain ⟨⟨dq, osq⟩, hw''⟩ := hw'
        subst hw''
        have HG : Hid (Gr V (Go.Sort.grow (redrawn V dq) osq)) := Lib.hid ⟨below_regrown V dq osq⟩
        clear k1 k2
        generalize Go.Sort.grow (redrawn V dq) osq = w5 at *
        have HN5 := Lib.hid (HRV.out.gr HG.out)
        have x3 := HG.out.cell x1
        have x4 := HG.out.cell x2
        have HP : Hid (K.length = m ∧ K.length + M.length = k ∧ K ++ lasts (r.drop k) = lasts r) := HK
        obtain ⟨d1, d2, f1, f2⟩ := HN5.out.r.cell (k := m) (by
          obtain ⟨e1, e2, e3⟩ := HK.out
          have := HRN.out
          simp only [List.length_append, List.length_drop]; omega)
        have HW : Hid (Rw w ((w5.setCell ⟨b, o + m * 2, none⟩ (.int .i64 x.1)).setCell ⟨b, o + m * 2 + 1, none⟩ (.float .f64 x.2)) b o ((K ++ [x]) ++ ((M ++ [x]).tail ++ r.drop (k + 1)))) := Lib.hid (by
          obtain ⟨e1, e2, e3⟩ := HK.out
          refine ⟨?_, (HN5.out.g.setCell (p := ⟨b, o + m * 2, none⟩) rfl _).setCell (p := ⟨b, o + m * 2 + 1, none⟩) rfl _⟩
          have := HN5.out.r.store (k := m) (by
            have := HRN.out
            simp only [List.length_append, List.length_drop]; omega) x
          rw [HD.out, ← e1, set_mid, e1] at this
          exact this)
        have m1 : (m : Int) < (n : Int) := by omega
        generalize (K ++ (M ++ r.drop k))[m]'(_) = z at d1 d2
        go_wp2
        go_roundw
        case rel => exact ⟨m + 1, k + 1, K ++ [x], (M ++ [x]).tail, by go_num, by go_num, by omega, by omega, Lib.hid (by
          obtain ⟨e1, e2, e3⟩ := HK.out
          refine ⟨by simp; omega, by simp; omega, ?_⟩
          rw [← e3, HLS.out]
          simp), HW⟩
        case measure => simp [intOf]; omega
    · obtain rfl : k = n := by omega
      have m1 : (m : Int) ≤ (c : Int) := by omega
      have m2 : (m : Int) ≤ (k : Int) := by omega
      go_wp2
      go_ret
      obtain ⟨e1, e2, e3⟩ := HK.out
      have hE : r.drop k = [] := List.drop_eq_nil_of_le (by have := HRN.out; omega)
      rw [hE] at e3
      simp only [lasts, List.append_nil] at e3
      have := HR.out
      rw [hE, List.append_nil, e3] at this
      exact ⟨r, m, HA.out, HE.out, by rw [← e3]; exact e1, rfl, this.r.left, this.g⟩
end Go.Proofs.YtoooaipbkkiefaaGreatDoor
