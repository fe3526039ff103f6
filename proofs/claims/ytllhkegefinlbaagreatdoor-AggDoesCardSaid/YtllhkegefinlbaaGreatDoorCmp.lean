/- The order of labels: compare, order. -/
import Derived.Test.YtllhkegefinlbaaGreatDoorLabs
import Derived.Laws.StructEq
import Derived.Lib.QuietBelow
namespace Go.Proofs.YtllhkegefinlbaaGreatDoor
open Go.RowKit
set_option maxRecDepth 100000
set_option maxHeartbeats 1000000

theorem eql_lab (a b c d : ByteArray) (w : World) : (binOp .eql 42 (.agg #[.string a, .string b]) (.agg #[.string c, .string d])).run Tryz.prog w = .ok (.bool (a.toList == c.toList && b.toList == d.toList)) w := by
  have u9 := Tryz.underlying9
  have a9 := Tryz.isAgg9
  have z9 := Tryz.sizeOf9
  have hS : Tryz.prog.underlying 42 = some (.struct (Tryz.prog.fieldsOf 42)) := by kernel_rfl
  have hp : Tryz.prog.stoodInHeld 42 = false := by kernel_rfl
  rw [run_eql_struct, show (10000 : Nat) = 9999 + 1 from rfl, run_equalIn_agg w 9999 42 _ _ hS hp]
  simp only [Program.fieldsOf, Tryz.underlying42]
  go_simp
  by_cases h1 : a.toList = c.toList <;> by_cases h2 : b.toList = d.toList <;> simp [h1, h2]

def ordS (a b : ByteArray) : Int := if ltS a b then -1 else if a.toList == b.toList then 0 else 1
theorem order_any (a b : ByteArray) (w : World) :
    Calls Tryz.prog 71 #[.string a, .string b] w fun e w' => e = .returned (.int .i64 (ordS a b)) ∧ w = w' := by
  have h : ordS a b = if Op.bytesLess a.toList b.toList then -1 else if a.toList == b.toList then 0 else 1 := rfl
  have H := Lib.hid h; clear h
  cases e1 : Op.bytesLess a.toList b.toList <;> cases e2 : (a.toList == b.toList)
  all_goals
    go_enter Tryz.func71, Tryz.ntmps71
    go_wp2
    go_ret
    exact ⟨by rw [H.out, e1, e2]; rfl, rfl⟩

theorem cmpL_eq (a b c d : ByteArray) : cmpL (a, b) (c, d) = if (a.toList == c.toList) && (b.toList == d.toList) then 0 else if Op.bytesLess a.toList c.toList || (a.toList == c.toList && Op.bytesLess b.toList d.toList) then -1 else 1 := by
  unfold cmpL
  have : ((a, b) = (c, d)) ↔ ((a.toList == c.toList) && (b.toList == d.toList)) = true := by
    rw [Bool.and_eq_true, beq_t, beq_t]; simp
  simp only [this]
  rfl
theorem ordS_eq (a b c d : ByteArray) : cmpL (a, b) (c, d) = if ordS a c = 0 then ordS b d else ordS a c := by
  rw [cmpL_eq]
  unfold ordS ltS
  cases e1 : (a.toList == c.toList)
  · cases Op.bytesLess a.toList c.toList <;> simp
  · have e : a = c := beq_t.1 e1
    subst e
    have e2 : Op.bytesLess a.toList a.toList = false := ltS_irrefl a
    rw [e2]
    cases e3 : (b.toList == d.toList)
    · cases Op.bytesLess b.toList d.toList <;> simp
    · have e : b = d := beq_t.1 e3
      subst e
      have e2 : Op.bytesLess b.toList b.toList = false := ltS_irrefl b
      rw [e2]; simp
theorem compare_any (a b c d : ByteArray) (w : World) :
    Calls Tryz.prog 69 #[.agg #[.string a, .string b], .agg #[.string c, .string d]] w fun e w' => e = .returned (.int .i64 (cmpL (a, b) (c, d))) ∧ w' = (w.alloc (.cells #[.string a, .string b] 42)).alloc (.cells #[.string c, .string d] 42) := by
  have H := Lib.hid (cmpL_eq a b c d)
  have hq := eql_lab a b c d
  cases e1 : (a.toList == c.toList) <;> cases e2 : (b.toList == d.toList) <;> cases e3 : Op.bytesLess a.toList c.toList <;> cases e4 : Op.bytesLess b.toList d.toList
  all_goals
    rw [e1, e2] at hq
    go_enter Tryz.func69, Tryz.ntmps69
    go_wp2
    go_ret
    exact ⟨by rw [H.out, e1, e2, e3, e4]; rfl, rfl⟩

/-! lists -/
def cmpLs : List Lb → List Lb → Int
  | [], [] => 0
  | [], _ :: _ => -1
  | _ :: _, [] => 1
  | a :: r, b :: s => if cmpL a b = 0 then cmpLs r s else cmpL a b
theorem drop_lab {l : List Lb} {k : Nat} (h : k < l.length) : l.drop k = l[k] :: l.drop (k + 1) := List.drop_eq_getElem_cons h
theorem cmpLs_step {a b : List Lb} {k : Nat} (ha : k < a.length) (hb : k < b.length) : cmpLs (a.drop k) (b.drop k) = if cmpL a[k] b[k] = 0 then cmpLs (a.drop (k + 1)) (b.drop (k + 1)) else cmpL a[k] b[k] := by
  rw [drop_lab ha, drop_lab hb]; rfl
theorem cmpLs_end {a b : List Lb} {k : Nat} (h1 : k ≤ a.length) (h2 : k ≤ b.length) (h : k = a.length ∨ k = b.length) : cmpLs (a.drop k) (b.drop k) = if a.length < b.length then -1 else if b.length < a.length then 1 else 0 := by
  rcases h with rfl | rfl
  · rw [List.drop_length]
    cases e : b.drop a.length with
    | nil => have := congrArg List.length e; simp at this; rw [if_neg (by omega), if_neg (by omega)]; rfl
    | cons x r => have := congrArg List.length e; simp at this; rw [if_pos (by omega)]; rfl
  · rw [List.drop_length]
    cases e : a.drop b.length with
    | nil => have := congrArg List.length e; simp at this; rw [if_neg (by omega), if_neg (by omega)]; rfl
    | cons x r => have := congrArg List.length e; simp at this; rw [if_neg (by omega), if_pos (by omega)]; rfl

theorem rCompare_any (A B : Option Addr) (a b : List Lb) (c d : Nat) (w : World) (ha : LabsAt w A a) (hb : LabsAt w B b) (la : a.length ≤ 1099511627776) (lb : b.length ≤ 1099511627776) :
    Calls Tryz.prog 42 #[.slice A a.length c, .slice B b.length d] w fun e w' => e = .returned (.int .i64 (cmpLs a b)) ∧ Gr w w' := by
  have HA := Lib.hid ha; have HB := Lib.hid hb
  clear ha hb
  go_enter Tryz.func42, Tryz.ntmps42
  go_wp2
  go_loopw [5] (fun i wr => ∃ k : Nat, k ≤ a.length ∧ k ≤ b.length ∧ i = .int .i64 k ∧ Hid (cmpLs a b = cmpLs (a.drop k) (b.drop k)) ∧ Gr w wr) (fun i _ => a.length - (intOf i).toNat)
  case atStart => exact ⟨0, by omega, by omega, rfl, rfl, Gr.refl _⟩
  case round =>
    obtain ⟨k, hka, hkb, rfl, HR, hg⟩ := hrel
    by_cases h1 : k < a.length
    · by_cases h2 : k < b.length
      · obtain ⟨b1, o1, rfl, c1, c2, -⟩ := (HA.out.gr hg).at_ h1
        obtain ⟨b2, o2, rfl, d1, d2, -⟩ := (HB.out.gr hg).at_ h2
        have HS := Lib.hid (cmpLs_step h1 h2)
        obtain ⟨x, hx⟩ : ∃ x, a[k] = x := ⟨_, rfl⟩
        obtain ⟨y, hy⟩ : ∃ y, b[k] = y := ⟨_, rfl⟩
        obtain ⟨p, q⟩ := x
        obtain ⟨r, s⟩ := y
        rw [hx] at c1 c2
        rw [hy] at d1 d2
        have HE : Hid (cmpLs (a.drop k) (b.drop k) = if cmpL (p, q) (r, s) = 0 then cmpLs (a.drop (k + 1)) (b.drop (k + 1)) else cmpL (p, q) (r, s)) := by have := HS.out; rw [hx, hy] at this; exact this
        have HO := Lib.hid (ordS_eq p q r s)
        clear hx hy HS
        simp only at c1 c2 d1 d2
        obtain ⟨v1, hv1⟩ : ∃ v, ordS p r = v := ⟨_, rfl⟩
        obtain ⟨v2, hv2⟩ : ∃ v, ordS q s = v := ⟨_, rfl⟩
        have o1 : ∀ W, Calls Tryz.prog 71 #[.string p, .string r] W fun e w' => e = .returned (.int .i64 v1) ∧ W = w' := fun W => hv1 ▸ order_any p r W
        have o2 : ∀ W, Calls Tryz.prog 71 #[.string q, .string s] W fun e w' => e = .returned (.int .i64 v2) ∧ W = w' := fun W => hv2 ▸ order_any q s W
        rw [hv1, hv2] at HO
        have O1 := Lib.hid o1; have O2 := Lib.hid o2
        clear hv1 hv2 o1 o2
        by_cases e1 : v1 = 0
        · subst e1
          by_cases e2 : v2 = 0
          · subst e2
            have HN : Hid (cmpLs a b = cmpLs (a.drop (k + 1)) (b.drop (k + 1))) := Lib.hid (by rw [HR.out, HE.out, HO.out]; rfl)
            go_wp2_with fail
            go_quiet ((go_at_call 71; exact quiet_left (O1.out _)))
            go_wp2_with fail
            go_quiet ((go_at_call 71; exact quiet_add_left (O2.out _)))
            go_wp2
            go_roundw
            case rel => exact ⟨k + 1, by omega, by omega, by go_num, HN, by go_simp; exact hg.drewN _⟩
            case measure => simp [intOf]; omega
          · have HN : Hid (cmpLs a b = v2) := Lib.hid (by rw [HR.out, HE.out, HO.out, if_pos rfl, if_neg e2])
            go_wp2_with fail
            go_quiet ((go_at_call 71; exact quiet_left (O1.out _)))
            go_wp2_with fail
            go_quiet ((go_at_call 71; exact quiet_add_left (O2.out _)))
            go_wp2
            go_ret
            exact ⟨by rw [HN.out]; rfl, by go_simp; exact hg.drewN _⟩
        · have HN : Hid (cmpLs a b = v1) := Lib.hid (by rw [HR.out, HE.out, HO.out, if_neg e1, if_neg e1])
          go_wp2_with fail
          go_quiet ((go_at_call 71; exact quiet_left (O1.out _)))
          go_wp2
          go_ret
          exact ⟨by rw [HN.out]; rfl, by go_simp; exact hg.drewN _⟩
      · obtain rfl : k = b.length := by omega
        have HE := Lib.hid (cmpLs_end hka hkb (.inr rfl))
        have h3 : ¬ a.length < b.length := by omega
        have HN : Hid (cmpLs a b = 1) := Lib.hid (by rw [HR.out, HE.out, if_neg h3, if_pos h1])
        go_wp2
        go_ret
        exact ⟨by rw [HN.out]; rfl, hg⟩
    · obtain rfl : k = a.length := by omega
      have HE := Lib.hid (cmpLs_end hka hkb (.inl rfl))
      by_cases h3 : a.length < b.length
      · have HN : Hid (cmpLs a b = -1) := Lib.hid (by rw [HR.out, HE.out, if_pos h3])
        go_wp2
        go_ret
        exact ⟨by rw [HN.out]; rfl, hg⟩
      · have h4 : ¬ b.length < a.length := by omega
        have HN : Hid (cmpLs a b = 0) := Lib.hid (by rw [HR.out, HE.out, if_neg h3, if_neg h4])
        go_wp2
        go_ret
        exact ⟨by rw [HN.out]; rfl, hg⟩

theorem isNaN_any (a : Int) (w : World) : Calls Tryz.prog 92 #[.int .i64 a] w fun e w' => e = .returned (.bool false) ∧ w = w' := by
  go_enter Tryz.func92, Tryz.ntmps92
  go_wp2
  go_ret
  exact ⟨by simp, rfl⟩
def cmpI (a b : Int) : Int := if a < b then -1 else if b < a then 1 else 0
theorem cmpInt_any (a b : Int) (w : World) : Calls Tryz.prog 70 #[.int .i64 a, .int .i64 b] w fun e w' => e = .returned (.int .i64 (cmpI a b)) ∧ w = w' := by
  have h : cmpI a b = if a < b then -1 else if b < a then 1 else 0 := rfl
  have H := Lib.hid h; clear h
  by_cases h1 : a < b
  · go_enter Tryz.func70, Tryz.ntmps70
    go_wp2_with (go_at_call 92; refine (isNaN_any _ _).mono ?_; rintro e w' ⟨rfl, rfl⟩)
    go_ret
    exact ⟨by rw [H.out, if_pos h1]; rfl, rfl⟩
  by_cases h2 : b < a
  · go_enter Tryz.func70, Tryz.ntmps70
    go_wp2_with (go_at_call 92; refine (isNaN_any _ _).mono ?_; rintro e w' ⟨rfl, rfl⟩)
    go_ret
    exact ⟨by rw [H.out, if_neg (by omega), if_pos h2]; rfl, rfl⟩
  · go_enter Tryz.func70, Tryz.ntmps70
    go_wp2_with (go_at_call 92; refine (isNaN_any _ _).mono ?_; rintro e w' ⟨rfl, rfl⟩)
    go_ret
    exact ⟨by rw [H.out, if_neg (by omega), if_neg (by omega)]; rfl, rfl⟩
theorem cmpLs_0_iff : ∀ (a b : List Lb), cmpLs a b = 0 ↔ a = b
  | [], [] => by simp [cmpLs]
  | [], _ :: _ => by simp [cmpLs]
  | _ :: _, [] => by simp [cmpLs]
  | x :: r, y :: s => by
    have ih := cmpLs_0_iff r s
    unfold cmpLs
    by_cases h : x = y
    · subst h
      have : cmpL x x = 0 := by simp [cmpL]
      rw [if_pos this, ih]; simp
    · have : cmpL x y ≠ 0 := by unfold cmpL; rw [if_neg h]; split <;> omega
      rw [if_neg this]
      simp [h, this]
theorem same_any (A B : Option Addr) (a b : List Lb) (c d : Nat) (w : World) (ha : LabsAt w A a) (hb : LabsAt w B b) (la : a.length ≤ 1099511627776) (lb : b.length ≤ 1099511627776) :
    Calls Tryz.prog 23 #[.slice A a.length c, .slice B b.length d] w fun e w' => e = .returned (.bool (decide (a = b))) ∧ Gr w w' := by
  have HC := Lib.hid (fun W (g : Gr w W) => rCompare_any A B a b c d W (ha.gr g) (hb.gr g) la lb)
  have hi : (cmpLs a b == 0) = decide (a = b) := by rw [Bool.eq_iff_iff]; simpa using cmpLs_0_iff a b
  have HI := Lib.hid hi; clear hi
  clear ha hb
  go_enter Tryz.func23, Tryz.ntmps23
  go_wp2_with (go_at_call 42; refine (HC.out _ (Gr.refl _)).mono ?_; rintro e w1 ⟨rfl, hg⟩)
  go_ret
  exact ⟨by rw [← HI.out]; rfl, hg⟩

/-- a contract of the kind 'nothing that was there has changed', in the worlds of a region that draws -/
theorem gq {f : FuncId} {args : Array Value} {v : Value} {W : World} (h : ∀ W', Gr W W' → Calls Tryz.prog f args W' fun e w' => e = .returned v ∧ Gr W' w') (d : Nat) (os : Array Obj) :
    Calls Tryz.prog f args (Go.Sort.grow (redrawn W d) os) fun e w'' => e = .returned v ∧ ∃ q : Regrown, w'' = Go.Sort.grow (redrawn W q.d) q.os :=
  Calls.regrown_of ((h _ ⟨below_regrown W d os⟩).mono fun _ _ ⟨h, g⟩ => ⟨h, g.b⟩)
theorem compare_gr (x y : Lb) (W : World) : Calls Tryz.prog 69 #[.agg #[.string x.1, .string x.2], .agg #[.string y.1, .string y.2]] W fun e w' => e = .returned (.int .i64 (cmpL x y)) ∧ Gr W w' :=
  (compare_any x.1 x.2 y.1 y.2 W).mono fun _ _ ⟨h, g⟩ => ⟨h, g ▸ ((Gr.refl _).alloc _ _).alloc _ _⟩

theorem pCompare_any (A B : Option Addr) (a b : List Lb) (c d : Nat) (w : World) (ha : LabsAt w A a) (hb : LabsAt w B b) (la : a.length ≤ 1099511627776) (lb : b.length ≤ 1099511627776) :
    Calls Tryz.prog 38 #[.slice A a.length c, .slice B b.length d] w fun e w' => e = .returned (.int .i64 (cmpLs a b)) ∧ Gr w w' := by
  have HA := Lib.hid ha; have HB := Lib.hid hb
  clear ha hb
  by_cases hab : a.length ≤ b.length
  · go_enter Tryz.func38, Tryz.ntmps38
    go_wp2
    go_loopw [12] (fun i wr => ∃ k : Nat, k ≤ a.length ∧ i = .int .i64 k ∧ Hid (cmpLs a b = cmpLs (a.drop k) (b.drop k)) ∧ Gr w wr) (fun i _ => a.length - (intOf i).toNat)
    case atStart => exact ⟨0, by omega, rfl, rfl, Gr.refl _⟩
    case round =>
      obtain ⟨k, hk, rfl, HR, hg⟩ := hrel
      by_cases h1 : k < a.length
      · have ha : k < a.length := by omega
        have hb : k < b.length := by omega
        obtain ⟨b1, o1, rfl, c1, c2, -⟩ := (HA.out.gr hg).at_ ha
        obtain ⟨b2, o2, rfl, d1, d2, -⟩ := (HB.out.gr hg).at_ hb
        have HS := Lib.hid (cmpLs_step ha hb)
        obtain ⟨x, hx⟩ : ∃ x, a[k] = x := ⟨_, rfl⟩
        obtain ⟨y, hy⟩ : ∃ y, b[k] = y := ⟨_, rfl⟩
        rw [hx] at c1 c2
        rw [hy] at d1 d2
        have HE : Hid (cmpLs (a.drop k) (b.drop k) = if cmpL x y = 0 then cmpLs (a.drop (k + 1)) (b.drop (k + 1)) else cmpL x y) := by have := HS.out; rw [hx, hy] at this; exact this
        clear hx hy HS
        obtain ⟨v, hv⟩ : ∃ v, cmpL x y = v := ⟨_, rfl⟩
        have CC := Lib.hid (gq (W := wr) fun W' _ => compare_gr x y W')
        rw [hv] at HE CC
        clear hv
        have k1 := cell_regrown c1; have k2 := cell_regrown c2; have k3 := cell_regrown d1; have k4 := cell_regrown d2
        clear c1 c2 d1 d2
        go_wp2_with fail
        refine wp_region_quiet_below (by kernel_rfl) (by kernel_rfl) ?_
        repeat (quiet_step (exact CC.out _ _))
        refine wpQuiet_nil ?_
        intro _ hw'
        obtain ⟨⟨dq, osq⟩, hw''⟩ := hw'
        subst hw''
        have hg5 := hg.trans ⟨below_regrown wr dq osq⟩
        clear k1 k2 k3 k4 CC
        generalize Go.Sort.grow (redrawn wr dq) osq = w5 at *
        by_cases e1 : v = 0
        · subst e1
          have HN : Hid (cmpLs a b = cmpLs (a.drop (k + 1)) (b.drop (k + 1))) := Lib.hid (by rw [HR.out, HE.out]; rfl)
          go_wp2
          go_roundw
          case rel => exact ⟨k + 1, by omega, by go_num, HN, hg5⟩
          case measure => simp [intOf]; omega
        · have HN : Hid (cmpLs a b = v) := Lib.hid (by rw [HR.out, HE.out, if_neg e1])
          go_wp2
          go_ret
          exact ⟨by rw [HN.out]; rfl, hg5⟩
      · obtain rfl : k = a.length := by omega
        have HE := Lib.hid (cmpLs_end (a := a) (b := b) (by omega) (by omega) (.inl rfl))
        have HN : Hid (cmpLs a b = cmpI a.length b.length) := Lib.hid (by rw [HR.out, HE.out]; unfold cmpI; simp only [Int.ofNat_lt])
        go_wp2_with (go_at_call 70; refine (cmpInt_any _ _ _).mono ?_; rintro e w' ⟨rfl, rfl⟩)
        go_ret
        exact ⟨by rw [HN.out]; rfl, hg⟩
  · go_enter Tryz.func38, Tryz.ntmps38
    go_wp2
    go_loopw [12] (fun i wr => ∃ k : Nat, k ≤ b.length ∧ i = .int .i64 k ∧ Hid (cmpLs a b = cmpLs (a.drop k) (b.drop k)) ∧ Gr w wr) (fun i _ => b.length - (intOf i).toNat)
    case atStart => exact ⟨0, by omega, rfl, rfl, Gr.refl _⟩
    case round =>
      obtain ⟨k, hk, rfl, HR, hg⟩ := hrel
      by_cases h1 : k < b.length
      · have ha : k < a.length := by omega
        have hb : k < b.length := by omega
        obtain ⟨b1, o1, rfl, c1, c2, -⟩ := (HA.out.gr hg).at_ ha
        obtain ⟨b2, o2, rfl, d1, d2, -⟩ := (HB.out.gr hg).at_ hb
        have HS := Lib.hid (cmpLs_step ha hb)
        obtain ⟨x, hx⟩ : ∃ x, a[k] = x := ⟨_, rfl⟩
        obtain ⟨y, hy⟩ : ∃ y, b[k] = y := ⟨_, rfl⟩
        rw [hx] at c1 c2
        rw [hy] at d1 d2
        have HE : Hid (cmpLs (a.drop k) (b.drop k) = if cmpL x y = 0 then cmpLs (a.drop (k + 1)) (b.drop (k + 1)) else cmpL x y) := by have := HS.out; rw [hx, hy] at this; exact this
        clear hx hy HS
        obtain ⟨v, hv⟩ : ∃ v, cmpL x y = v := ⟨_, rfl⟩
        have CC := Lib.hid (gq (W := wr) fun W' _ => compare_gr x y W')
        rw [hv] at HE CC
        clear hv
        have k1 := cell_regrown c1; have k2 := cell_regrown c2; have k3 := cell_regrown d1; have k4 := cell_regrown d2
        clear c1 c2 d1 d2
        go_wp2_with fail
        refine wp_region_quiet_below (by kernel_rfl) (by kernel_rfl) ?_
        repeat (quiet_step (exact CC.out _ _))
        refine wpQuiet_nil ?_
        intro _ hw'
        obtain ⟨⟨dq, osq⟩, hw''⟩ := hw'
        subst hw''
        have hg5 := hg.trans ⟨below_regrown wr dq osq⟩
        clear k1 k2 k3 k4 CC
        generalize Go.Sort.grow (redrawn wr dq) osq = w5 at *
        by_cases e1 : v = 0
        · subst e1
          have HN : Hid (cmpLs a b = cmpLs (a.drop (k + 1)) (b.drop (k + 1))) := Lib.hid (by rw [HR.out, HE.out]; rfl)
          go_wp2
          go_roundw
          case rel => exact ⟨k + 1, by omega, by go_num, HN, hg5⟩
          case measure => simp [intOf]; omega
        · have HN : Hid (cmpLs a b = v) := Lib.hid (by rw [HR.out, HE.out, if_neg e1])
          go_wp2
          go_ret
          exact ⟨by rw [HN.out]; rfl, hg5⟩
      · obtain rfl : k = b.length := by omega
        have HE := Lib.hid (cmpLs_end (a := a) (b := b) (by omega) (by omega) (.inr rfl))
        have HN : Hid (cmpLs a b = cmpI a.length b.length) := Lib.hid (by rw [HR.out, HE.out]; unfold cmpI; simp only [Int.ofNat_lt])
        go_wp2_with (go_at_call 70; refine (cmpInt_any _ _ _).mono ?_; rintro e w' ⟨rfl, rfl⟩)
        go_ret
        exact ⟨by rw [HN.out]; rfl, hg⟩
end Go.Proofs.YtllhkegefinlbaaGreatDoor
