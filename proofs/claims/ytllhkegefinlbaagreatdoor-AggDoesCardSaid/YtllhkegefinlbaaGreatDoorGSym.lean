/- The library's stable sort over samples: a merge in place. -/
import Derived.Test.YtllhkegefinlbaaGreatDoorGSwap
import Derived.Deep.Cut
import Derived.Deep.CutRange
import Derived.Deep.CutBlock
namespace Go.Proofs.YtllhkegefinlbaaGreatDoor.Gs
open Go.RowKit Go.Sort
set_option maxRecDepth 100000
variable {tp : Bool} {ca : Nat}
set_option maxHeartbeats 4000000

/-- the comparison, whatever the sort has done to its row -/
def Cmps (tp : Bool) (ca : Nat) (w : World) (b : Nat) : Prop := ∀ W, Only w W b → ∀ x y : Po tp, Calls Tryz.prog 47 #[.agg #[.slice x.sa x.sn x.sc, .float .f64 x.fb], .agg #[.slice y.sa y.sn y.sc, .float .f64 y.fb], .pointer (some ⟨ca, 0, none⟩)] W fun e w' => e = .returned (.int .i64 (cmpI x.k y.k)) ∧ Pt.Gn W w'
theorem Cmps.only {w W : World} {b : Nat} (h : Cmps tp ca w b) (g : Only w W b) : Cmps tp ca W b := fun W' g' => h W' (g.trans g')
theorem Cmps.any {w wr : World} {b : Nat} (h : Cmps tp ca w b) (g : Only w wr b) (x y : Po tp) (W : World) (gr : Gr wr W) : Calls Tryz.prog 47 #[.agg #[.slice x.sa x.sn x.sc, .float .f64 x.fb], .agg #[.slice y.sa y.sn y.sc, .float .f64 y.fb], .pointer (some ⟨ca, 0, none⟩)] W fun e w' => e = .returned (.int .i64 (cmpI x.k y.k)) ∧ Gr W w' :=
  (h W (g.gr gr) x y).mono fun _ _ h => ⟨h.1, h.2.gr⟩
theorem cmpI_lt {a b : Int} : cmpI a b < 0 ↔ a < b := by
  unfold cmpI; split
  · simp; omega
  · split <;> simp <;> omega

theorem get_U {P U V S : List (Po tp)} {t : Nat} (h : t < U.length) : (P ++ (U ++ (V ++ S)))[P.length + t]? = some U[t] := by
  rw [List.getElem?_append_right (by omega), show P.length + t - P.length = t by omega, List.getElem?_append_left h, List.getElem?_eq_getElem h]
theorem get_V {P U V S : List (Po tp)} {t : Nat} (h : t < V.length) : (P ++ (U ++ (V ++ S)))[P.length + U.length + t]? = some V[t] := by
  rw [List.getElem?_append_right (by omega), List.getElem?_append_right (by omega), show P.length + U.length + t - P.length - U.length = t by omega, List.getElem?_append_left h, List.getElem?_eq_getElem h]
theorem cell_at {W : World} {b o : Nat} {l : List (Po tp)} (h : RowP W b o l) {k : Nat} {z : Po tp} (hz : l[k]? = some z) : W.cell? ⟨b, o + k * 2, none⟩ = some (.slice z.sa z.sn z.sc) ∧ W.cell? ⟨b, o + k * 2 + 1, none⟩ = some (.float .f64 z.fb) := ⟨(h k z hz).1.1, (h k z hz).2.1⟩

/-- neighbours change places: the stores, in the text's order -/
theorem Rw.next {w W : World} {b o p : Nat} {A C : List (Po tp)} {x y : Po tp} (h : Rw w W b o (A ++ x :: y :: C)) (hp : A.length = p) :
    Rw w ((((W.setCell ⟨b, o + p * 2, none⟩ (.slice y.sa y.sn y.sc)).setCell ⟨b, o + p * 2 + 1, none⟩ (.float .f64 y.fb)).setCell ⟨b, o + (p + 1) * 2, none⟩ (.slice x.sa x.sn x.sc)).setCell ⟨b, o + (p + 1) * 2 + 1, none⟩ (.float .f64 x.fb)) b o (A ++ y :: x :: C) := by
  subst hp
  have hp : A.length < (A ++ x :: y :: C).length := by simp
  have hq : A.length + 1 < (A ++ x :: y :: C).length := by simp
  have := h.swap hp hq
  rw [swp2_next] at this
  have e1 : (A ++ x :: y :: C)[A.length] = x := by simp
  have e2 : (A ++ x :: y :: C)[A.length + 1] = y := by simp
  rwa [e1, e2] at this
theorem Rw.prev {w W : World} {b o p : Nat} {A C : List (Po tp)} {x y : Po tp} (h : Rw w W b o (A ++ x :: y :: C)) (hp : A.length = p) :
    Rw w ((((W.setCell ⟨b, o + (p + 1) * 2, none⟩ (.slice x.sa x.sn x.sc)).setCell ⟨b, o + (p + 1) * 2 + 1, none⟩ (.float .f64 x.fb)).setCell ⟨b, o + p * 2, none⟩ (.slice y.sa y.sn y.sc)).setCell ⟨b, o + p * 2 + 1, none⟩ (.float .f64 y.fb)) b o (A ++ y :: x :: C) := by
  subst hp
  have hp : A.length < (A ++ x :: y :: C).length := by simp
  have hq : A.length + 1 < (A ++ x :: y :: C).length := by simp
  have := h.swap hq hp
  rw [swp2_back] at this
  have e1 : (A ++ x :: y :: C)[A.length] = x := by simp
  have e2 : (A ++ x :: y :: C)[A.length + 1] = y := by simp
  rwa [e1, e2] at this
/-- the cells of two neighbours, and behind the first store -/
theorem RowP.pair {W : World} {b o p : Nat} {A C : List (Po tp)} {x y : Po tp} (h : RowP W b o (A ++ x :: y :: C)) (hp : A.length = p) :
    (W.cell? ⟨b, o + p * 2, none⟩ = some (.slice x.sa x.sn x.sc) ∧ W.cell? ⟨b, o + p * 2 + 1, none⟩ = some (.float .f64 x.fb) ∧ W.frozen? ⟨b, o + p * 2, none⟩ = false ∧ W.frozen? ⟨b, o + p * 2 + 1, none⟩ = false) ∧
    (W.cell? ⟨b, o + (p + 1) * 2, none⟩ = some (.slice y.sa y.sn y.sc) ∧ W.cell? ⟨b, o + (p + 1) * 2 + 1, none⟩ = some (.float .f64 y.fb) ∧ W.frozen? ⟨b, o + (p + 1) * 2, none⟩ = false ∧ W.frozen? ⟨b, o + (p + 1) * 2 + 1, none⟩ = false) := by
  subst hp
  have hx : (A ++ x :: y :: C)[A.length]? = some x := by simp
  have hy : (A ++ x :: y :: C)[A.length + 1]? = some y := by simp
  obtain ⟨⟨c1, f1⟩, c2, f2⟩ := h _ _ hx
  obtain ⟨⟨d1, g1⟩, d2, g2⟩ := h _ _ hy
  exact ⟨⟨c1, c2, f1, f2⟩, d1, d2, g1, g2⟩
theorem cells_after {W : World} {b o p q : Nat} {u v u' v' : Value} (hne : p ≠ q) (c1 : W.cell? ⟨b, o + q * 2, none⟩ = some u) (c2 : W.cell? ⟨b, o + q * 2 + 1, none⟩ = some v) :
    ((W.setCell ⟨b, o + p * 2, none⟩ u').setCell ⟨b, o + p * 2 + 1, none⟩ v').cell? ⟨b, o + q * 2, none⟩ = some u ∧ ((W.setCell ⟨b, o + p * 2, none⟩ u').setCell ⟨b, o + p * 2 + 1, none⟩ v').cell? ⟨b, o + q * 2 + 1, none⟩ = some v := by
  constructor
  · rw [World.cell?_setCell_other _ _ _ _ (by simp; first | done | omega), World.cell?_setCell_other _ _ _ _ (by simp; first | done | omega)]; exact c1
  · rw [World.cell?_setCell_other _ _ _ _ (by simp; first | done | omega), World.cell?_setCell_other _ _ _ _ (by simp; first | done | omega)]; exact c2

theorem sym_left (b o c n x m y : Nat) (P V S : List (Po tp)) (u : Po tp) (w : World) (h : RowP w b o (P ++ ([u] ++ (V ++ S)))) (hn : P.length + (1 + (V.length + S.length)) = n) (hl : n ≤ 1099511627776) (hx : P.length = x) (hm : x + 1 = m) (hy : m + V.length = y) (hV : AscT V) (hC : Cmps tp ca w b) :
    Calls Tryz.prog 96 #[.slice (some ⟨b, o, none⟩) n c, .int .i64 x, .int .i64 m, .int .i64 y, .func (.func 47) #[] #[.pointer (some ⟨ca, 0, none⟩)]] w fun e w' => e = .returned (.tuple #[]) ∧ ∃ R, Mrg [u] V R ∧ Rw w w' b o (P ++ (R ++ S)) := by
  have H := Lib.hid (Rw.refl h)
  have HCM := Lib.hid hC
  clear hC
  have b1 : (m : Int) - x = 1 := by omega
  have HV := Lib.hid hV
  have HX := Lib.hid hx
  rw [hx] at hn
  clear h hV hx
  go_enter Tryz.func96, Tryz.ntmps96
  go_wp2
  go_loopw [10, 11] (fun vi vj wr => ∃ (i j : Nat), vi = .int .i64 ((m + i : Nat) : Int) ∧ vj = .int .i64 ((m + j : Nat) : Int) ∧ i ≤ j ∧ j ≤ V.length ∧ Hid ((∀ t z, V[t]? = some z → t < i → z.k < u.k) ∧ (∀ t z, V[t]? = some z → j ≤ t → u.k ≤ z.k)) ∧ Hid (Rw w wr b o (P ++ ([u] ++ (V ++ S))))) (fun vi vj _ => (intOf vj).toNat - (intOf vi).toNat)
  case atStart => exact ⟨0, V.length, by go_num, by go_num, Nat.zero_le _, Nat.le_refl _, Lib.hid ⟨fun t z _ h => absurd h (by omega), fun t z hz h => by have := (List.getElem?_eq_some_iff.1 hz).1; omega⟩, H⟩
  case round =>
    clear H
    obtain ⟨i, j, rfl, rfl, hij, hj, HI, HR⟩ := hrel
    by_cases hlt : i < j
    · have n1 : ((m + i : Nat) : Int) < ((m + j : Nat) : Int) := by omega
      obtain ⟨q, hq⟩ : ∃ q, (i + j) / 2 = q := ⟨_, rfl⟩
      obtain ⟨hh, hhh⟩ : ∃ hh, m + q = hh := ⟨_, rfl⟩
      have hqV : q < V.length := by omega
      obtain ⟨z, hz⟩ : ∃ z, V[q] = z := ⟨_, rfl⟩
      have HZ : Hid (V[q]? = some z) := Lib.hid (by rw [List.getElem?_eq_getElem hqV, hz])
      clear hz
      have HQ : Hid (i ≤ q ∧ q < j ∧ m + q = hh) := Lib.hid ⟨by omega, by omega, hhh⟩
      have d1 : ((m : Int) + i + (m + j)) / 2 = (hh : Int) := by omega
      have p1 : (hh : Int) < (n : Int) := by omega
      have p2 : (x : Int) < (n : Int) := by omega
      have gz : (P ++ ([u] ++ (V ++ S)))[hh]? = some z := by
        have := get_V (P := P) (U := [u]) (S := S) hqV
        rw [show P.length + [u].length + q = hh by have := HX.out; simp; omega] at this
        rw [this, ← HZ.out, List.getElem?_eq_getElem hqV]
      have gu : (P ++ ([u] ++ (V ++ S)))[x]? = some u := by
        rw [← HX.out]; simp
      obtain ⟨c1, c2⟩ := cell_at HR.out.r gz
      obtain ⟨c3, c4⟩ := cell_at HR.out.r gu
      have k1 := cell_regrown c1; have k2 := cell_regrown c2; have k3 := cell_regrown c3; have k4 := cell_regrown c4
      have CC := Lib.hid (gq (W := wr) fun W' g => HCM.out.any HR.out.g z u W' g)
      obtain ⟨v, hv⟩ : ∃ v, cmpI z.k u.k = v := ⟨_, rfl⟩
      have HC : Hid (v < 0 ↔ z.k < u.k) := Lib.hid (by rw [← hv]; exact cmpI_lt)
      rw [hv] at CC
      have HB : Hid (i < j ∧ j ≤ V.length ∧ i ≤ j) := Lib.hid ⟨hlt, hj, hij⟩
      clear hv c1 c2 c3 c4 gz gu hq hhh hqV hlt hj hij
      go_wp2_with fail
      refine wp_region_quiet_below (by kernel_rfl) (by kernel_rfl) ?_
      repeat (quiet_step (exact CC.out _ _))
      refine wpQuiet_nil ?_
      intro _ hw'
      obtain ⟨⟨dq, osq⟩, hw''⟩ := hw'
      subst hw''
      have HG : Hid (Gr wr (Go.Sort.grow (redrawn wr dq) osq)) := Lib.hid ⟨below_regrown wr dq osq⟩
      clear k1 k2 k3 k4 CC
      generalize Go.Sort.grow (redrawn wr dq) osq = w5 at *
      have HN := Lib.hid (HR.out.gr HG.out)
      by_cases hv : v < 0
      · go_wp2
        obtain ⟨h1, h2, h3⟩ := HB.out
        obtain ⟨h4, h5, h6⟩ := HQ.out
        go_roundw
        case rel => exact ⟨q + 1, j, by go_num, rfl, by omega, h2, Lib.hid ⟨fun t z' hz' ht => by
          rcases Nat.lt_or_ge t q with e | e
          · have := List.pairwise_iff_getElem.1 HV.out t q (by omega) (by omega) e
            have e1 := (List.getElem?_eq_some_iff.1 hz').2
            have e2 := (List.getElem?_eq_some_iff.1 HZ.out).2
            rw [e1, e2] at this
            have := HC.out.1 hv
            omega
          · obtain rfl : t = q := by omega
            rw [HZ.out] at hz'
            cases hz'
            exact HC.out.1 hv, HI.out.2⟩, HN⟩
        case measure => simp [intOf]; omega
      · go_wp2
        obtain ⟨h1, h2, h3⟩ := HB.out
        obtain ⟨h4, h5, h6⟩ := HQ.out
        go_roundw
        case rel => exact ⟨i, q, rfl, by go_num, by omega, by omega, Lib.hid ⟨HI.out.1, fun t z' hz' ht => by
          have hu : u.k ≤ z.k := by
            have := HC.out
            omega
          rcases Nat.lt_or_ge q t with e | e
          · have := List.pairwise_iff_getElem.1 HV.out q t (by omega) (List.getElem?_eq_some_iff.1 hz').1 e
            have e1 := (List.getElem?_eq_some_iff.1 hz').2
            have e2 := (List.getElem?_eq_some_iff.1 HZ.out).2
            rw [e1, e2] at this
            omega
          · obtain rfl : t = q := by omega
            rw [HZ.out] at hz'
            cases hz'
            exact hu⟩, HN⟩
        case measure => simp [intOf]; omega
    · obtain rfl : i = j := by omega
      have n1 : ¬ ((m + i : Nat) : Int) < ((m + i : Nat) : Int) := by omega
      clear hlt hij
      have HL : Hid (i ≤ V.length ∧ P.length = x ∧ x + 1 = m) := Lib.hid ⟨hj, HX.out, hm⟩
      go_wp2
      go_loopw [13] (fun vk wk => ∃ (k : Nat), vk = .int .i64 ((x + k : Nat) : Int) ∧ k ≤ i ∧ Hid (Rw w wk b o (P ++ (V.take k ++ (u :: (V.drop k ++ S)))))) (fun vk _ => (m + i) - (intOf vk).toNat)
      case atStart => exact ⟨0, by go_num, Nat.zero_le _, by simpa using HR⟩
      case round =>
        clear HR
        obtain ⟨k, rfl, hk, HR⟩ := hrel
        by_cases hlt : k < i
        · obtain ⟨p, hp⟩ : ∃ p, x + k = p := ⟨_, rfl⟩
          obtain ⟨h1, h2, h3⟩ := HL.out
          have hkV : k < V.length := by omega
          obtain ⟨z, hz⟩ : ∃ z, V[k] = z := ⟨_, rfl⟩
          have e0 : P ++ (V.take k ++ (u :: (V.drop k ++ S))) = (P ++ V.take k) ++ u :: z :: (V.drop (k + 1) ++ S) := by
            rw [List.drop_eq_getElem_cons hkV, hz]; simp
          have e9 : (P ++ V.take k) ++ z :: u :: (V.drop (k + 1) ++ S) = P ++ (V.take (k + 1) ++ (u :: (V.drop (k + 1) ++ S))) := by
            rw [List.take_succ_eq_append_getElem hkV, hz]; simp
          have hA : (P ++ V.take k).length = p := by simp; omega
          rw [e0] at HR
          obtain ⟨⟨c1, c2, f1, f2⟩, d1, d2, g1, g2⟩ := HR.out.r.pair hA
          have HN := Lib.hid ((HR.out.drew).next hA)
          rw [e9] at HN
          obtain ⟨a1, a2⟩ := cells_after (p := p) (u' := .slice z.sa z.sn z.sc) (v' := .float .f64 z.fb) (by omega) d1 d2
          have p1 : (p : Int) + 1 < (n : Int) := by omega
          have p2 : (p : Int) < (n : Int) := by omega
          have p3 : (0 : Int) ≤ (p : Int) + 1 := by omega
          have p4 : ((p : Int) + 1).toNat = p + 1 := by omega
          have w1 : IntKind.i64.wrap ((p : Int) + 1) = (p : Int) + 1 := by rw [IntKind.wrap_i64]; omega
          have n2 : (p : Int) < ((m + i : Nat) : Int) - 1 := by omega
          have w2 : IntKind.i64.wrap (((m + i : Nat) : Int) - 1) = ((m + i : Nat) : Int) - 1 := by rw [IntKind.wrap_i64]; omega
          have HP : Hid (k < i ∧ x + k = p ∧ x + 1 = m) := Lib.hid ⟨hlt, hp, h3⟩
          rw [show ((x + k : Nat) : Int) = (p : Int) by rw [hp]] at *
          clear HR e0 e9 hA hz hkV hlt hp h1 h2 h3 hk
          go_wp2_with fail
          go_big_region
          all_goals go_wp2
          obtain ⟨h1, h2, h3⟩ := HP.out
          go_roundw
          case rel => exact ⟨k + 1, by go_num, by omega, HN⟩
          case measure => simp [intOf]; omega
        · obtain rfl : k = i := by omega
          have n2 : ¬ ((x + k : Nat) : Int) < ((m + k : Nat) : Int) - 1 := by omega
          have w2 : IntKind.i64.wrap (((m + k : Nat) : Int) - 1) = ((m + k : Nat) : Int) - 1 := by rw [IntKind.wrap_i64]; omega
          go_wp2
          refine bodyPost_ret (results_none rfl _ _ _) rfl ?_
          obtain ⟨h1, h2, h3⟩ := HL.out
          refine ⟨rfl, V.take k ++ u :: V.drop k, ?_, by simpa using HR.out⟩
          have := Mrg.one_left (x := u) (v1 := V.take k) (v2 := V.drop k) (by rw [List.take_append_drop]; exact HV.out) (fun z hz => by
            obtain ⟨t, ht, rfl⟩ := List.getElem_of_mem hz
            simp at ht
            exact HI.out.1 t _ (by rw [List.getElem_take]; exact List.getElem?_eq_getElem (by omega)) (by omega)) (fun z hz => by
            obtain ⟨t, ht, rfl⟩ := List.getElem_of_mem hz
            simp at ht
            exact HI.out.2 (k + t) _ (by rw [List.getElem_drop]; exact List.getElem?_eq_getElem (by omega)) (by omega))
          rwa [List.take_append_drop] at this
theorem sym_right (b o c n x m y : Nat) (P U S : List (Po tp)) (v : Po tp) (w : World) (h : RowP w b o (P ++ (U ++ ([v] ++ S)))) (hn : P.length + (U.length + (1 + S.length)) = n) (hl : n ≤ 1099511627776) (hx : P.length = x) (hm : x + U.length = m) (hy : m + 1 = y) (hU : AscT U) (hU2 : 2 ≤ U.length) (hC : Cmps tp ca w b) :
    Calls Tryz.prog 96 #[.slice (some ⟨b, o, none⟩) n c, .int .i64 x, .int .i64 m, .int .i64 y, .func (.func 47) #[] #[.pointer (some ⟨ca, 0, none⟩)]] w fun e w' => e = .returned (.tuple #[]) ∧ ∃ R, Mrg U [v] R ∧ Rw w w' b o (P ++ (R ++ S)) := by
  have H := Lib.hid (Rw.refl h)
  have HCM := Lib.hid hC
  clear hC
  have b1 : ((m : Int) - x == 1) = false := by rw [beq_eq_false_iff_ne]; omega
  have b2 : (y : Int) - m = 1 := by omega
  have HV := Lib.hid hU
  have HX := Lib.hid hx
  rw [hx] at hn
  clear h hU hx
  go_enter Tryz.func96, Tryz.ntmps96
  go_wp2
  go_loopw [14, 15] (fun vi vj wr => ∃ (i j : Nat), vi = .int .i64 ((x + i : Nat) : Int) ∧ vj = .int .i64 ((x + j : Nat) : Int) ∧ i ≤ j ∧ j ≤ U.length ∧ Hid ((∀ t z, U[t]? = some z → t < i → z.k ≤ v.k) ∧ (∀ t z, U[t]? = some z → j ≤ t → v.k < z.k)) ∧ Hid (Rw w wr b o (P ++ (U ++ ([v] ++ S))))) (fun vi vj _ => (intOf vj).toNat - (intOf vi).toNat)
  case atStart => exact ⟨0, U.length, by go_num, by go_num, Nat.zero_le _, Nat.le_refl _, Lib.hid ⟨fun t z _ h => absurd h (by omega), fun t z hz h => by have := (List.getElem?_eq_some_iff.1 hz).1; omega⟩, H⟩
  case round =>
    clear H
    obtain ⟨i, j, rfl, rfl, hij, hj, HI, HR⟩ := hrel
    by_cases hlt : i < j
    · have n1 : ((x + i : Nat) : Int) < ((x + j : Nat) : Int) := by omega
      obtain ⟨q, hq⟩ : ∃ q, (i + j) / 2 = q := ⟨_, rfl⟩
      obtain ⟨hh, hhh⟩ : ∃ hh, x + q = hh := ⟨_, rfl⟩
      have hqV : q < U.length := by omega
      obtain ⟨z, hz⟩ : ∃ z, U[q] = z := ⟨_, rfl⟩
      have HZ : Hid (U[q]? = some z) := Lib.hid (by rw [List.getElem?_eq_getElem hqV, hz])
      clear hz
      have HQ : Hid (i ≤ q ∧ q < j ∧ x + q = hh) := Lib.hid ⟨by omega, by omega, hhh⟩
      have d1 : ((x : Int) + i + (x + j)) / 2 = (hh : Int) := by omega
      have p1 : (hh : Int) < (n : Int) := by omega
      have p2 : (m : Int) < (n : Int) := by omega
      have gz : (P ++ (U ++ ([v] ++ S)))[hh]? = some z := by
        have := get_U (P := P) (V := [v]) (S := S) hqV
        rw [show P.length + q = hh by have := HX.out; omega] at this
        rw [this, ← HZ.out, List.getElem?_eq_getElem hqV]
      have gu : (P ++ (U ++ ([v] ++ S)))[m]? = some v := by
        have := get_V (P := P) (U := U) (V := [v]) (S := S) (t := 0) (by simp)
        rwa [show P.length + U.length + 0 = m by have := HX.out; omega] at this
      obtain ⟨c1, c2⟩ := cell_at HR.out.r gz
      obtain ⟨c3, c4⟩ := cell_at HR.out.r gu
      have k1 := cell_regrown c1; have k2 := cell_regrown c2; have k3 := cell_regrown c3; have k4 := cell_regrown c4
      have CC := Lib.hid (gq (W := wr) fun W' g => HCM.out.any HR.out.g v z W' g)
      obtain ⟨r, hv⟩ : ∃ r, cmpI v.k z.k = r := ⟨_, rfl⟩
      have HC : Hid (r < 0 ↔ v.k < z.k) := Lib.hid (by rw [← hv]; exact cmpI_lt)
      rw [hv] at CC
      have HB : Hid (i < j ∧ j ≤ U.length ∧ i ≤ j) := Lib.hid ⟨hlt, hj, hij⟩
      clear hv c1 c2 c3 c4 gz gu hq hhh hqV hlt hj hij
      by_cases hv : r < 0
      · have hv2 : (!decide (r < 0)) = false := by simp; exact hv
        go_wp2_with fail
        refine wp_region_quiet_below (by kernel_rfl) (by kernel_rfl) ?_
        repeat (quiet_step (exact CC.out _ _))
        refine wpQuiet_nil ?_
        intro _ hw'
        obtain ⟨⟨dq, osq⟩, hw''⟩ := hw'
        subst hw''
        have HG : Hid (Gr wr (Go.Sort.grow (redrawn wr dq) osq)) := Lib.hid ⟨below_regrown wr dq osq⟩
        clear k1 k2 k3 k4 CC
        generalize Go.Sort.grow (redrawn wr dq) osq = w5 at *
        have HN := Lib.hid (HR.out.gr HG.out)
        go_wp2
        obtain ⟨h1, h2, h3⟩ := HB.out
        obtain ⟨h4, h5, h6⟩ := HQ.out
        go_roundw
        case rel => exact ⟨i, q, rfl, by go_num, by omega, by omega, Lib.hid ⟨HI.out.1, fun t z' hz' ht => by
          have hu := HC.out.1 hv
          rcases Nat.lt_or_ge q t with e | e
          · have := List.pairwise_iff_getElem.1 HV.out q t (by omega) (List.getElem?_eq_some_iff.1 hz').1 e
            have e1 := (List.getElem?_eq_some_iff.1 hz').2
            have e2 := (List.getElem?_eq_some_iff.1 HZ.out).2
            rw [e1, e2] at this
            omega
          · obtain rfl : t = q := by omega
            rw [HZ.out] at hz'
            cases hz'
            exact hu⟩, HN⟩
        case measure => simp [intOf]; omega
      · have hv2 : (!decide (r < 0)) = true := by simp; omega
        go_wp2_with fail
        refine wp_region_quiet_below (by kernel_rfl) (by kernel_rfl) ?_
        repeat (quiet_step (exact CC.out _ _))
        refine wpQuiet_nil ?_
        intro _ hw'
        obtain ⟨⟨dq, osq⟩, hw''⟩ := hw'
        subst hw''
        have HG : Hid (Gr wr (Go.Sort.grow (redrawn wr dq) osq)) := Lib.hid ⟨below_regrown wr dq osq⟩
        clear k1 k2 k3 k4 CC
        generalize Go.Sort.grow (redrawn wr dq) osq = w5 at *
        have HN := Lib.hid (HR.out.gr HG.out)
        go_wp2
        obtain ⟨h1, h2, h3⟩ := HB.out
        obtain ⟨h4, h5, h6⟩ := HQ.out
        go_roundw
        case rel => exact ⟨q + 1, j, by go_num, rfl, by omega, h2, Lib.hid ⟨fun t z' hz' ht => by
          have hu : z.k ≤ v.k := by
            have := HC.out
            omega
          rcases Nat.lt_or_ge t q with e | e
          · have := List.pairwise_iff_getElem.1 HV.out t q (by omega) (by omega) e
            have e1 := (List.getElem?_eq_some_iff.1 hz').2
            have e2 := (List.getElem?_eq_some_iff.1 HZ.out).2
            rw [e1, e2] at this
            omega
          · obtain rfl : t = q := by omega
            rw [HZ.out] at hz'
            cases hz'
            exact hu, HI.out.2⟩, HN⟩
        case measure => simp [intOf]; omega
    · obtain rfl : i = j := by omega
      have n1 : ¬ ((x + i : Nat) : Int) < ((x + i : Nat) : Int) := by omega
      clear hlt hij
      have HL : Hid (i ≤ U.length ∧ P.length = x ∧ x + U.length = m) := Lib.hid ⟨hj, HX.out, hm⟩
      go_wp2
      go_loopw [17] (fun vk wk => ∃ (k : Nat), vk = .int .i64 ((x + k : Nat) : Int) ∧ i ≤ k ∧ k ≤ U.length ∧ Hid (Rw w wk b o (P ++ (U.take k ++ (v :: (U.drop k ++ S)))))) (fun vk _ => (intOf vk).toNat)
      case atStart => exact ⟨U.length, by go_num, hj, Nat.le_refl _, by simpa using HR⟩
      case round =>
        clear HR
        obtain ⟨k, rfl, hk, hkU, HR⟩ := hrel
        by_cases hlt : i < k
        · obtain ⟨kk, rfl⟩ : ∃ kk, k = kk + 1 := ⟨k - 1, by omega⟩
          obtain ⟨p, hp⟩ : ∃ p, x + kk = p := ⟨_, rfl⟩
          obtain ⟨h1, h2, h3⟩ := HL.out
          have hkV : kk < U.length := by omega
          obtain ⟨z, hz⟩ : ∃ z, U[kk] = z := ⟨_, rfl⟩
          have e0 : P ++ (U.take (kk + 1) ++ (v :: (U.drop (kk + 1) ++ S))) = (P ++ U.take kk) ++ z :: v :: (U.drop (kk + 1) ++ S) := by
            rw [List.take_succ_eq_append_getElem hkV, hz]; simp
          have e9 : (P ++ U.take kk) ++ v :: z :: (U.drop (kk + 1) ++ S) = P ++ (U.take kk ++ (v :: (U.drop kk ++ S))) := by
            rw [List.drop_eq_getElem_cons hkV, hz]; simp
          have hA : (P ++ U.take kk).length = p := by simp; omega
          rw [e0] at HR
          obtain ⟨⟨c1, c2, f1, f2⟩, d1, d2, g1, g2⟩ := HR.out.r.pair hA
          have HN := Lib.hid ((HR.out.drew).prev hA)
          rw [e9] at HN
          obtain ⟨a1, a2⟩ := cells_after (p := p + 1) (u' := .slice z.sa z.sn z.sc) (v' := .float .f64 z.fb) (by omega) c1 c2
          have p1 : (p : Int) + 1 < (n : Int) := by omega
          have p2 : (p : Int) < (n : Int) := by omega
          have p3 : (0 : Int) ≤ (p : Int) + 1 := by omega
          have p4 : ((p : Int) + 1).toNat = p + 1 := by omega
          have p5 : (p : Int) + 1 - 1 = (p : Int) := by omega
          have n2 : ((x + i : Nat) : Int) < (p : Int) + 1 := by omega
          have HP : Hid (i < kk + 1 ∧ x + kk = p ∧ kk < U.length) := Lib.hid ⟨hlt, hp, hkV⟩
          rw [show ((x + (kk + 1) : Nat) : Int) = (p : Int) + 1 by omega] at *
          clear HR e0 e9 hA hz hkV hlt hp h1 h2 h3 hk hkU
          go_wp2_with fail
          go_big_region
          all_goals go_wp2
          obtain ⟨h1, h2, h3⟩ := HP.out
          go_roundw
          case rel => exact ⟨kk, by go_num; try omega, by omega, by omega, HN⟩
          case measure => simp [intOf]; try omega
        · obtain rfl : k = i := by omega
          have n2 : ¬ ((x + k : Nat) : Int) < ((x + k : Nat) : Int) := by omega
          go_wp2
          refine bodyPost_ret (results_none rfl _ _ _) rfl ?_
          obtain ⟨h1, h2, h3⟩ := HL.out
          refine ⟨rfl, U.take k ++ v :: U.drop k, ?_, by simpa using HR.out⟩
          have := Mrg.one_right (y := v) (u1 := U.take k) (u2 := U.drop k) (by rw [List.take_append_drop]; exact HV.out) (fun z hz => by
            obtain ⟨t, ht, rfl⟩ := List.getElem_of_mem hz
            simp at ht
            exact HI.out.1 t _ (by rw [List.getElem_take]; exact List.getElem?_eq_getElem (by omega)) (by omega)) (fun z hz => by
            obtain ⟨t, ht, rfl⟩ := List.getElem_of_mem hz
            simp at ht
            exact HI.out.2 (k + t) _ (by rw [List.getElem_drop]; exact List.getElem?_eq_getElem (by omega)) (by omega))
          rwa [List.take_append_drop] at this
end Go.Proofs.YtllhkegefinlbaaGreatDoor.Gs
