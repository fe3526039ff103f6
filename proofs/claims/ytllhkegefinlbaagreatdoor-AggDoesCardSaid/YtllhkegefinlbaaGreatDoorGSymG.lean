/- The library's stable sort over samples: a merge in place, whole. -/
import Derived.Test.YtllhkegefinlbaaGreatDoorGSym
namespace Go.Proofs.YtllhkegefinlbaaGreatDoor.Gs
open Go.RowKit Go.Sort
set_option maxRecDepth 100000
variable {tp : Bool} {ca : Nat}
set_option maxHeartbeats 4000000

/-- where the search of a merge has come to: G c: the sample at p - c comes ahead of the one at c -/
def gT (U V : List (Po tp)) (i j : Nat) : Prop := ∃ a b, U[i]? = some a ∧ V[j]? = some b ∧ b.k < a.k
def gF (U V : List (Po tp)) (i j : Nat) : Prop := ∃ a b, U[i]? = some a ∧ V[j]? = some b ∧ a.k ≤ b.k
/-- the parts that the search tells -/
theorem sym_parts {U V : List (Po tp)} {i j : Nat} (hU : AscT U) (hV : AscT V) (h1 : i = U.length ∨ j = 0 ∨ gT U V i (j - 1)) (h2 : i = 0 ∨ j = V.length ∨ gF U V (i - 1) j) (hj : j ≤ V.length) (hi : i ≤ U.length) :
    (∀ a ∈ U.drop i, ∀ b ∈ V.take j, b.k < a.k) ∧ (∀ a ∈ U.take i, ∀ b ∈ V.drop j, a.k ≤ b.k) := by
  refine ⟨fun a ha b hb => ?_, fun a ha b hb => ?_⟩
  · obtain ⟨s, hs, rfl⟩ := List.getElem_of_mem ha
    obtain ⟨t, ht, rfl⟩ := List.getElem_of_mem hb
    simp at hs ht
    rw [List.getElem_drop, List.getElem_take]
    rcases h1 with h | h | ⟨a, b, ha, hb, hab⟩
    · omega
    · omega
    · obtain ⟨i1, rfl⟩ := List.getElem?_eq_some_iff.1 ha
      obtain ⟨i2, rfl⟩ := List.getElem?_eq_some_iff.1 hb
      have e1 : (U[i]).k ≤ (U[i + s]).k := by
        rcases Nat.eq_zero_or_pos s with e | e
        · subst e; exact Int.le_refl _
        · exact List.pairwise_iff_getElem.1 hU i (i + s) _ _ (by omega)
      have e2 : (V[t]).k ≤ (V[j - 1]).k := by
        rcases Nat.lt_or_ge t (j - 1) with e | e
        · exact List.pairwise_iff_getElem.1 hV t (j - 1) _ _ e
        · obtain rfl : t = j - 1 := by omega
          exact Int.le_refl _
      omega
  · obtain ⟨s, hs, rfl⟩ := List.getElem_of_mem ha
    obtain ⟨t, ht, rfl⟩ := List.getElem_of_mem hb
    simp at hs ht
    rw [List.getElem_drop, List.getElem_take]
    rcases h2 with h | h | ⟨a, b, ha, hb, hab⟩
    · omega
    · omega
    · obtain ⟨i1, rfl⟩ := List.getElem?_eq_some_iff.1 ha
      obtain ⟨i2, rfl⟩ := List.getElem?_eq_some_iff.1 hb
      have e1 : (U[s]).k ≤ (U[i - 1]).k := by
        rcases Nat.lt_or_ge s (i - 1) with e | e
        · exact List.pairwise_iff_getElem.1 hU s (i - 1) _ _ e
        · obtain rfl : s = i - 1 := by omega
          exact Int.le_refl _
      have e2 : (V[j]).k ≤ (V[j + t]).k := by
        rcases Nat.eq_zero_or_pos t with e | e
        · subst e; exact Int.le_refl _
        · exact List.pairwise_iff_getElem.1 hV j (j + t) _ _ (by omega)
      omega

/-- what a merge asks and answers -/
def SymPost (b o : Nat) (P U V S : List (Po tp)) (w : World) (e : Ending) (w' : World) : Prop := e = .returned (.tuple #[]) ∧ ∃ R, Mrg U V R ∧ Rw w w' b o (P ++ (R ++ S))
theorem sym_gen (b o c n x m y : Nat) (P U V S : List (Po tp)) (w : World)
    (IH : ∀ (x m y : Nat) (P U' V' S : List (Po tp)) (w : World), U'.length + V'.length < U.length + V.length → RowP w b o (P ++ (U' ++ (V' ++ S))) → P.length + (U'.length + (V'.length + S.length)) = n → P.length = x → x + U'.length = m → m + V'.length = y → AscT U' → AscT V' → 0 < U'.length → 0 < V'.length → Cmps tp ca w b →
      Calls Tryz.prog 96 #[.slice (some ⟨b, o, none⟩) n c, .int .i64 x, .int .i64 m, .int .i64 y, .func (.func 47) #[] #[.pointer (some ⟨ca, 0, none⟩)]] w (SymPost b o P U' V' S w))
    (h : RowP w b o (P ++ (U ++ (V ++ S)))) (hn : P.length + (U.length + (V.length + S.length)) = n) (hl : n ≤ 1099511627776) (hx : P.length = x) (hm : x + U.length = m) (hy : m + V.length = y) (hU : AscT U) (hV : AscT V) (hU2 : 2 ≤ U.length) (hV2 : 2 ≤ V.length) (hC : Cmps tp ca w b) :
    Calls Tryz.prog 96 #[.slice (some ⟨b, o, none⟩) n c, .int .i64 x, .int .i64 m, .int .i64 y, .func (.func 47) #[] #[.pointer (some ⟨ca, 0, none⟩)]] w (SymPost b o P U V S w) := by
  have H := Lib.hid (Rw.refl h)
  have HCM := Lib.hid hC
  clear hC
  have b1 : ((m : Int) - x == 1) = false := by rw [beq_eq_false_iff_ne]; omega
  have b2 : ((y : Int) - m == 1) = false := by rw [beq_eq_false_iff_ne]; omega
  have HU := Lib.hid hU
  have HV := Lib.hid hV
  have HX := Lib.hid hx
  have HI := Lib.hid IH
  have HNN := Lib.hid hn
  rw [hx] at hn
  obtain ⟨mid, hmid⟩ : ∃ mid, (x + y) / 2 = mid := ⟨_, rfl⟩
  have d1 : ((x : Int) + y) / 2 = (mid : Int) := by omega
  have m1 : x < mid := by omega
  have m2 : mid < y := by omega
  obtain ⟨lo, hi, hlh⟩ : ∃ lo hi, (mid < m ∧ lo + y = mid + m ∧ hi = mid) ∨ (m ≤ mid ∧ lo = x ∧ hi = m) := by
    rcases Nat.lt_or_ge mid m with e | e
    · exact ⟨mid + m - y, mid, .inl ⟨e, by omega, rfl⟩⟩
    · exact ⟨x, m, .inr ⟨e, rfl, rfl⟩⟩
  clear h hU hV hx IH hmid
  go_enter Tryz.func96, Tryz.ntmps96
  go_upto_if 140 with fail
  go_cut [20, 21] from 138 (fun s20 s21 wx => s20 = .int .i64 lo ∧ s21 = .int .i64 hi ∧ wx = w)
  case first =>
    rcases hlh with ⟨e1, e2, e3⟩ | ⟨e1, e2, e3⟩
    · have n1 : (mid : Int) < (m : Int) := by omega
      have d2 : (mid : Int) + m - y = (lo : Int) := by omega
      go_wp2
      go_meet
      case rel => exact ⟨rfl, by rw [e3], rfl⟩
    · have n1 : ¬ (mid : Int) < (m : Int) := by omega
      go_wp2
      go_meet
      case rel => exact ⟨by rw [e2], by rw [e3], rfl⟩
  case rest =>
  obtain ⟨rfl, rfl, hwc⟩ := hcut
  have hwc := hwc.symm
  subst hwc
  have HLH := Lib.hid hlh
  have HLEN : Hid (2 ≤ U.length ∧ 2 ≤ V.length ∧ x + U.length = m ∧ m + V.length = y ∧ (mid = (x + y) / 2) ∧ lo ≤ hi ∧ x ≤ lo ∧ hi ≤ m ∧ hi ≤ mid ∧ mid + m ≤ lo + y) := Lib.hid ⟨hU2, hV2, hm, hy, by omega, by omega, by omega, by omega, by omega, by omega⟩
  have hlo : lo ≤ n := by omega
  have hyn : y ≤ n := by omega
  have hhi : hi ≤ n := by omega
  have hmm : mid + m ≤ 2 * n := by omega
  obtain ⟨pp, hpp⟩ : ∃ pp, pp + 1 = mid + m := ⟨mid + m - 1, by omega⟩
  have d6 : (mid : Int) + m - 1 = (pp : Int) := by omega
  clear hlh hU2 hV2 hm hy hn m1 m2 b1 b2 d1
  go_wp2
  go_loopw [20, 21] (fun vs vr wr => ∃ (s r : Nat), vs = .int .i64 s ∧ vr = .int .i64 r ∧ lo ≤ s ∧ s ≤ r ∧ r ≤ hi ∧ Hid ((s = lo ∨ gF U V (s - 1 - x) (mid + m - s - m)) ∧ (r = hi ∨ gT U V (r - x) (mid + m - 1 - r - m))) ∧ Hid (Rw w wr b o (P ++ (U ++ (V ++ S))))) (fun vs vr _ => (intOf vr).toNat - (intOf vs).toNat)
  case atStart => exact ⟨lo, hi, rfl, rfl, Nat.le_refl _, HLEN.out.2.2.2.2.2.1, Nat.le_refl _, Lib.hid ⟨.inl rfl, .inl rfl⟩, H⟩
  case round =>
    clear H
    obtain ⟨s, r, rfl, rfl, hs, hsr, hr, HG, HR⟩ := hrel
    by_cases hlt : s < r
    · have n1 : (s : Int) < (r : Int) := by omega
      obtain ⟨q, hq⟩ : ∃ q, (s + r) / 2 = q := ⟨_, rfl⟩
      have d3 : ((s : Int) + r) / 2 = (q : Int) := by omega
      obtain ⟨l1, l2, l3, l4, l5, l6, l7, l8, l9, l10⟩ := HLEN.out
      obtain ⟨t, ht⟩ : ∃ t, mid + m - 1 - q = t := ⟨_, rfl⟩
      have d4 : (pp : Int) - q = (t : Int) := by omega
      have d5 : IntKind.i64.wrap (t : Int) = (t : Int) := by rw [IntKind.wrap_i64]; omega
      have hqU : q - x < U.length := by omega
      have htV : t - m < V.length := by omega
      obtain ⟨a, ha⟩ : ∃ a, U[q - x] = a := ⟨_, rfl⟩
      obtain ⟨z, hz⟩ : ∃ z, V[t - m] = z := ⟨_, rfl⟩
      have HA : Hid (U[q - x]? = some a ∧ V[t - m]? = some z) := Lib.hid ⟨by rw [List.getElem?_eq_getElem hqU, ha], by rw [List.getElem?_eq_getElem htV, hz]⟩
      have ga : (P ++ (U ++ (V ++ S)))[q]? = some a := by
        have := get_U (P := P) (V := V) (S := S) hqU
        rw [show P.length + (q - x) = q by have := HX.out; omega] at this
        rw [this, ha]
      have gz : (P ++ (U ++ (V ++ S)))[t]? = some z := by
        have := get_V (P := P) (U := U) (S := S) htV
        rw [show P.length + U.length + (t - m) = t by have := HX.out; omega] at this
        rw [this, hz]
      obtain ⟨c1, c2⟩ := cell_at HR.out.r gz
      obtain ⟨c3, c4⟩ := cell_at HR.out.r ga
      have k1 := cell_regrown c1; have k2 := cell_regrown c2; have k3 := cell_regrown c3; have k4 := cell_regrown c4
      have CC := Lib.hid (gq (W := wr) fun W' g => HCM.out.any HR.out.g z a W' g)
      obtain ⟨v, hv⟩ : ∃ v, cmpI z.k a.k = v := ⟨_, rfl⟩
      have HC : Hid (v < 0 ↔ z.k < a.k) := Lib.hid (by rw [← hv]; exact cmpI_lt)
      rw [hv] at CC
      have p1 : (q : Int) < (n : Int) := by omega
      have p2 : (t : Int) < (n : Int) := by omega
      have HB : Hid (s ≤ q ∧ q < r ∧ lo ≤ s ∧ r ≤ hi ∧ mid + m - 1 - q = t ∧ q + t + 1 = mid + m) := Lib.hid ⟨by omega, by omega, hs, hr, ht, by omega⟩
      clear hv c1 c2 c3 c4 ga gz hq ht hqU htV hlt hs hsr hr l1 l2 l3 l4 l5 l6 l7 l8 l9 l10 ha hz
      by_cases hv : v < 0
      · have hv2 : (!decide (v < 0)) = false := by simp; exact hv
        go_wp2_with fail
        refine wp_region_quiet_below (by kernel_rfl) (by kernel_rfl) ?_
        repeat (quiet_step (exact CC.out _ _))
        refine wpQuiet_nil ?_
        intro _ hw'
        obtain ⟨⟨dq, osq⟩, hw''⟩ := hw'
        subst hw''
        have HGr : Hid (Gr wr (Go.Sort.grow (redrawn wr dq) osq)) := Lib.hid ⟨below_regrown wr dq osq⟩
        clear k1 k2 k3 k4 CC
        generalize Go.Sort.grow (redrawn wr dq) osq = w5 at *
        have HN := Lib.hid (HR.out.gr HGr.out)
        go_wp2
        obtain ⟨h1, h2, h3, h4, h5, h6⟩ := HB.out
        go_roundw
        case rel => exact ⟨s, q, rfl, rfl, h3, h1, by omega, Lib.hid ⟨HG.out.1, .inr ⟨a, z, HA.out.1, by rw [h5]; exact HA.out.2, HC.out.1 hv⟩⟩, HN⟩
        case measure => simp [intOf]; omega
      · have hv2 : (!decide (v < 0)) = true := by simp; omega
        go_wp2_with fail
        refine wp_region_quiet_below (by kernel_rfl) (by kernel_rfl) ?_
        repeat (quiet_step (exact CC.out _ _))
        refine wpQuiet_nil ?_
        intro _ hw'
        obtain ⟨⟨dq, osq⟩, hw''⟩ := hw'
        subst hw''
        have HGr : Hid (Gr wr (Go.Sort.grow (redrawn wr dq) osq)) := Lib.hid ⟨below_regrown wr dq osq⟩
        clear k1 k2 k3 k4 CC
        generalize Go.Sort.grow (redrawn wr dq) osq = w5 at *
        have HN := Lib.hid (HR.out.gr HGr.out)
        go_wp2
        obtain ⟨h1, h2, h3, h4, h5, h6⟩ := HB.out
        go_roundw
        case rel => exact ⟨q + 1, r, by go_num, rfl, by omega, by omega, h4, Lib.hid ⟨.inr ⟨a, z, by rw [Nat.add_sub_cancel]; exact HA.out.1, by rw [show mid + m - (q + 1) - m = t - m by omega]; exact HA.out.2, by have := HC.out; omega⟩, HG.out.2⟩, HN⟩
        case measure => simp [intOf]; omega
    · obtain rfl : s = r := by omega
      have n1 : ¬ (s : Int) < (s : Int) := by omega
      obtain ⟨l1, l2, l3, l4, l5, l6, l7, l8, l9, l10⟩ := HLEN.out
      obtain ⟨e, he⟩ : ∃ e, s + e = mid + m := ⟨mid + m - s, by omega⟩
      have d4 : (mid : Int) + m - s = (e : Int) := by omega
      obtain ⟨U1, U2, hUU, hU1⟩ : ∃ U1 U2, U = U1 ++ U2 ∧ U1.length = s - x := ⟨U.take (s - x), U.drop (s - x), (List.take_append_drop _ _).symm, by simp; omega⟩
      obtain ⟨V1, V2, hVV, hV1⟩ : ∃ V1 V2, V = V1 ++ V2 ∧ V1.length = e - m := ⟨V.take (e - m), V.drop (e - m), (List.take_append_drop _ _).symm, by simp; omega⟩
      have HS : Hid ((∀ a ∈ U2, ∀ b ∈ V1, b.k < a.k) ∧ (∀ a ∈ U1, ∀ b ∈ V2, a.k ≤ b.k)) := Lib.hid (by
        have := sym_parts (i := s - x) (j := e - m) HU.out HV.out (by
          rcases HG.out.2 with g | g
          · rcases HLH.out with ⟨g1, g2, g3⟩ | ⟨g1, g2, g3⟩
            · right; left; omega
            · left; omega
          · right; right; rwa [show mid + m - 1 - s - m = e - m - 1 by omega] at g) (by
          rcases HG.out.1 with g | g
          · rcases HLH.out with ⟨g1, g2, g3⟩ | ⟨g1, g2, g3⟩
            · right; left; omega
            · left; omega
          · right; right; rwa [show s - 1 - x = s - x - 1 by omega, show mid + m - s - m = e - m by omega] at g) (by omega) (by omega)
        rw [hUU, hVV, ← hU1, ← hV1] at this
        simpa using this)
      have HUV : Hid (U = U1 ++ U2 ∧ V = V1 ++ V2 ∧ U1.length = s - x ∧ V1.length = e - m ∧ x ≤ s ∧ s ≤ m ∧ m ≤ e ∧ e ≤ y ∧ s + e = mid + m ∧ s ≤ mid ∧ mid ≤ e) := Lib.hid ⟨hUU, hVV, hU1, hV1, by omega, by omega, by omega, by omega, he, by omega, by omega⟩
      clear hUU hVV hU1 hV1 he hs hsr hr hlt l1 l2 l3 l4 l5 l6 l7 l8 l9 l10
      have HLL : Hid (P.length = x ∧ x + U.length = m ∧ m + V.length = y ∧ U.length = U1.length + U2.length ∧ V.length = V1.length + V2.length ∧ P.length + (U.length + (V.length + S.length)) = n ∧ x < mid ∧ mid < y) := Lib.hid (by
        obtain ⟨o1, o2, o3, o4, o5, o6, o7, o8, o9, o10, o11⟩ := HUV.out
        obtain ⟨l1, l2, l3, l4, l5, l6, l7, l8, l9, l10⟩ := HLEN.out
        have a1 : U.length = U1.length + U2.length := by rw [o1, List.length_append]
        have a2 : V.length = V1.length + V2.length := by rw [o2, List.length_append]
        exact ⟨HX.out, l3, l4, a1, a2, HNN.out, by omega, by omega⟩)
      obtain ⟨A, hA⟩ : ∃ A, decide (s < m ∧ m < e) = A := ⟨_, rfl⟩
      obtain ⟨B, hB⟩ : ∃ B, decide (x < s ∧ s < mid) = B := ⟨_, rfl⟩
      obtain ⟨C, hC⟩ : ∃ C, decide (mid < e ∧ e < y) = C := ⟨_, rfl⟩
      have HA := Lib.hid hA; have HB := Lib.hid hB; have HC := Lib.hid hC
      clear hA hB hC
      have HR0 : Hid (Rw w wr b o (P ++ (U1 ++ (U2 ++ (V1 ++ (V2 ++ S)))))) := Lib.hid (by have := HR.out; rw [HUV.out.1, HUV.out.2.1] at this; simpa only [List.append_assoc] using this)
      clear HR
      go_upto_region 39 with fail
      go_cut [185] from 178 (fun v wx => v = .bool A ∧ wx = wr)
      case first =>
        obtain ⟨o1, o2, o3, o4, o5, o6, o7, o8, o9, o10, o11⟩ := HUV.out
        by_cases h1 : s < m
        · by_cases h2 : m < e
          · have n1 : (s : Int) < (m : Int) := by omega
            have n2 : (m : Int) < (e : Int) := by omega
            have n3 : A = true := by rw [← HA.out]; exact decide_eq_true ⟨h1, h2⟩
            go_wp2
            go_meet
            case rel => exact ⟨by rw [n3], rfl⟩
          · have n1 : (s : Int) < (m : Int) := by omega
            have n2 : ¬ (m : Int) < (e : Int) := by omega
            have n3 : A = false := by rw [← HA.out]; exact decide_eq_false (fun h => h2 h.2)
            go_wp2
            go_meet
            case rel => exact ⟨by rw [n3], rfl⟩
        · have n1 : ¬ (s : Int) < (m : Int) := by omega
          have n3 : A = false := by rw [← HA.out]; exact decide_eq_false (fun h => h1 h.1)
          go_wp2
          go_meet
          case rel => exact ⟨by rw [n3], rfl⟩
      case rest =>
      obtain ⟨rfl, hwc⟩ := hcut
      have hwc := hwc.symm
      subst hwc
      go_upto_if 185 with fail
      go_cut [] from 178 (fun wx => Hid (Rw w wx b o (P ++ (U1 ++ (V1 ++ (U2 ++ (V2 ++ S)))))))
      case first =>
        cases A
        · go_wp2
          go_meet
          case rel =>
            have hA := of_decide_eq_false HA.out
            obtain ⟨o1, o2, o3, o4, o5, o6, o7, o8, o9, o10, o11⟩ := HUV.out
            obtain ⟨l1, l2, l3, l4, l5, l6, l7, l8⟩ := HLL.out
            refine Lib.hid ?_
            have := HR0.out
            by_cases hz : U2.length = 0
            · have : U2 = [] := List.eq_nil_of_length_eq_zero hz
              subst this
              exact HR0.out
            · have : V1 = [] := List.eq_nil_of_length_eq_zero (by omega)
              subst this
              exact HR0.out
        · have hA := of_decide_eq_true HA.out
          have C1 := Lib.hid (rotate_any (.func (.func 47) #[] #[.pointer (some ⟨ca, 0, none⟩)]) b o c n s m e (P ++ U1) U2 V1 (V2 ++ S) wr (by have := HR0.out.r; simpa only [List.append_assoc] using this) (by
            obtain ⟨o1, o2, o3, o4, o5, o6, o7, o8, o9, o10, o11⟩ := HUV.out
            obtain ⟨l1, l2, l3, l4, l5, l6, l7, l8⟩ := HLL.out
            simp only [List.length_append]; omega) hl (by
            obtain ⟨o1, o2, o3, o4, o5, o6, o7, o8, o9, o10, o11⟩ := HUV.out
            obtain ⟨l1, l2, l3, l4, l5, l6, l7, l8⟩ := HLL.out
            simp only [List.length_append]; omega) (by
            obtain ⟨o1, o2, o3, o4, o5, o6, o7, o8, o9, o10, o11⟩ := HUV.out
            obtain ⟨l1, l2, l3, l4, l5, l6, l7, l8⟩ := HLL.out
            omega) (by
            obtain ⟨o1, o2, o3, o4, o5, o6, o7, o8, o9, o10, o11⟩ := HUV.out
            obtain ⟨l1, l2, l3, l4, l5, l6, l7, l8⟩ := HLL.out
            omega) (by
            obtain ⟨o1, o2, o3, o4, o5, o6, o7, o8, o9, o10, o11⟩ := HUV.out
            obtain ⟨l1, l2, l3, l4, l5, l6, l7, l8⟩ := HLL.out
            omega) (by
            obtain ⟨o1, o2, o3, o4, o5, o6, o7, o8, o9, o10, o11⟩ := HUV.out
            obtain ⟨l1, l2, l3, l4, l5, l6, l7, l8⟩ := HLL.out
            omega))
          clear hA
          go_wp2_with fail
          refine C1.out.mono ?_
          rintro ee w1 ⟨rfl, hr⟩
          have HN := Lib.hid (HR0.out.trans (m := P ++ (U1 ++ (V1 ++ (U2 ++ (V2 ++ S))))) (by simpa only [List.append_assoc] using hr))
          clear hr
          go_wp2
          go_meet
          case rel => exact HN
      case rest =>
      have HR1 := hcut
      clear hcut HR0
      go_upto_region 41 with fail
      go_cut [199] from 192 (fun v wx => v = .bool B ∧ wx = wc)
      case first =>
        obtain ⟨o1, o2, o3, o4, o5, o6, o7, o8, o9, o10, o11⟩ := HUV.out
        by_cases h1 : x < s
        · by_cases h2 : s < mid
          · have n1 : (x : Int) < (s : Int) := by omega
            have n2 : (s : Int) < (mid : Int) := by omega
            have n3 : B = true := by rw [← HB.out]; exact decide_eq_true ⟨h1, h2⟩
            go_wp2
            go_meet
            case rel => exact ⟨by rw [n3], rfl⟩
          · have n1 : (x : Int) < (s : Int) := by omega
            have n2 : ¬ (s : Int) < (mid : Int) := by omega
            have n3 : B = false := by rw [← HB.out]; exact decide_eq_false (fun h => h2 h.2)
            go_wp2
            go_meet
            case rel => exact ⟨by rw [n3], rfl⟩
        · have n1 : ¬ (x : Int) < (s : Int) := by omega
          have n3 : B = false := by rw [← HB.out]; exact decide_eq_false (fun h => h1 h.1)
          go_wp2
          go_meet
          case rel => exact ⟨by rw [n3], rfl⟩
      case rest =>
      obtain ⟨rfl, hwc⟩ := hcut
      have hwc := hwc.symm
      subst hwc
      go_upto_if 199 with fail
      go_cut [] from 192 (fun wx => ∃ R1, Hid (Mrg U1 V1 R1) ∧ Hid (Rw w wx b o (P ++ (R1 ++ (U2 ++ (V2 ++ S))))))
      case first =>
        cases B
        · go_wp2
          go_meet
          case rel =>
            have hB := of_decide_eq_false HB.out
            obtain ⟨o1, o2, o3, o4, o5, o6, o7, o8, o9, o10, o11⟩ := HUV.out
            obtain ⟨l1, l2, l3, l4, l5, l6, l7, l8⟩ := HLL.out
            have hV1 : AscT V1 := by have := HV.out; rw [o2] at this; exact this.left
            have hU1 : AscT U1 := by have := HU.out; rw [o1] at this; exact this.left
            by_cases hz : U1.length = 0
            · have : U1 = [] := List.eq_nil_of_length_eq_zero hz
              subst this
              exact ⟨V1, Lib.hid (Mrg.nil_left hV1), HR1⟩
            · have : V1 = [] := List.eq_nil_of_length_eq_zero (by omega)
              subst this
              exact ⟨U1, Lib.hid (Mrg.nil_right hU1), HR1⟩
        · have hB := of_decide_eq_true HB.out
          have C1 := Lib.hid (HI.out x s mid P U1 V1 (U2 ++ (V2 ++ S)) _ (by
            obtain ⟨o1, o2, o3, o4, o5, o6, o7, o8, o9, o10, o11⟩ := HUV.out
            obtain ⟨l1, l2, l3, l4, l5, l6, l7, l8⟩ := HLL.out
            omega) HR1.out.r (by
            obtain ⟨o1, o2, o3, o4, o5, o6, o7, o8, o9, o10, o11⟩ := HUV.out
            obtain ⟨l1, l2, l3, l4, l5, l6, l7, l8⟩ := HLL.out
            simp only [List.length_append]; omega) HX.out (by
            obtain ⟨o1, o2, o3, o4, o5, o6, o7, o8, o9, o10, o11⟩ := HUV.out
            omega) (by
            obtain ⟨o1, o2, o3, o4, o5, o6, o7, o8, o9, o10, o11⟩ := HUV.out
            omega) (by have := HU.out; rw [HUV.out.1] at this; exact this.left) (by have := HV.out; rw [HUV.out.2.1] at this; exact this.left) (by
            obtain ⟨o1, o2, o3, o4, o5, o6, o7, o8, o9, o10, o11⟩ := HUV.out
            omega) (by
            obtain ⟨o1, o2, o3, o4, o5, o6, o7, o8, o9, o10, o11⟩ := HUV.out
            omega) (HCM.out.only HR1.out.g))
          clear hB
          go_wp2_with fail
          refine C1.out.mono ?_
          rintro ee w1 ⟨rfl, R1, hm, hr⟩
          have HM := Lib.hid hm
          have HN := Lib.hid (HR1.out.trans hr)
          clear hr hm
          go_wp2
          go_meet
          case rel => exact ⟨R1, HM, HN⟩
      case rest =>
      obtain ⟨R1, HM1, HR2⟩ := hcut
      clear HR1
      go_upto_region 43 with fail
      go_cut [213] from 206 (fun v wx => v = .bool C ∧ wx = wc)
      case first =>
        obtain ⟨o1, o2, o3, o4, o5, o6, o7, o8, o9, o10, o11⟩ := HUV.out
        by_cases h1 : mid < e
        · by_cases h2 : e < y
          · have n1 : (mid : Int) < (e : Int) := by omega
            have n2 : (e : Int) < (y : Int) := by omega
            have n3 : C = true := by rw [← HC.out]; exact decide_eq_true ⟨h1, h2⟩
            go_wp2
            go_meet
            case rel => exact ⟨by rw [n3], rfl⟩
          · have n1 : (mid : Int) < (e : Int) := by omega
            have n2 : ¬ (e : Int) < (y : Int) := by omega
            have n3 : C = false := by rw [← HC.out]; exact decide_eq_false (fun h => h2 h.2)
            go_wp2
            go_meet
            case rel => exact ⟨by rw [n3], rfl⟩
        · have n1 : ¬ (mid : Int) < (e : Int) := by omega
          have n3 : C = false := by rw [← HC.out]; exact decide_eq_false (fun h => h1 h.1)
          go_wp2
          go_meet
          case rel => exact ⟨by rw [n3], rfl⟩
      case rest =>
      obtain ⟨rfl, hwc⟩ := hcut
      have hwc := hwc.symm
      subst hwc
      cases C
      · go_wp2
        go_end0
        have hB := of_decide_eq_false HC.out
        obtain ⟨o1, o2, o3, o4, o5, o6, o7, o8, o9, o10, o11⟩ := HUV.out
        obtain ⟨l1, l2, l3, l4, l5, l6, l7, l8⟩ := HLL.out
        have hV2 : AscT V2 := by have := HV.out; rw [o2] at this; exact this.right
        have hU2 : AscT U2 := by have := HU.out; rw [o1] at this; exact this.right
        have M2 : Mrg U2 V2 (U2 ++ V2) := by
          by_cases hz : U2.length = 0
          · have : U2 = [] := List.eq_nil_of_length_eq_zero hz
            subst this
            exact Mrg.nil_left hV2
          · have : V2 = [] := List.eq_nil_of_length_eq_zero (by omega)
            subst this
            rw [List.append_nil]; exact Mrg.nil_right hU2
        refine ⟨rfl, R1 ++ (U2 ++ V2), ?_, by have := HR2.out; simpa only [List.append_assoc] using this⟩
        have := Mrg.halves (by rw [← o1]; exact HU.out) (by rw [← o2]; exact HV.out) HS.out.1 HS.out.2 HM1.out M2
        rwa [← o1, ← o2] at this
      · have hB := of_decide_eq_true HC.out
        have C1 := Lib.hid (HI.out mid e y (P ++ R1) U2 V2 S _ (by
            obtain ⟨o1, o2, o3, o4, o5, o6, o7, o8, o9, o10, o11⟩ := HUV.out
            obtain ⟨l1, l2, l3, l4, l5, l6, l7, l8⟩ := HLL.out
            omega) (by have := HR2.out.r; simpa only [List.append_assoc] using this) (by
            obtain ⟨o1, o2, o3, o4, o5, o6, o7, o8, o9, o10, o11⟩ := HUV.out
            obtain ⟨l1, l2, l3, l4, l5, l6, l7, l8⟩ := HLL.out
            have := HM1.out.2.length
            simp only [List.length_append] at this ⊢; omega) (by
            obtain ⟨o1, o2, o3, o4, o5, o6, o7, o8, o9, o10, o11⟩ := HUV.out
            obtain ⟨l1, l2, l3, l4, l5, l6, l7, l8⟩ := HLL.out
            have := HM1.out.2.length
            simp only [List.length_append] at this ⊢; omega) (by
            obtain ⟨o1, o2, o3, o4, o5, o6, o7, o8, o9, o10, o11⟩ := HUV.out
            obtain ⟨l1, l2, l3, l4, l5, l6, l7, l8⟩ := HLL.out
            omega) (by
            obtain ⟨o1, o2, o3, o4, o5, o6, o7, o8, o9, o10, o11⟩ := HUV.out
            obtain ⟨l1, l2, l3, l4, l5, l6, l7, l8⟩ := HLL.out
            omega) (by have := HU.out; rw [HUV.out.1] at this; exact this.right) (by have := HV.out; rw [HUV.out.2.1] at this; exact this.right) (by
            obtain ⟨o1, o2, o3, o4, o5, o6, o7, o8, o9, o10, o11⟩ := HUV.out
            obtain ⟨l1, l2, l3, l4, l5, l6, l7, l8⟩ := HLL.out
            omega) (by
            obtain ⟨o1, o2, o3, o4, o5, o6, o7, o8, o9, o10, o11⟩ := HUV.out
            obtain ⟨l1, l2, l3, l4, l5, l6, l7, l8⟩ := HLL.out
            omega) (HCM.out.only HR2.out.g))
        clear hB
        go_wp2_with fail
        refine C1.out.mono ?_
        rintro ee w1 ⟨rfl, R2, hm, hr⟩
        have HM := Lib.hid hm
        have HN := Lib.hid (HR2.out.trans (m := P ++ (R1 ++ (R2 ++ S))) (by simpa only [List.append_assoc] using hr))
        clear hr hm
        go_wp2
        go_end0
        have o1 := HUV.out.1
        have o2 := HUV.out.2.1
        refine ⟨rfl, R1 ++ R2, ?_, by have := HN.out; simpa only [List.append_assoc] using this⟩
        have := Mrg.halves (by rw [← o1]; exact HU.out) (by rw [← o2]; exact HV.out) HS.out.1 HS.out.2 HM1.out HM.out
        rwa [← o1, ← o2] at this
end Go.Proofs.YtllhkegefinlbaaGreatDoor.Gs
