/- WindowParts' walk. -/
import Derived.Test.YtjjfkjpkbpefpaaDoorVLawN
import Derived.Test.YtjjfkjpkbpefpaaDoorVPart
namespace Go.Proofs.YtjjfkjpkbpefpaaDoor.Vn
open Go.RowKit
set_option maxRecDepth 100000
set_option maxHeartbeats 8000000

/-- small numbers in memory -/
def IsAt (ik : IntKind) (W : World) (A : Option Addr) (n : Nat) (x : Nat → Int) : Prop := 0 < n → ∃ b o, A = some ⟨b, o, none⟩ ∧ ∀ i, i < n → W.cell? ⟨b, o + i, none⟩ = some (.int ik (x i))
theorem IsAt.gr {ik : IntKind} {W W' : World} {A : Option Addr} {n : Nat} {x : Nat → Int} (h : IsAt ik W A n x) (g : Gr W W') : IsAt ik W' A n x := fun h0 => by
  obtain ⟨b, o, e, hc⟩ := h h0
  exact ⟨b, o, e, fun i hi => g.cell (hc i hi)⟩
theorem two_ints (W : World) (a b : Int) : (W.alloc (.cells #[.int .i64 a, .int .i64 b] 3)).cell? ⟨W.heap.size, 0, none⟩ = some (.int .i64 a) ∧ (W.alloc (.cells #[.int .i64 a, .int .i64 b] 3)).cell? ⟨W.heap.size, 1, none⟩ = some (.int .i64 b) := by
  constructor
  · rw [World.cell?_alloc_at _ _ _ _ (by simp)]; rfl
  · rw [World.cell?_alloc_at _ _ _ _ (by simp)]; rfl
theorem walkParts_none (A1 A2 : Option Addr) (n1 c1 n2 c2 : Nat) (a : Int) (w : World) (ht : Tab w) (hf : FTab w) (hm1 : n1 ≤ maxLen) (_hm2 : n2 ≤ maxLen) (hno : 60 < n1 ∨ n2 < n1 ∨ a < 0 ∨ 1048576 < a) :
    Calls Tryd.prog 6 #[.slice A1 n1 c1, .slice A2 n2 c2, .int .i64 a] w fun e w' => e = .returned (.bool true) ∧ Gr w w' := by
  have CK := Lib.hid (known_any w ht hf)
  unfold maxLen at hm1
  clear ht hf
  by_cases h1 : 60 < n1
  · have q1 : decide ((n1 : Int) > 60) = true := decide_eq_true (by omega)
    clear hno
    go_enter Tryd.func6, Tryd.ntmps6
    go_wp2_with (first | (go_at_call 9; refine CK.out.mono ?_; rintro e w1 ⟨rfl, g1⟩) | fail)
    go_ret
    exact ⟨rfl, g1⟩
  have q1 : decide ((n1 : Int) > 60) = false := decide_eq_false (by omega)
  by_cases h2 : n2 < n1
  · have q2 : decide ((n2 : Int) < (n1 : Int)) = true := decide_eq_true (by omega)
    have q2n : decide (n2 < n1) = true := decide_eq_true h2
    clear hno
    go_enter Tryd.func6, Tryd.ntmps6
    go_wp2_with (first | (go_at_call 9; refine CK.out.mono ?_; rintro e w1 ⟨rfl, g1⟩) | fail)
    go_ret
    exact ⟨rfl, g1⟩
  have q2 : decide ((n2 : Int) < (n1 : Int)) = false := decide_eq_false (by omega)
  have q2n : decide (n2 < n1) = false := decide_eq_false h2
  by_cases h3 : a < 0
  · have q3 : decide (a < 0) = true := decide_eq_true h3
    clear hno
    go_enter Tryd.func6, Tryd.ntmps6
    go_wp2_with (first | (go_at_call 9; refine CK.out.mono ?_; rintro e w1 ⟨rfl, g1⟩) | fail)
    go_ret
    exact ⟨rfl, g1⟩
  · have q3 : decide (a < 0) = false := decide_eq_false h3
    have q4 : decide (a > 1048576) = true := decide_eq_true (by omega)
    clear hno
    go_enter Tryd.func6, Tryd.ntmps6
    go_wp2_with (first | (go_at_call 9; refine CK.out.mono ?_; rintro e w1 ⟨rfl, g1⟩) | fail)
    go_ret
    exact ⟨rfl, g1⟩
/-- what is told of the two parts and the whole -/
structure PartF (P : Int → Int → Int → Nat) (Q : Int → Int → Int → Bool) (a e : Int) (n : Nat) : Prop where
  add : ∀ fn : Int, fn = 1 ∨ fn = 2 → Q fn 0 e = decide (0 < n) ∧ ∀ W, (FloatKind.f64.format.order (addV W (P fn 0 a) (P fn a e)) (P fn 0 e) != some .eq) = false
  best : ∀ fn : Int, fn = 4 ∨ fn = 5 → Q fn 0 e = (Q fn 0 a || Q fn a e) ∧ (Q fn 0 e = true → (Q fn 0 a = true ∧ (FloatKind.f64.format.order (P fn 0 a) (P fn 0 e) == some .eq) = true) ∨ (Q fn a e = true ∧ (FloatKind.f64.format.order (P fn a e) (P fn 0 e) == some .eq) = true))
theorem partF {x g : Nat → Int} (hx : ∀ j, -128 ≤ x j ∧ x j ≤ 128) (hg : ∀ j, 0 ≤ g j ∧ g j ≤ 255) {n : Nat} (hn : n ≤ 60) {a : Int} (h0 : 0 < a) (h1 : a < tmG g n + 1) :
    PartF (fun fn f t => (fnP fn (smG x g n) f t).getD 0) (fun fn f t => (fnP fn (smG x g n) f t).isSome) a (tmG g n + 1) n := by
  obtain ⟨J, K, hJK, e1, e2, e3⟩ := smG_parts (x := x) hg n a
  have hall : ∀ j ∈ J ++ K, -128 ≤ j ∧ j ≤ 128 := fun j hj => by
    rw [hJK] at hj
    obtain ⟨i, -, rfl⟩ := List.mem_map.1 hj
    exact hx i
  have hlen : (J ++ K).length = n := by rw [hJK]; simp
  have hlen2 : J.length + K.length = n := by rw [← hlen, List.length_append]
  have sJ : Small J := ⟨by omega, fun j hj => hall j (List.mem_append_left _ hj)⟩
  have sK : Small K := ⟨by omega, fun j hj => hall j (List.mem_append_right _ hj)⟩
  have sJK : Small (J ++ K) := ⟨by omega, hall⟩
  have d1 : decide ((0 : Int) < a) = true := decide_eq_true h0
  have d2 : decide (a < tmG g n + 1) = true := decide_eq_true h1
  have d3 : decide ((0 : Int) < tmG g n + 1) = true := decide_eq_true (by omega)
  have key : ∀ fn : Nat, 1 ≤ fn → fn ≤ 14 →
      fnP fn (smG x g n) 0 a = outP fn (J.map Flo.ofI) (Flo.ofI (a - 0)) ∧ fnP fn (smG x g n) a (tmG g n + 1) = outP fn (K.map Flo.ofI) (Flo.ofI (tmG g n + 1 - a)) ∧ fnP fn (smG x g n) 0 (tmG g n + 1) = outP fn ((J ++ K).map Flo.ofI) (Flo.ofI (tmG g n + 1 - 0)) := fun fn f1 f2 => by
    have hi : isFn (fn : Int) = true := by unfold isFn; rw [decide_eq_true (by omega), decide_eq_true (by omega)]; rfl
    unfold fnP
    rw [hi, d1, d2, d3, e1, e2, e3]
    exact ⟨rfl, rfl, rfl⟩
  have hne : ∀ L : List Int, (L.map Flo.ofI).isEmpty = L.isEmpty := fun L => by cases L <;> rfl
  constructor
  · intro fn hfn
    obtain ⟨k, rfl, hk⟩ : ∃ k : Nat, fn = k ∧ (k = 1 ∨ k = 2) := by
      rcases hfn with rfl | rfl
      · exact ⟨1, rfl, .inl rfl⟩
      · exact ⟨2, rfl, .inr rfl⟩
    obtain ⟨k1, k2, k3⟩ := key k (by omega) (by omega)
    simp only [k1, k2, k3]
    refine ⟨?_, fun W => ?_⟩
    · rw [out_some k (by rcases hk with rfl | rfl <;> decide), hne]
      cases hJ : (J ++ K) with
      | nil => rw [hJ] at hlen; simp at hlen; subst hlen; rfl
      | cons y r => rw [hJ] at hlen; simp at hlen; subst hlen; simp
    · have i1 := val_add k hk sJ (Flo.ofI (a - 0))
      have i2 := val_add k hk sK (Flo.ofI (tmG g n + 1 - a))
      have i3 := val_add k hk sJK (Flo.ofI (tmG g n + 1 - 0))
      have b1 := addF_bd k sJ
      have b2 := addF_bd k sK
      obtain ⟨r, hr, hi⟩ := Flo.is_add i1 i2 (by omega)
      have : addV W ((outP k (J.map Flo.ofI) (Flo.ofI (a - 0))).getD 0) ((outP k (K.map Flo.ofI) (Flo.ofI (tmG g n + 1 - a))).getD 0) = r := by unfold addV; rw [hr]; rfl
      rw [this]
      rw [addF_app] at i3
      rw [ord_eq hi i3]; rfl
  · intro fn hfn
    obtain ⟨m, rfl⟩ : ∃ m : Bool, fn = ((if m then 5 else 4 : Nat) : Int) := by
      rcases hfn with rfl | rfl
      · exact ⟨false, rfl⟩
      · exact ⟨true, rfl⟩
    obtain ⟨k1, k2, k3⟩ := key (if m then 5 else 4) (by split <;> omega) (by split <;> omega)
    simp only [k1, k2, k3]
    have hl : leastN (if m then 5 else 4) = 1 := by cases m <;> decide
    rw [out_some _ hl, out_some _ hl, out_some _ hl, hne, hne, hne]
    refine ⟨by cases J <;> cases K <;> rfl, fun hok => ?_⟩
    by_cases hJ : J = []
    · by_cases hK : K = []
      · rw [hJ, hK] at hok; cases hok
      · right
        have i2 := val_best m sK hK (Flo.ofI (tmG g n + 1 - a))
        have i3 := val_best m sJK (by rw [hJ]; exact hK) (Flo.ofI (tmG g n + 1 - 0))
        rw [show bestI m (J ++ K) = bestI m K by rw [hJ]; rfl] at i3
        rw [ord_eq i2 i3]
        exact ⟨by simpa using hK, rfl⟩
    · by_cases hK : K = []
      · left
        have i1 := val_best m sJ hJ (Flo.ofI (a - 0))
        have i3 := val_best m sJK (by rw [hK, List.append_nil]; exact hJ) (Flo.ofI (tmG g n + 1 - 0))
        rw [show bestI m (J ++ K) = bestI m J by rw [hK, List.append_nil]] at i3
        rw [ord_eq i1 i3]
        exact ⟨by simpa using hJ, rfl⟩
      · have i1 := val_best m sJ hJ (Flo.ofI (a - 0))
        have i2 := val_best m sK hK (Flo.ofI (tmG g n + 1 - a))
        have i3 := val_best m sJK (by simp [hJ]) (Flo.ofI (tmG g n + 1 - 0))
        rcases best_app m hJ hK with g | g
        · rw [g] at i3; left; rw [ord_eq i1 i3]; exact ⟨by simpa using hJ, rfl⟩
        · rw [g] at i3; right; rw [ord_eq i2 i3]; exact ⟨by simpa using hK, rfl⟩
theorem walkParts_some (A1 A2 : Option Addr) (n c1 n2 c2 : Nat) (x g : Nat → Int) (a : Int) (w : World) (ht : Tab w) (hf : FTab w) (h1 : IsAt .i8 w A1 n x) (h2 : IsAt .u8 w A2 n2 g) (hx : ∀ j, -128 ≤ x j ∧ x j ≤ 128) (hg : ∀ j, 0 ≤ g j ∧ g j ≤ 255)
    (hn : n ≤ 60) (hn2 : n ≤ n2) (hm2 : n2 ≤ maxLen) (ha : 0 ≤ a) (ha2 : a ≤ 1048576) :
    Calls Tryd.prog 6 #[.slice A1 n c1, .slice A2 n2 c2, .int .i64 a] w fun e w' => e = .returned (.bool true) ∧ Gr w w' := by
  have CK := Lib.hid (known_any w ht hf)
  unfold maxLen at hm2
  have q1 : decide ((n : Int) > 60) = false := decide_eq_false (by omega)
  have q2 : decide ((n2 : Int) < (n : Int)) = false := decide_eq_false (by omega)
  have q2n : decide (n2 < n) = false := decide_eq_false (by omega)
  have q3 : decide (a < 0) = false := decide_eq_false (by omega)
  have q4 : decide (a > 1048576) = false := decide_eq_false (by omega)
  have H1 := Lib.hid (fun W (g : Gr w W) => h1.gr g)
  have H2 := Lib.hid (fun W (g : Gr w W) => h2.gr g)
  have HGB := Lib.hid hg
  have HTM := Lib.hid (tmG_bd hg)
  have HTS : Hid (∀ k, tmG g (k + 1) = tmG g k + 1 + g k) := Lib.hid fun _ => rfl
  have HSM : Hid (∀ W A' c', Gr w W → At2 encP W A' (smG x g n) → n ≤ c' → SmpH W A' c' (smG x g n)) := Lib.hid fun W A' c' gg hat hc => ⟨ht.gv gg, hf.gr gg, hat, by rw [smG_len]; exact hc, by rw [smG_len]; omega, smG_asc x (fun j => (hg j).1) n, fun q hq => by
    unfold smG at hq
    obtain ⟨j, -, rfl⟩ := List.mem_map.1 hq
    exact Flo.ofI_lt _⟩
  have HPF : Hid (0 < a → a < tmG g n + 1 → PartF (fun fn f t => (fnP fn (smG x g n) f t).getD 0) (fun fn f t => (fnP fn (smG x g n) f t).isSome) a (tmG g n + 1) n) := Lib.hid fun h0 h1 => partF hx hg hn h0 h1
  have HFN : Hid (∀ fn f t W A' c', SmpH W A' c' (smG x g n) → -9223372036854775808 ≤ f → t ≤ 9223372036854775807 → Calls Tryd.prog 12 #[.int .i64 fn, .slice A' n c', .int .i64 f, .int .i64 t] W fun e w' => e = .returned (.tuple #[.float .f64 ((fnP fn (smG x g n) f t).getD 0), .bool (fnP fn (smG x g n) f t).isSome]) ∧ Gr W w') := Lib.hid fun fn f t W A' c' h b1 b2 => by
    have := Fn_any fn A' c' (smG x g n) f t W h b1 b2
    rw [smG_len] at this
    exact this
  have HSL : Hid (∀ k, (smG x g k).length = k) := Lib.hid (smG_len x g)
  have HSS := Lib.hid (smG_s x g)
  have HS0 : Hid (smG x g 0 = []) := Lib.hid rfl
  clear h1 h2 hx hg ht hf
  obtain ⟨S, hS⟩ : ∃ S : Nat → List Sm, smG x g = S := ⟨_, rfl⟩
  obtain ⟨T, hT⟩ : ∃ T : Nat → Int, tmG g = T := ⟨_, rfl⟩
  have HT0 : Hid (T 0 = 0) := Lib.hid (by rw [← hT]; rfl)
  rw [hS] at HSM HPF HFN HSL HSS HS0
  rw [hT] at HPF HTM HTS HSS
  clear hS hT
  go_enter Tryd.func6, Tryd.ntmps6
  go_wp2_with (first | (go_at_call 9; refine CK.out.mono ?_; rintro e w1 ⟨rfl, g1⟩; have HG1 := Lib.hid g1; clear g1) | fail)
  go_loopw [7, 8, 9] (fun v9 t9 i9 wr => ∃ k : Nat, k ≤ n ∧ i9 = .int .i64 k ∧ t9 = .int .i64 (T k) ∧ Hid (OwnP wr w1.heap.size v9 (S k)) ∧ Hid (Gr w1 wr)) (fun _ _ i9 _ => n - (intOf i9).toNat)
  case atStart => exact ⟨0, Nat.zero_le _, rfl, by rw [HT0.out], Lib.hid (by rw [HS0.out]; exact Own2.nil _ _), Lib.hid (Gr.refl _)⟩
  case round =>
    obtain ⟨k, hk, rfl, rfl, HO, HG⟩ := hrel
    have HGW := Lib.hid (HG1.out.trans HG.out)
    by_cases hlt : k < n
    · obtain ⟨b, o, rfl, hc⟩ := H1.out wr HGW.out (by omega)
      obtain ⟨b2, o2, rfl, hc2⟩ := H2.out wr HGW.out (by omega)
      have d1 := hc k hlt
      have d2 := hc2 k (by omega)
      have hb := HTM.out k
      have hgk := HGB.out k
      have HTK := Lib.hid (HTS.out k)
      have HSK := Lib.hid (HSS.out k)
      have hsl := HSL.out k
      have m1 : (k : Int) < (n : Int) := by omega
      have m2 : (0 : Int) ≤ (k : Int) := by omega
      have m3 : (k : Int) < (n2 : Int) := by omega
      obtain ⟨tk, htk⟩ : ∃ tk, T k = tk := ⟨_, rfl⟩
      obtain ⟨gk, hgk2⟩ : ∃ gk, g k = gk := ⟨_, rfl⟩
      obtain ⟨xk, hxk⟩ : ∃ xk, x k = xk := ⟨_, rfl⟩
      rw [htk] at hb HTK ⊢
      rw [hgk2] at hgk d2 HTK
      rw [hxk] at d1 HSK
      rw [HTK.out] at HSK
      have HA : Hid (∀ W N, Gr wr W → At2 encP W (some ⟨N, 0, none⟩) [(tk + 1 + gk, Flo.ofI xk)] → ∃ v' W', (Builtin.append_ #[22, 22] 22 #[u7, .slice (some ⟨N, 0, none⟩) 1 1]).run Tryd.prog W = .ok v' W' ∧ OwnP W' w1.heap.size v' (S (k + 1)) ∧ Gr w1 W') := Lib.hid fun W N g hat => by
        have ho := Own2.gr HO.out g
        have gz := HG.out.trans g
        obtain ⟨v', W', h1, h2, h3, -⟩ := run_appP (c := 1) (m := [(tk + 1 + gk, Flo.ofI xk)]) ho hat (by simp; omega) gz.size
        exact ⟨v', W', h1, by rw [HSK.out]; exact h2, gz.grown h3 (fun k hk => (ho.lt hk).1)⟩
      have HN1 : Hid (At2 encP (wr.alloc (.cells #[.int .i64 (tk + 1 + gk), .float .f64 (floatOfInt .f64 xk)] 34)) (some ⟨wr.heap.size, 0, none⟩) [(tk + 1 + gk, Flo.ofI xk)]) := Lib.hid (at2_one (enc := encP) wr (tk + 1 + gk, Flo.ofI xk) _ _ rfl _)
      clear hc hc2 hsl
      go_wp2_with (first
        | (at_builtin
           refine wpList_app2 rfl (.tmp 61) (.tmp 69) (by rfl) (by rfl) (by rfl) (by rfl) (HA.out _ wr.heap.size ((Gr.refl _).alloc _ _) HN1.out) ?_
           rintro v5 w5 ⟨ho5, hg5⟩
           have HO5 := Lib.hid ho5; have HG5 := Lib.hid hg5
           clear ho5 hg5)
        | fail)
      go_roundw
      case rel => exact ⟨k + 1, by omega, by go_num, by rw [HTK.out], HO5, HG5⟩
      case measure => simp [intOf]; omega
    · obtain rfl : k = n := by omega
      have hb := HTM.out k
      obtain ⟨E, hE⟩ : ∃ E, T k + 1 = E := ⟨_, rfl⟩
      have hEk : T k = E - 1 := by omega
      have HSK := Lib.hid (HSL.out k)
      obtain ⟨A3, c3, rfl, hat3, hc3, -⟩ := HO.out.form (fun _ => rfl)
      rw [HSK.out]
      rw [HSK.out] at hc3
      have HSW := Lib.hid (fun W (gg : Gr wr W) => HSM.out W A3 c3 (HGW.out.trans gg) (hat3.gr gg) hc3)
      rw [hE] at HPF
      have n3 : ¬ (k : Int) < (k : Int) := by omega
      rw [hEk] at hb ⊢
      clear HO hat3 hc3 hE hEk hlt hk
      by_cases hz : a ≤ 0
      case pos =>
        go_wp2
        go_ret
        exact ⟨rfl, HGW.out⟩
      by_cases hz2 : E ≤ a
      case pos =>
        have q5 : decide (a ≥ E) = true := decide_eq_true hz2
        go_wp2
        go_ret
        exact ⟨rfl, HGW.out⟩
      have q5 : decide (a ≥ E) = false := decide_eq_false (by omega)
      have HF := Lib.hid (HPF.out (by omega) (by omega))
      obtain ⟨P, hP⟩ : ∃ P : Int → Int → Int → Nat, (fun fn f t => (fnP fn (S k) f t).getD 0) = P := ⟨_, rfl⟩
      obtain ⟨Q, hQ⟩ : ∃ Q : Int → Int → Int → Bool, (fun fn f t => (fnP fn (S k) f t).isSome) = Q := ⟨_, rfl⟩
      rw [hP, hQ] at HF
      have CF : Hid (∀ fn f t W, Gr wr W → -9223372036854775808 ≤ f → t ≤ 9223372036854775807 → Calls Tryd.prog 12 #[.int .i64 fn, .slice A3 k c3, .int .i64 f, .int .i64 t] W fun e w' => e = .returned (.tuple #[.float .f64 (P fn f t), .bool (Q fn f t)]) ∧ Gr W w') := Lib.hid fun fn f t W gg b1 b2 => by
        have := HFN.out fn f t W A3 c3 (HSW.out W gg) b1 b2
        rw [← hP, ← hQ]
        exact this
      clear hP hQ HPF HFN HSM HSW
      have HADD := Lib.hid HF.out.add
      have HBEST := Lib.hid HF.out.best
      obtain ⟨bn, hbn⟩ : ∃ b, decide (0 < k) = b := ⟨_, rfl⟩
      have hbn2 : decide ((0 : Int) < (k : Int)) = bn := by rw [← hbn]; exact decide_eq_decide.2 (by omega)
      have hbn3 : decide ((k : Int) > 0) = bn := hbn2
      have bE : -1 ≤ E ∧ E ≤ 100000 := by omega
      clear HF
      rw [hbn] at HADD
      go_wp2
      obtain ⟨N, hN⟩ : ∃ N, wr.heap.size = N := ⟨_, rfl⟩
      obtain ⟨X, hX⟩ : ∃ X, wr.alloc (.cells #[.int .i64 1, .int .i64 2] 3) = X := ⟨_, rfl⟩
      have HC := Lib.hid (two_ints wr 1 2)
      rw [hN, hX] at HC
      have HGX : Hid (Gr wr X) := Lib.hid (hX ▸ (Gr.refl wr).alloc _ _)
      rw [hN, hX]
      clear hN hX
      go_loopw [82] (fun i9 wx => ∃ j : Nat, j ≤ 2 ∧ i9 = .int .i64 j ∧ Hid (Gr X wx)) (fun i9 _ => 2 - (intOf i9).toNat)
      case atStart => exact ⟨0, by omega, rfl, Lib.hid (Gr.refl _)⟩
      case round =>
        obtain ⟨j, hj, rfl, HGJ⟩ := hrel
        have d0 := HGJ.out.cell HC.out.1
        have d1 := HGJ.out.cell HC.out.2
        have HGY := Lib.hid (HGX.out.trans HGJ.out)
        rcases (by omega : j = 0 ∨ j = 1 ∨ j = 2) with rfl | rfl | rfl
        · obtain ⟨hq, ha⟩ := HADD.out 1 (by omega)
          clear hj
          go_wp2_with fail
          refine (CF.out 1 0 a _ HGY.out (by omega) (by omega)).mono ?_
          rintro e w4 ⟨rfl, g4⟩
          have HG4 := Lib.hid (HGY.out.trans g4)
          have HK4 := Lib.hid (HGJ.out.trans g4)
          clear g4
          go_wp2_with fail
          refine (CF.out 1 a E _ HG4.out (by omega) (by omega)).mono ?_
          rintro e w5 ⟨rfl, g5⟩
          have HG5 := Lib.hid (HG4.out.trans g5)
          have HK5 := Lib.hid (HK4.out.trans g5)
          clear g5
          go_wp2_with fail
          refine (CF.out 1 0 E _ HG5.out (by omega) (by omega)).mono ?_
          rintro e w6 ⟨rfl, g6⟩
          have HK6 := Lib.hid (HK5.out.trans g6)
          clear g6
          rw [hq]
          go_wp2_with fail
          go_roundw
          case rel => exact ⟨1, by omega, by go_num, Lib.hid (HK6.out.drewN _)⟩
          case measure => simp [intOf]
        · obtain ⟨hq, ha⟩ := HADD.out 2 (by omega)
          clear hj
          go_wp2_with fail
          refine (CF.out 2 0 a _ HGY.out (by omega) (by omega)).mono ?_
          rintro e w4 ⟨rfl, g4⟩
          have HG4 := Lib.hid (HGY.out.trans g4)
          have HK4 := Lib.hid (HGJ.out.trans g4)
          clear g4
          go_wp2_with fail
          refine (CF.out 2 a E _ HG4.out (by omega) (by omega)).mono ?_
          rintro e w5 ⟨rfl, g5⟩
          have HG5 := Lib.hid (HG4.out.trans g5)
          have HK5 := Lib.hid (HK4.out.trans g5)
          clear g5
          go_wp2_with fail
          refine (CF.out 2 0 E _ HG5.out (by omega) (by omega)).mono ?_
          rintro e w6 ⟨rfl, g6⟩
          have HK6 := Lib.hid (HK5.out.trans g6)
          clear g6
          rw [hq]
          go_wp2_with fail
          go_roundw
          case rel => exact ⟨2, by omega, by go_num, Lib.hid (HK6.out.drewN _)⟩
          case measure => simp [intOf]
        · clear hj d0 d1 HADD
          have HGZ := Lib.hid (HGW.out.trans HGY.out)
          rw [show ((2 : Nat) : Int) = 2 from rfl]
          go_wp2
          obtain ⟨N2, hN2⟩ : ∃ N2, wr.heap.size = N2 := ⟨_, rfl⟩
          obtain ⟨Y, hY⟩ : ∃ Y, wr.alloc (.cells #[.int .i64 4, .int .i64 5] 3) = Y := ⟨_, rfl⟩
          have HC2 := Lib.hid (two_ints wr 4 5)
          rw [hN2, hY] at HC2
          have HY0 : Hid (Gr wr Y) := Lib.hid (hY ▸ (Gr.refl wr).alloc _ _)
          have HYW := Lib.hid (HGZ.out.trans HY0.out)
          have HYR := Lib.hid (HGY.out.trans HY0.out)
          rw [hN2, hY]
          clear hN2 hY
          go_loopw [123] (fun i9 wy => ∃ j : Nat, j ≤ 2 ∧ i9 = .int .i64 j ∧ Hid (Gr Y wy)) (fun i9 _ => 2 - (intOf i9).toNat)
          case atStart => exact ⟨0, by omega, rfl, Lib.hid (Gr.refl _)⟩
          case round =>
            obtain ⟨j, hj, rfl, HGL⟩ := hrel
            have d0 := HGL.out.cell HC2.out.1
            have d1 := HGL.out.cell HC2.out.2
            have HGM := Lib.hid (HYR.out.trans HGL.out)
            rcases (by omega : j = 0 ∨ j = 1 ∨ j = 2) with rfl | rfl | rfl
            · obtain ⟨hq, hb⟩ := HBEST.out 4 (by omega)
              obtain ⟨i1, hi1⟩ : ∃ b, Q 4 0 a = b := ⟨_, rfl⟩
              obtain ⟨i2, hi2⟩ : ∃ b, Q 4 a E = b := ⟨_, rfl⟩
              obtain ⟨x1, hx1⟩ : ∃ b, (FloatKind.f64.format.order (P 4 0 a) (P 4 0 E) == some .eq) = b := ⟨_, rfl⟩
              obtain ⟨x2, hx2⟩ : ∃ b, (FloatKind.f64.format.order (P 4 a E) (P 4 0 E) == some .eq) = b := ⟨_, rfl⟩
              have C1 := Lib.hid (CF.out 4 0 a _ HGM.out (by omega) (by omega))
              have C2 := Lib.hid (fun W g => CF.out 4 a E W g (by omega) (by omega))
              have C3 := Lib.hid (fun W g => CF.out 4 0 E W g (by omega) (by omega))
              rw [hq, hi1, hi2, hx1, hx2] at hb
              rw [hi1] at C1
              rw [hi2] at C2
              rw [hq, hi1, hi2] at C3
              clear hj hq hi1 hi2
              cases i1 <;> cases i2 <;> cases x1 <;> cases x2
              all_goals first
                | (exfalso; revert hb; decide)
                | (clear hb
                   go_wp2_with fail
                   refine C1.out.mono ?_
                   rintro e w4 ⟨rfl, g4⟩
                   have HG4 := Lib.hid (HGM.out.trans g4)
                   have HK4 := Lib.hid (HGL.out.trans g4)
                   clear g4
                   go_wp2_with fail
                   refine (C2.out _ HG4.out).mono ?_
                   rintro e w5 ⟨rfl, g5⟩
                   have HG5 := Lib.hid (HG4.out.trans g5)
                   have HK5 := Lib.hid (HK4.out.trans g5)
                   clear g5
                   go_wp2_with fail
                   refine (C3.out _ HG5.out).mono ?_
                   rintro e w6 ⟨rfl, g6⟩
                   have HK6 := Lib.hid (HK5.out.trans g6)
                   clear g6
                   go_wp2_with fail
                   go_roundw
                   case rel => exact ⟨1, by omega, by go_num, HK6⟩
                   case measure => simp [intOf])
            · obtain ⟨hq, hb⟩ := HBEST.out 5 (by omega)
              obtain ⟨i1, hi1⟩ : ∃ b, Q 5 0 a = b := ⟨_, rfl⟩
              obtain ⟨i2, hi2⟩ : ∃ b, Q 5 a E = b := ⟨_, rfl⟩
              obtain ⟨x1, hx1⟩ : ∃ b, (FloatKind.f64.format.order (P 5 0 a) (P 5 0 E) == some .eq) = b := ⟨_, rfl⟩
              obtain ⟨x2, hx2⟩ : ∃ b, (FloatKind.f64.format.order (P 5 a E) (P 5 0 E) == some .eq) = b := ⟨_, rfl⟩
              have C1 := Lib.hid (CF.out 5 0 a _ HGM.out (by omega) (by omega))
              have C2 := Lib.hid (fun W g => CF.out 5 a E W g (by omega) (by omega))
              have C3 := Lib.hid (fun W g => CF.out 5 0 E W g (by omega) (by omega))
              rw [hq, hi1, hi2, hx1, hx2] at hb
              rw [hi1] at C1
              rw [hi2] at C2
              rw [hq, hi1, hi2] at C3
              clear hj hq hi1 hi2
              cases i1 <;> cases i2 <;> cases x1 <;> cases x2
              all_goals first
                | (exfalso; revert hb; decide)
                | (clear hb
                   go_wp2_with fail
                   refine C1.out.mono ?_
                   rintro e w4 ⟨rfl, g4⟩
                   have HG4 := Lib.hid (HGM.out.trans g4)
                   have HK4 := Lib.hid (HGL.out.trans g4)
                   clear g4
                   go_wp2_with fail
                   refine (C2.out _ HG4.out).mono ?_
                   rintro e w5 ⟨rfl, g5⟩
                   have HG5 := Lib.hid (HG4.out.trans g5)
                   have HK5 := Lib.hid (HK4.out.trans g5)
                   clear g5
                   go_wp2_with fail
                   refine (C3.out _ HG5.out).mono ?_
                   rintro e w6 ⟨rfl, g6⟩
                   have HK6 := Lib.hid (HK5.out.trans g6)
                   clear g6
                   go_wp2_with fail
                   go_roundw
                   case rel => exact ⟨2, by omega, by go_num, HK6⟩
                   case measure => simp [intOf])
            · clear hj d0 d1
              have HE := Lib.hid (HYW.out.trans HGL.out)
              go_wp2
              go_ret
              exact ⟨rfl, HE.out⟩
theorem walkParts (A1 A2 : Option Addr) (n1 c1 n2 c2 : Nat) (x g : Nat → Int) (a : Int) (w : World) (ht : Tab w) (hf : FTab w) (h1 : IsAt .i8 w A1 n1 x) (h2 : IsAt .u8 w A2 n2 g) (hx : ∀ j, -128 ≤ x j ∧ x j ≤ 128) (hg : ∀ j, 0 ≤ g j ∧ g j ≤ 255) (hm1 : n1 ≤ maxLen) (hm2 : n2 ≤ maxLen) :
    Calls Tryd.prog 6 #[.slice A1 n1 c1, .slice A2 n2 c2, .int .i64 a] w fun e w' => e = .returned (.bool true) ∧ Gr w w' := by
  by_cases hno : 60 < n1 ∨ n2 < n1 ∨ a < 0 ∨ 1048576 < a
  · exact walkParts_none A1 A2 n1 c1 n2 c2 a w ht hf hm1 hm2 hno
  · exact walkParts_some A1 A2 n1 c1 n2 c2 x g a w ht hf h1 h2 hx hg (by omega) (by omega) hm2 (by omega) (by omega)
end Go.Proofs.YtjjfkjpkbpefpaaDoor.Vn
