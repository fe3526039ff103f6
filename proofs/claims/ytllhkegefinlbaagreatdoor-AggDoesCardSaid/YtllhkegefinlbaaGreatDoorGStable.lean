/- The library's stable sort over samples. -/
import Derived.Test.YtllhkegefinlbaaGreatDoorGBlk
import Derived.Test.YtllhkegefinlbaaGreatDoorShelf
namespace Go.Proofs.YtllhkegefinlbaaGreatDoor.Gs
open Go.RowKit Go.Sort
set_option maxRecDepth 100000
variable {tp : Bool} {ca : Nat}
set_option maxHeartbeats 2000000

theorem only_sortWorld {w : World} {b o n : Nat} {d : Array (Po tp)} {os : Array Obj} : Only w (sortWorldK encP 2 w b o n d os) b := by
  refine ⟨rfl, rfl, rfl, ?_, fun k hk hne => ?_⟩
  · simp [sortWorldK, Go.Sort.grow, putRowK, putRow, mapBlock, Sort.ahead]
  · have hb : b ≠ k := fun e => hne (by rw [e])
    have e : (sortWorldK encP 2 w b o n d os).heap = (w.heap.modify b (onCells (putCells id o (flatK encP 2 d)))) ++ os := rfl
    rw [e, Array.getElem?_append_left (by simpa using hk), Array.getElem?_modify, if_neg hb]
theorem cmpLaysP {b : Nat} {w : World} (hC : Cmps tp ca w b) (o size : Nat) : CmpLays Tryz.prog 47 #[.pointer (some ⟨ca, 0, none⟩)] encP 2 (cfT (tp := tp)) b o size w :=
  fun _ _ _ _ x y => (hC _ only_sortWorld x y).mono fun _ _ h => h
theorem insP_any (b o c n x y : Nat) (P U S : List (Po tp)) (w : World) (h : RowP w b o (P ++ (U ++ S))) (hn : P.length + (U.length + S.length) = n) (hl : n ≤ 1099511627776) (h0 : 0 < n) (hx : P.length = x) (hy : x + U.length = y) (hC : Cmps tp ca w b) :
    Calls Tryz.prog 82 #[.slice (some ⟨b, o, none⟩) n c, .int .i64 x, .int .i64 y, .func (.func 47) #[] #[.pointer (some ⟨ca, 0, none⟩)]] w fun e w' => e = .returned (.tuple #[]) ∧ ∃ R, AscT R ∧ EqT U R ∧ Rw w w' b o (P ++ (R ++ S)) := by
  have hlen : (P ++ (U ++ S)).length = n := by simp; omega
  have eg : ∀ args w, (callFunc 47 args).run Tryz.prog w = .ok (.enter 47 args) w := enters_of Tryz.func47 (by kernel_rfl) rfl
  have hb : b < w.heap.size := h.lt (by omega)
  have hcon := AnyQ.insertionSortCmpFunc Tryz.insQ 2 Tryz.isAgg45 Tryz.sizeOf45 encP (fun _ => rfl) (fun x v hv => by simp [encP] at hv; rcases hv with rfl | rfl <;> rfl) cfT 47 #[.pointer (some ⟨ca, 0, none⟩)] b o c x y (P ++ (U ++ S)).toArray w eg (cmpLaysP hC o _) h.holds hb (by omega) (by rw [List.size_toArray]; omega) (by rw [List.size_toArray]; omega)
  change Calls Tryz.prog 82 _ _ _ at hcon
  rw [show ((P ++ (U ++ S)).toArray).size = n by rw [List.size_toArray]; exact hlen] at hcon
  refine hcon.mono fun e w' ⟨he, m, os, hw⟩ => ⟨he, ?_⟩
  obtain ⟨R, h1, h2, h3⟩ := ins_list P U S
  rw [hx, hy] at h3
  refine ⟨R, h1, h2, ?_, by rw [hw]; exact only_sortWorld⟩
  rw [hw]
  have hs : (Sort.insertionSort (ltOf cfT) (P ++ (U ++ S)).toArray x y).size = (P ++ (U ++ S)).toArray.size := by
    have : (Sort.insertionSort (ltOf cfT) (P ++ (U ++ S)).toArray x y).toList.length = (P ++ (U ++ S)).length := by rw [h3]; simp [h2.length]
    simpa using this
  have := holdsK_sortWorldK_c encP 2 w b o (P ++ (U ++ S)).toArray (Sort.insertionSort (ltOf cfT) (P ++ (U ++ S)).toArray x y) m os h.holds hb hs
  refine RowP.of_holds ?_
  rw [← h3]
  exact this

/-- a merge in place -/
theorem sym_any (b o c n : Nat) (hl : n ≤ 1099511627776) : ∀ (d x m y : Nat) (P U V S : List (Po tp)) (w : World), U.length + V.length ≤ d → RowP w b o (P ++ (U ++ (V ++ S))) → P.length + (U.length + (V.length + S.length)) = n → P.length = x → x + U.length = m → m + V.length = y → AscT U → AscT V → 0 < U.length → 0 < V.length → Cmps tp ca w b →
      Calls Tryz.prog 96 #[.slice (some ⟨b, o, none⟩) n c, .int .i64 x, .int .i64 m, .int .i64 y, .func (.func 47) #[] #[.pointer (some ⟨ca, 0, none⟩)]] w (SymPost b o P U V S w) := by
  intro d
  induction d with
  | zero => intro x m y P U V S w h1 h2 h3 h4 h5 h6 h7 h8 h9 h10 h11; omega
  | succ d ih =>
    intro x m y P U V S w h1 h2 h3 h4 h5 h6 h7 h8 h9 h10 h11
    by_cases e1 : U.length = 1
    · obtain ⟨u, rfl⟩ := List.length_eq_one_iff.1 e1
      exact sym_left b o c n x m y P V S u w h2 (by simpa using h3) hl h4 (by simpa using h5) h6 h8 h11
    · by_cases e2 : V.length = 1
      · obtain ⟨v, rfl⟩ := List.length_eq_one_iff.1 e2
        exact sym_right b o c n x m y P U S v w h2 (by simpa using h3) hl h4 h5 (by simpa using h6) h7 (by omega) h11
      · exact sym_gen b o c n x m y P U V S w (fun x m y P U' V' S w hlt => ih x m y P U' V' S w (by omega)) h2 h3 hl h4 h5 h6 h7 h8 (by omega) (by omega) h11

/-- the row under way, sorted in blocks -/
def BlkTo (s k : Nat) (l : List (Po tp)) : Prop := ∀ i, i < k → AscT (blk s i l)
theorem stable_any (b o c n : Nat) (l : List (Po tp)) (w : World) (h : RowP w b o l) (hn : l.length = n) (hl : n ≤ 1099511627776) (h0 : 0 < n) (hC : Cmps tp ca w b) :
    Calls Tryz.prog 79 #[.slice (some ⟨b, o, none⟩) n c, .int .i64 n, .func (.func 47) #[] #[.pointer (some ⟨ca, 0, none⟩)]] w fun e w' => e = .returned (.tuple #[]) ∧ ∃ r, AscT r ∧ EqT l r ∧ Rw w w' b o r := by
  have H := Lib.hid (Rw.refl h)
  have HN := Lib.hid hn
  have CI := Lib.hid (fun x y P U S W h h1 h2 h3 (g : Only w W b) => insP_any b o c n x y P U S W h h1 hl h0 h2 h3 (hC.only g))
  have CS := Lib.hid (fun x m y P U V S W h2 h3 h4 h5 h6 h7 h8 h9 h10 (g : Only w W b) => sym_any b o c n hl (U.length + V.length) x m y P U V S W (Nat.le_refl _) h2 h3 h4 h5 h6 h7 h8 h9 h10 (hC.only g))
  clear h hn hC
  go_enter Tryz.func79, Tryz.ntmps79
  go_wp2
  go_loopw [7, 8] (fun va vb wr => ∃ (k p q : Nat) (cur : List (Po tp)), va = .int .i64 p ∧ vb = .int .i64 q ∧ p ≤ n ∧ p < q ∧ Hid (p = k * 20 ∧ q = p + 20) ∧ Hid (EqT l cur ∧ BlkTo 20 k cur) ∧ Hid (Rw w wr b o cur)) (fun va _ _ => n - (intOf va).toNat)
  case atStart => exact ⟨0, 0, 20, l, by go_num, by go_num, by omega, by omega, Lib.hid ⟨by omega, by omega⟩, Lib.hid ⟨EqT.refl _, fun i hi => absurd hi (by omega)⟩, H⟩
  case round =>
    clear H
    obtain ⟨k, p, q, cur, rfl, rfl, hpn, hpq, HP, HB, HR⟩ := hrel
    by_cases hlt : q ≤ n
    · have n1 : (q : Int) ≤ (n : Int) := by omega
      obtain ⟨P, U, S, hc, hP, hU, -⟩ := cut3 cur (p := p) (q := 20) (by have := HP.out; have := HB.out.1.length; have := HN.out; omega)
      have HC : Hid (cur = P ++ (U ++ S) ∧ P.length = p ∧ U.length = 20) := Lib.hid ⟨hc, hP, hU⟩
      have C1 := Lib.hid (CI.out p q P U S _ (by have := HR.out.r; rwa [hc] at this) (by have := HB.out.1.length; have := HN.out; rw [hc] at *; simp only [List.length_append] at *; omega) hP (by have := HP.out; omega) HR.out.g)
      clear hc hP hU
      go_wp2_with fail
      refine C1.out.mono ?_
      rintro e w1 ⟨rfl, R, hA, hE, hr⟩
      have HQ : Hid (AscT R ∧ EqT U R) := Lib.hid ⟨hA, hE⟩
      have HN1 := Lib.hid (HR.out.trans hr)
      clear hA hE hr C1
      go_wp2
      go_roundw
      case rel => exact ⟨k + 1, q, q + 20, P ++ (R ++ S), rfl, by go_num, hlt, by omega, Lib.hid (by have := HP.out; omega), Lib.hid (by
        obtain ⟨hp, hq⟩ := HP.out
        obtain ⟨e1, e2, e3⟩ := HC.out
        obtain ⟨e4, e5⟩ := HQ.out
        have hRl : R.length = U.length := e5.length
        refine ⟨HB.out.1.trans (by rw [e1]; exact (EqT.refl P).app (e5.app (EqT.refl S))), fun i hi => ?_⟩
        by_cases h : i < k
        · rw [blk_out hRl (.inl (by omega)), ← e1]; exact HB.out.2 i h
        · exact blk_in_asc e4 (by omega) (.inl (by omega))), HN1⟩
      case measure => have := HP.out; simp [intOf]; omega
    · have n1 : ¬ (q : Int) ≤ (n : Int) := by omega
      obtain ⟨P, U, S, hc, hP, hU, -⟩ := cut3 cur (p := p) (q := n - p) (by have := HB.out.1.length; have := HN.out; omega)
      have hS : S = [] := by
        have := HB.out.1.length; have := HN.out; rw [hc] at *; simp only [List.length_append] at *
        exact List.eq_nil_of_length_eq_zero (by omega)
      subst hS
      have HC : Hid (cur = P ++ (U ++ []) ∧ P.length = p ∧ U.length = n - p) := Lib.hid ⟨hc, hP, hU⟩
      have C1 := Lib.hid (CI.out p n P U [] _ (by have := HR.out.r; rwa [hc] at this) (by have := HB.out.1.length; have := HN.out; rw [hc] at *; simp only [List.length_append] at *; omega) hP (by have := HP.out; omega) HR.out.g)
      clear hc hP hU
      go_wp2_with fail
      refine C1.out.mono ?_
      rintro e w1 ⟨rfl, R, hA, hE, hr⟩
      have HQ : Hid (AscT R ∧ EqT U R) := Lib.hid ⟨hA, hE⟩
      have HN1 := Lib.hid (HR.out.trans hr)
      have HB1 : Hid (EqT l (P ++ (R ++ [])) ∧ ∀ i, AscT (blk 20 i (P ++ (R ++ [])))) := Lib.hid (by
        obtain ⟨hp, hq⟩ := HP.out
        obtain ⟨e1, e2, e3⟩ := HC.out
        obtain ⟨e4, e5⟩ := HQ.out
        have hRl : R.length = U.length := e5.length
        refine ⟨HB.out.1.trans (by rw [e1]; exact (EqT.refl P).app (e5.app (EqT.refl []))), fun i => ?_⟩
        by_cases h : i < k
        · rw [blk_out hRl (.inl (by omega)), ← e1]; exact HB.out.2 i h
        · exact blk_in_asc e4 (by omega) (.inr rfl))
      obtain ⟨c0, hc0⟩ : ∃ c0, P ++ (R ++ []) = c0 := ⟨_, rfl⟩
      rw [hc0] at HN1 HB1
      clear hA hE hr C1 hc0 HC HQ HB HR hpn hpq HP hlt n1 CI
      go_wp2
      go_loopw [6, 7, 8, 9] (fun vs _ _ _ wr => ∃ (s : Nat) (cur : List (Po tp)), vs = .int .i64 s ∧ 20 ≤ s ∧ s ≤ 2 * n + 20 ∧ Hid (EqT l cur ∧ ∀ i, AscT (blk s i cur)) ∧ Hid (Rw w wr b o cur)) (fun vs _ _ _ _ => 2 * n - (intOf vs).toNat)
      case atStart => exact ⟨20, c0, by go_num, Nat.le_refl _, by omega, HB1, HN1⟩
      case round =>
        clear HB1 HN1
        obtain ⟨s, cur, rfl, hs20, hsn, HB, HR⟩ := hrel
        by_cases hlt : s < n
        · have n1 : (s : Int) < (n : Int) := by omega
          go_wp2
          go_loopw [7, 8] (fun va vb wk => ∃ (k p q : Nat) (cr : List (Po tp)), va = .int .i64 p ∧ vb = .int .i64 q ∧ p ≤ n ∧ p < q ∧ q ≤ 4 * n + 40 ∧ Hid (p = k * (2 * s) ∧ q = p + 2 * s) ∧ Hid (EqT l cr ∧ (∀ i, AscT (blk s i cr)) ∧ BlkTo (2 * s) k cr) ∧ Hid (Rw w wk b o cr)) (fun va _ _ => n - (intOf va).toNat)
          case atStart => exact ⟨0, 0, 2 * s, cur, by go_num, by go_num, by omega, by omega, by omega, Lib.hid ⟨by omega, by omega⟩, Lib.hid ⟨HB.out.1, HB.out.2, fun i hi => absurd hi (by omega)⟩, HR⟩
          case round =>
            clear HB HR
            obtain ⟨k, p, q, cr, rfl, rfl, hpn, hpq, hq4, HP, HB, HR⟩ := hrel
            obtain ⟨m, hm⟩ : ∃ m, p + s = m := ⟨_, rfl⟩
            have HM : Hid (p + s = m) := Lib.hid hm
            have d1 : (p : Int) + s = (m : Int) := by omega
            by_cases hle : q ≤ n
            · have n2 : (q : Int) ≤ (n : Int) := by omega
              obtain ⟨P, UV, S, hc, hP, hUV, -⟩ := cut3 cr (p := p) (q := 2 * s) (by have := HP.out; have := HB.out.1.length; have := HN.out; omega)
              obtain ⟨U, V, hUVe, hU⟩ : ∃ U V, UV = U ++ V ∧ U.length = s := ⟨UV.take s, UV.drop s, (List.take_append_drop _ _).symm, by simp; omega⟩
              have HC : Hid (cr = P ++ (U ++ (V ++ S)) ∧ P.length = p ∧ U.length = s ∧ V.length = s) := Lib.hid ⟨by rw [hc, hUVe, List.append_assoc], hP, hU, by rw [hUVe, List.length_append] at hUV; omega⟩
              have HA : Hid (AscT U ∧ AscT V) := Lib.hid (by
                obtain ⟨hp, hq⟩ := HP.out
                obtain ⟨e1, e2, e3, e4⟩ := HC.out
                have g1 := HB.out.2.1 (2 * k)
                have g2 := HB.out.2.1 (2 * k + 1)
                have x1 : 2 * k * s = p := by rw [hp, Nat.mul_assoc, Nat.mul_left_comm]
                have x2 : (2 * k + 1) * s = p + s := by rw [Nat.add_mul, x1, Nat.one_mul]
                rw [e1, blk_in (by omega) (by left; omega)] at g1
                rw [e1, show P ++ (U ++ (V ++ S)) = (P ++ U) ++ (V ++ S) by simp, blk_in (by simp only [List.length_append]; omega) (by left; simp only [List.length_append]; omega)] at g2
                refine ⟨?_, ?_⟩
                · rw [show 2 * k * s - P.length = 0 by omega, List.drop_zero, List.take_of_length_le (by omega)] at g1
                  exact g1
                · rw [show (2 * k + 1) * s - (P ++ U).length = 0 by simp only [List.length_append]; omega, List.drop_zero, List.take_of_length_le (by omega)] at g2
                  exact g2)
              have C1 := Lib.hid (CS.out p m q P U V S _ (by have := HR.out.r; rwa [HC.out.1] at this) (by obtain ⟨e1, e2, e3, e4⟩ := HC.out; have := HB.out.1.length; have := HN.out; rw [e1] at *; simp only [List.length_append] at *; omega) hP (by have := HC.out; have := HM.out; omega) (by have := HC.out; have := HM.out; have := HP.out; omega) HA.out.1 HA.out.2 (by have := HC.out; omega) (by have := HC.out; omega) HR.out.g)
              clear hc hP hUV hUVe hU hm
              go_wp2_with fail
              refine C1.out.mono ?_
              rintro e w3 ⟨rfl, R, hA, hr⟩
              have HQ : Hid (Mrg U V R) := Lib.hid hA
              have HN1 := Lib.hid (HR.out.trans hr)
              clear hA hr C1
              go_wp2
              go_roundw
              case rel => exact ⟨k + 1, q, q + 2 * s, P ++ (R ++ S), rfl, by go_num, hle, by omega, by omega, Lib.hid (by
                obtain ⟨hp, hq⟩ := HP.out
                refine ⟨?_, rfl⟩
                rw [Nat.add_mul, ← hp]; omega), Lib.hid (by
                obtain ⟨hp, hq⟩ := HP.out
                obtain ⟨e1, e2, e3, e4⟩ := HC.out
                obtain ⟨e5, e6⟩ := HQ.out
                have hRl : R.length = (U ++ V).length := e6.length
                have hRl2 : R.length = 2 * s := by rw [hRl, List.length_append]; omega
                have e1' : cr = P ++ ((U ++ V) ++ S) := by rw [e1, List.append_assoc]
                refine ⟨HB.out.1.trans (by rw [e1']; exact (EqT.refl P).app (e6.app (EqT.refl S))), fun i => ?_, fun i hi => ?_⟩
                · by_cases h : i < 2 * k
                  · have x : i * s + s ≤ P.length := by
                      have : (i + 1) * s ≤ 2 * k * s := Nat.mul_le_mul_right s (by omega)
                      rw [Nat.add_mul, Nat.one_mul, show 2 * k * s = k * (2 * s) by rw [Nat.mul_assoc, Nat.mul_left_comm]] at this
                      omega
                    rw [blk_out hRl (.inl x), ← e1']; exact HB.out.2.1 i
                  · by_cases h2 : i < 2 * k + 2
                    · have x1 : P.length ≤ i * s := by
                        have : 2 * k * s ≤ i * s := Nat.mul_le_mul_right s (by omega)
                        rw [show 2 * k * s = k * (2 * s) by rw [Nat.mul_assoc, Nat.mul_left_comm]] at this
                        omega
                      have x2 : i * s + s ≤ P.length + R.length := by
                        have : (i + 1) * s ≤ (2 * k + 2) * s := Nat.mul_le_mul_right s (by omega)
                        rw [Nat.add_mul, Nat.one_mul, Nat.add_mul, show 2 * k * s = k * (2 * s) by rw [Nat.mul_assoc, Nat.mul_left_comm]] at this
                        omega
                      exact blk_in_asc e5 x1 (.inl x2)
                    · have x : P.length + (U ++ V).length ≤ i * s := by
                        have : (2 * k + 2) * s ≤ i * s := Nat.mul_le_mul_right s (by omega)
                        rw [Nat.add_mul, show 2 * k * s = k * (2 * s) by rw [Nat.mul_assoc, Nat.mul_left_comm]] at this
                        omega
                      rw [blk_out hRl (.inr x), ← e1']; exact HB.out.2.1 i
                · by_cases h : i < k
                  · have x : i * (2 * s) + 2 * s ≤ P.length := by
                      have : (i + 1) * (2 * s) ≤ k * (2 * s) := Nat.mul_le_mul_right _ (by omega)
                      rw [Nat.add_mul, Nat.one_mul] at this
                      omega
                    rw [blk_out hRl (.inl x), ← e1']; exact HB.out.2.2 i h
                  · obtain rfl : i = k := by omega
                    exact blk_in_asc e5 (by omega) (.inl (by omega))), HN1⟩
              case measure => have := HP.out; simp [intOf]; omega
            · have n2 : ¬ (q : Int) ≤ (n : Int) := by omega
              by_cases hmn : m < n
              · have n3 : (m : Int) < (n : Int) := by omega
                obtain ⟨P, U, V, hc, hP, hU, -⟩ := cut3 cr (p := p) (q := s) (by have := HB.out.1.length; have := HN.out; omega)
                have HC : Hid (cr = P ++ (U ++ (V ++ [])) ∧ P.length = p ∧ U.length = s ∧ V.length = n - m ∧ V.length ≤ s) := Lib.hid (by
                  have := HB.out.1.length; have := HN.out
                  have h3 : cr.length = P.length + (U.length + V.length) := by rw [hc]; simp
                  have := HP.out
                  exact ⟨by rw [hc, List.append_nil], hP, hU, by omega, by omega⟩)
                have HA : Hid (AscT U ∧ AscT V) := Lib.hid (by
                  obtain ⟨hp, hq⟩ := HP.out
                  obtain ⟨e1, e2, e3, e4, e5⟩ := HC.out
                  have g1 := HB.out.2.1 (2 * k)
                  have g2 := HB.out.2.1 (2 * k + 1)
                  have x1 : 2 * k * s = p := by rw [hp, Nat.mul_assoc, Nat.mul_left_comm]
                  have x2 : (2 * k + 1) * s = p + s := by rw [Nat.add_mul, x1, Nat.one_mul]
                  rw [e1, blk_in (by omega) (by left; omega)] at g1
                  rw [e1, show P ++ (U ++ (V ++ [])) = (P ++ U) ++ (V ++ []) by simp, blk_in (by simp only [List.length_append]; omega) (.inr rfl)] at g2
                  refine ⟨?_, ?_⟩
                  · rw [show 2 * k * s - P.length = 0 by omega, List.drop_zero, List.take_of_length_le (by omega)] at g1
                    exact g1
                  · rw [show (2 * k + 1) * s - (P ++ U).length = 0 by simp only [List.length_append]; omega, List.drop_zero, List.take_of_length_le (by omega)] at g2
                    exact g2)
                have C1 := Lib.hid (CS.out p m n P U V [] _ (by have := HR.out.r; rwa [HC.out.1] at this) (by obtain ⟨e1, e2, e3, e4, e5⟩ := HC.out; have := HM.out; simp only [List.length_nil]; omega) hP (by have := HC.out; have := HM.out; omega) (by have := HC.out; have := HM.out; omega) HA.out.1 HA.out.2 (by have := HC.out; omega) (by have := HC.out; omega) HR.out.g)
                clear hc hP hU hm
                go_wp2_with fail
                refine C1.out.mono ?_
                rintro e w3 ⟨rfl, R, hA, hr⟩
                have HQ : Hid (Mrg U V R) := Lib.hid hA
                have HN1 := Lib.hid (HR.out.trans hr)
                clear hA hr C1
                go_wp2
                go_roundw
                case rel => exact ⟨2 * s, P ++ (R ++ []), by go_num; try omega, by omega, by omega, Lib.hid (by
                  obtain ⟨hp, hq⟩ := HP.out
                  obtain ⟨e1, e2, e3, e4, e4'⟩ := HC.out
                  obtain ⟨e5, e6⟩ := HQ.out
                  have hRl : R.length = (U ++ V).length := e6.length
                  have e1' : cr = P ++ ((U ++ V) ++ []) := by rw [e1, List.append_assoc]
                  refine ⟨HB.out.1.trans (by rw [e1']; exact (EqT.refl P).app (e6.app (EqT.refl []))), fun i => ?_⟩
                  by_cases h : i < k
                  · have x : i * (2 * s) + 2 * s ≤ P.length := by
                      have : (i + 1) * (2 * s) ≤ k * (2 * s) := Nat.mul_le_mul_right _ (by omega)
                      rw [Nat.add_mul, Nat.one_mul] at this
                      omega
                    rw [blk_out hRl (.inl x), ← e1']; exact HB.out.2.2 i h
                  · have : k * (2 * s) ≤ i * (2 * s) := Nat.mul_le_mul_right _ (by omega)
                    exact blk_in_asc e5 (by omega) (.inr rfl)), HN1⟩
                case measure => simp [intOf]; omega
              · have n3 : ¬ (m : Int) < (n : Int) := by omega
                clear hm
                go_wp2
                go_roundw
                case rel => exact ⟨2 * s, cr, by go_num; try omega, by omega, by omega, Lib.hid (by
                  obtain ⟨hp, hq⟩ := HP.out
                  refine ⟨HB.out.1, fun i => ?_⟩
                  by_cases h : i < k
                  · exact HB.out.2.2 i h
                  · by_cases h2 : i = k
                    · subst h2
                      have g1 := HB.out.2.1 (2 * i)
                      have x1 : 2 * i * s = p := by rw [hp, Nat.mul_assoc, Nat.mul_left_comm]
                      have hlen : cr.length = n := by rw [HB.out.1.length]; exact HN.out
                      have : blk (2 * s) i cr = blk s (2 * i) cr := by
                        unfold blk
                        rw [x1, ← hp, List.take_of_length_le (by simp only [List.length_drop]; have := HM.out; omega), List.take_of_length_le (by simp only [List.length_drop]; have := HM.out; omega)]
                      rw [this]; exact g1
                    · have h3 : (k + 1) * (2 * s) ≤ i * (2 * s) := Nat.mul_le_mul_right _ (by omega)
                      rw [Nat.add_mul, Nat.one_mul, ← hp] at h3
                      rw [blk_end (by rw [HB.out.1.length]; have := HN.out; omega)]
                      exact asc_nil), HR⟩
                case measure => simp [intOf]; omega
        · have n1 : ¬ (s : Int) < (n : Int) := by omega
          go_wp2
          go_end0
          refine ⟨rfl, cur, ?_, HB.out.1, HR.out⟩
          have := HB.out.2 0
          unfold blk at this
          rwa [Nat.zero_mul, List.drop_zero, List.take_of_length_le (by have := HB.out.1.length; have := HN.out; omega)] at this
theorem sortStable_any (b o c n : Nat) (l : List (Po tp)) (w : World) (h : RowP w b o l) (hn : l.length = n) (hl : n ≤ 1099511627776) (h0 : 0 < n) (hC : Cmps tp ca w b) :
    Calls Tryz.prog 46 #[.slice (some ⟨b, o, none⟩) n c, .func (.func 47) #[] #[.pointer (some ⟨ca, 0, none⟩)]] w fun e w' => e = .returned (.tuple #[]) ∧ ∃ r, AscT r ∧ EqT l r ∧ Rw w w' b o r := by
  have C := Lib.hid (stable_any b o c n l w h hn hl h0 hC)
  clear h hn hC
  go_enter Tryz.func46, Tryz.ntmps46
  go_wp2_with fail
  refine C.out.mono ?_
  rintro e w1 ⟨rfl, r, h1, h2, h3⟩
  go_wp2
  go_end0
  exact ⟨rfl, r, h1, h2, h3⟩
end Go.Proofs.YtllhkegefinlbaaGreatDoor.Gs
