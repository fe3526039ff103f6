/- WindowFns' walk. -/
import Derived.Test.YtjjfkjpkbpefpaaDoorVLawN
import Derived.Test.YtjjfkjpkbpefpaaDoorVRfn
namespace Go.Proofs.YtjjfkjpkbpefpaaDoor.Vn
open Go.RowKit
set_option maxRecDepth 100000
set_option maxHeartbeats 4000000
attribute [local irreducible] wpQuiet

theorem extL_cons (m : Bool) (x : Nat) (r : List Nat) : extL m (x :: r) = r.foldl (extS m) x := rfl
/-- what a function tells is canonical -/
theorem valF_cn (fn : Nat) (v : List Nat) (len : Nat) (hv : v.length ≤ 1000000) : canon (valF fn v len) = valF fn v len := by
  have hc : ∀ p, cntL p v ≤ 1000000 := fun p => by
    unfold cntL
    refine Nat.le_trans List.countP_le_length ?_
    rw [prsL_len]; omega
  unfold valF
  split
  · exact ofI_cn _ (by omega)
  · exact sumL_cn _
  · exact divC_cn _ _
  · exact canon_idem _
  · exact canon_idem _
  · exact canon_idem _
  · exact canon_idem _
  · exact incL_cn _
  · exact divC_cn _ _
  · exact subC_cn _ _
  · exact ofI_cn _ (by have := hc unlike; omega)
  · exact ofI_cn _ (by have := hc ltB; omega)
  · exact addC_cn _ _
  · exact ofI_cn _ (by have := quV_le (sumF (seqOf v) v.length).1 (sumF (seqOf v) v.length).2; omega)
theorem fnP_cn (fn : Int) (l : List Sm) (f t : Int) (hl : l.length ≤ 1000000) : canon ((fnP fn l f t).getD 0) = (fnP fn l f t).getD 0 := by
  unfold fnP outP
  split
  · split
    · exact canon_0
    · exact valF_cn _ _ _ (by rw [vals_len]; have := strL_len l f t; omega)
  · exact canon_0
theorem same_refl (a : Nat) : sameB a a = true := by unfold sameB; simp
theorem rbits_any (a : Nat) (w : World) : Calls Tryd.prog 15 #[.float .f64 a] w fun e w' => e = .returned (.int .u64 (canon a)) ∧ w = w' := by
  go_enter Tryd.func15, Tryd.ntmps15
  go_wp2_with (go_at_call 37; refine (rcanon_any _ _).mono ?_; rintro e w' ⟨rfl, rfl⟩)
  go_ret
  exact ⟨rfl, rfl⟩
/-- the way out where the arguments may not be -/
theorem walkFns_none (A : Option Addr) (c : Nat) (l : List Sm) (f t fn : Int) (w : World) (ht : Tab w) (hf : FTab w) (h : At2 encP w A l) (hm : l.length ≤ maxLen) (hno : ¬ rightP l ∨ inT f = false ∨ inT t = false) :
    Calls Tryd.prog 3 #[.slice A l.length c, .int .i64 f, .int .i64 t, .int .i64 fn] w fun e w' => e = .returned (.bool true) ∧ Gr w w' := by
  have CK := Lib.hid (known_any w ht hf)
  have CR := Lib.hid (fun W (g : Gr w W) => right_any A c l W (h.gr g) hm)
  have C1 := Lib.hid (fun W => in_any f W)
  have C2 := Lib.hid (fun W => in_any t W)
  unfold RightPost at CR
  by_cases hr : rightP l
  · have CR2 : Hid (∀ W, Gr w W → Calls Tryd.prog 10 #[.slice A l.length c] W fun e w' => e = .returned (.bool true) ∧ Gr W w') := Lib.hid fun W g => (CR.out W g).mono fun e w' ⟨b, he, hb, hg⟩ => ⟨by rw [he, hb.2 hr], hg⟩
    clear CR h hm ht hf
    cases h1 : inT f
    · rw [h1] at C1
      clear h1 hno
      go_enter Tryd.func3, Tryd.ntmps3
      go_wp2_with (first
        | (go_at_call 9; refine CK.out.mono ?_; rintro e w1 ⟨rfl, g1⟩; have HG1 := Lib.hid g1; clear g1)
        | (go_at_call 10; refine (CR2.out _ HG1.out).mono ?_; rintro e w2 ⟨rfl, g2⟩; have HG2 := Lib.hid (HG1.out.trans g2); clear g2)
        | (go_at_call 11; refine (C1.out _).mono ?_; rintro e w3 ⟨rfl, rfl⟩)
        | fail)
      go_ret
      exact ⟨rfl, HG2.out⟩
    · rw [h1] at C1
      have h2 : inT t = false := by
        rcases hno with h | h | h
        · exact absurd hr h
        · rw [h1] at h; cases h
        · exact h
      rw [h2] at C2
      clear h1 h2 hno
      go_enter Tryd.func3, Tryd.ntmps3
      go_wp2_with (first
        | (go_at_call 9; refine CK.out.mono ?_; rintro e w1 ⟨rfl, g1⟩; have HG1 := Lib.hid g1; clear g1)
        | (go_at_call 10; refine (CR2.out _ HG1.out).mono ?_; rintro e w2 ⟨rfl, g2⟩; have HG2 := Lib.hid (HG1.out.trans g2); clear g2)
        | (go_at_call_of 11 (Value.int IntKind.i64 f); refine (C1.out _).mono ?_; rintro e w3 ⟨rfl, rfl⟩)
        | (go_at_call_of 11 (Value.int IntKind.i64 t); refine (C2.out _).mono ?_; rintro e w3 ⟨rfl, rfl⟩)
        | fail)
      go_ret
      exact ⟨rfl, HG2.out⟩
  · have CR2 : Hid (∀ W, Gr w W → Calls Tryd.prog 10 #[.slice A l.length c] W fun e w' => e = .returned (.bool false) ∧ Gr W w') := Lib.hid fun W g => (CR.out W g).mono fun e w' ⟨b, he, hb, hg⟩ => ⟨by
      cases b
      · exact he
      · exact absurd (hb.1 rfl) hr, hg⟩
    clear CR h hm ht hf hno
    go_enter Tryd.func3, Tryd.ntmps3
    go_wp2_with (first
      | (go_at_call 9; refine CK.out.mono ?_; rintro e w1 ⟨rfl, g1⟩; have HG1 := Lib.hid g1; clear g1)
      | (go_at_call 10; refine (CR2.out _ HG1.out).mono ?_; rintro e w2 ⟨rfl, g2⟩; have HG2 := Lib.hid (HG1.out.trans g2); clear g2)
      | fail)
    go_ret
    exact ⟨rfl, HG2.out⟩
theorem walkFns_some (A : Option Addr) (c : Nat) (l : List Sm) (f t fn : Int) (w : World) (h : SmpH w A c l) (hr : rightP l) (h1 : inT f = true) (h2 : inT t = true) :
    Calls Tryd.prog 3 #[.slice A l.length c, .int .i64 f, .int .i64 t, .int .i64 fn] w fun e w' => e = .returned (.bool true) ∧ Gr w w' := by
  have CK := Lib.hid (known_any w h.ht h.hf)
  have hml : l.length ≤ maxLen := by have := h.hn; unfold maxLen; omega
  have CR2 : Hid (∀ W, Gr w W → Calls Tryd.prog 10 #[.slice A l.length c] W fun e w' => e = .returned (.bool true) ∧ Gr W w') := Lib.hid fun W g => (right_any A c l W (h.at_.gr g) hml).mono fun e w' ⟨b, he, hb, hg⟩ => ⟨by rw [he, hb.2 hr], hg⟩
  have C1 := Lib.hid (fun W => in_any f W)
  have C2 := Lib.hid (fun W => in_any t W)
  rw [h1] at C1
  rw [h2] at C2
  have bf : -2251799813685248 ≤ f ∧ f ≤ 2251799813685248 := by simpa [inT] using h1
  have bt : -2251799813685248 ≤ t ∧ t ≤ 2251799813685248 := by simpa [inT] using h2
  obtain ⟨P, hP⟩ : ∃ P : Int → Nat, (fun g => (fnP g l f t).getD 0) = P := ⟨_, rfl⟩
  obtain ⟨Q, hQ⟩ : ∃ Q : Int → Bool, (fun g => (fnP g l f t).isSome) = Q := ⟨_, rfl⟩
  have HOP : ∀ g, optV (fnP g l f t) = .tuple #[.float .f64 (P g), .bool (Q g)] := fun g => by rw [← hP, ← hQ]; rfl
  have CF : Hid (∀ g W, Gr w W → Calls Tryd.prog 12 #[.int .i64 g, .slice A l.length c, .int .i64 f, .int .i64 t] W fun e w' => e = .returned (.tuple #[.float .f64 (P g), .bool (Q g)]) ∧ Gr W w') := Lib.hid fun g W gg => by
    have := Fn_any g A c l f t W (h.gr gg) (by omega) (by omega)
    unfold FnPost at this
    rwa [HOP] at this
  have CRF : Hid (∀ g W, Gr w W → Calls Tryd.prog 13 #[.int .i64 g, .slice A l.length c, .int .i64 f, .int .i64 t] W fun e w' => e = .returned (.tuple #[.float .f64 (P g), .bool (Q g)]) ∧ Gr W w') := Lib.hid fun g W gg => by
    have := rFn_any g A c l f t W (h.at_.gr gg) h.hn (by omega) (by omega)
    unfold FnPost at this
    rwa [HOP] at this
  have CB : Hid (∀ g W, Calls Tryd.prog 15 #[.float .f64 (P g)] W fun e w' => e = .returned (.int .u64 (P g)) ∧ W = w') := Lib.hid fun g W => by
    have := rbits_any (P g) W
    have e : canon (P g) = P g := by rw [← hP]; exact fnP_cn g l f t h.hn
    rwa [e] at this
  have CS : Hid (∀ a W, Calls Tryd.prog 18 #[.float .f64 a, .float .f64 a] W fun e w' => e = .returned (.bool true) ∧ W = w') := Lib.hid fun a W => by
    have := rsame_any a a W
    rwa [same_refl] at this
  have CC := Lib.hid (fun W (g : Gr w W) => Cut_any A c l f t W (h.at_.gr g) h.asc (by have := h.hn; omega) h.hc)
  have CRC := Lib.hid (fun W (g : Gr w W) => rcut_any A c l f t W (h.at_.gr g) h.hn)
  unfold CutP at CC
  unfold RCutPost at CRC
  have HLL : Hid ((strL l f t).length ≤ 1000000) := Lib.hid (by have := strL_len l f t; have := h.hn; omega)
  obtain ⟨L, hL⟩ : ∃ L, strL l f t = L := ⟨_, rfl⟩
  rw [hL] at CC CRC HLL
  clear hL HOP hP hQ bf bt h1 h2 hr hml h
  go_enter Tryd.func3, Tryd.ntmps3
  go_wp2_with (first
    | (go_at_call 9; refine CK.out.mono ?_; rintro e w1 ⟨rfl, g1⟩; have HG1 := Lib.hid g1; clear g1)
    | (go_at_call 10; refine (CR2.out _ HG1.out).mono ?_; rintro e w2 ⟨rfl, g2⟩; have HG2 := Lib.hid (HG1.out.trans g2); clear g2)
    | (go_at_call_of 11 (Value.int IntKind.i64 f); refine (C1.out _).mono ?_; rintro e w3 ⟨rfl, rfl⟩)
    | (go_at_call_of 11 (Value.int IntKind.i64 t); refine (C2.out _).mono ?_; rintro e w3 ⟨rfl, rfl⟩)
    | fail)
  go_loopw [9] (fun i9 wr => ∃ k : Nat, k ≤ 16 ∧ i9 = .int .i64 k ∧ Hid (Gr w wr)) (fun i9 _ => 16 - (intOf i9).toNat)
  case atStart => exact ⟨0, by omega, rfl, HG2⟩
  case round =>
    obtain ⟨k, hk, rfl, HG⟩ := hrel
    by_cases hlt : k ≤ 15
    · have q1 : (k : Int) ≤ 15 := by omega
      go_wp2_with (first
        | (go_at_call 12; refine (CF.out _ _ HG.out).mono ?_; rintro e w4 ⟨rfl, g4⟩; have HG4 := Lib.hid (HG.out.trans g4); clear g4)
        | (go_at_call 13; refine (CRF.out _ _ HG4.out).mono ?_; rintro e w5 ⟨rfl, g5⟩; have HG5 := Lib.hid (HG4.out.trans g5); clear g5)
        | (go_at_call 15; refine (CB.out _ _).mono ?_; rintro e w6 ⟨rfl, rfl⟩)
        | fail)
      go_roundw
      case rel => exact ⟨k + 1, by omega, by go_num, HG5⟩
      case measure => simp [intOf]; omega
    · obtain rfl : k = 16 := by omega
      clear hlt hk
      go_wp2_with (first
        | (go_at_call 12; refine (CF.out _ _ HG.out).mono ?_; rintro e w4 ⟨rfl, g4⟩; have HG4 := Lib.hid (HG.out.trans g4); clear g4)
        | (go_at_call 13; refine (CRF.out _ _ HG4.out).mono ?_; rintro e w5 ⟨rfl, g5⟩; have HG5 := Lib.hid (HG4.out.trans g5); clear g5)
        | (go_at_call 16; refine (CC.out _ HG5.out).mono ?_; rintro e w6 ⟨g6, A6, c6, rfl, h6, hc6⟩; have HG6 := Lib.hid (HG5.out.trans g6); have HA6 := Lib.hid h6; clear g6 h6 hc6)
        | (go_at_call 17; refine (CRC.out _ HG6.out).mono ?_; rintro e w7 ⟨g7, A7, c7, rfl, h7, hc7⟩; have HG7 := Lib.hid (HG6.out.trans g7); have HA7 := Lib.hid h7; have HA67 := Lib.hid (HA6.out.gr g7); clear g7 h7 hc7)
        | (go_at_call 18; refine (CS.out _ _).mono ?_; rintro e w8 ⟨rfl, rfl⟩)
        | fail)
      go_loopw [20] (fun i9 wr => ∃ k : Nat, k ≤ L.length ∧ i9 = .int .i64 k ∧ ∃ n, wr = w7.drewN n) (fun i9 _ => L.length - (intOf i9).toNat)
      case atStart => exact ⟨0, by omega, rfl, 0, rfl⟩
      case round =>
        obtain ⟨k, hk, rfl, n, rfl⟩ := hrel
        by_cases hlt : k < L.length
        · obtain ⟨q, hq⟩ : ∃ q, L[k]? = some q := ⟨_, List.getElem?_eq_getElem hlt⟩
          obtain ⟨b6, o6, rfl, hc6⟩ := HA67.out (by omega)
          obtain ⟨b7, o7, rfl, hc7⟩ := HA7.out (by omega)
          obtain ⟨d1, d2⟩ := hc6 k q hq _ _ rfl
          obtain ⟨d3, d4⟩ := hc7 k q hq _ _ rfl
          obtain ⟨qt, qv⟩ := q
          simp only at d1 d2 d3 d4
          have m1 : (k : Int) < (L.length : Int) := by omega
          have m2 : (0 : Int) ≤ (k : Int) := by omega
          have hll := HLL.out
          clear hq hc6 hc7
          go_wp2
          go_quiet (first | (go_at_call 18; first | exact quiet_left (CS.out _ _) | exact quiet_left2 (CS.out _ _)) | fail)
          go_wp2
          go_roundw
          case rel => exact ⟨k + 1, by omega, by go_num, _, rfl⟩
          case measure => simp [intOf]; omega
        · obtain rfl : k = L.length := by omega
          have n3 : ¬ (L.length : Int) < (L.length : Int) := by omega
          go_wp2
          go_ret
          exact ⟨rfl, HG7.out.drewN _⟩
theorem walkFns (A : Option Addr) (c : Nat) (l : List Sm) (f t fn : Int) (w : World) (ht : Tab w) (hf : FTab w) (h : At2 encP w A l) (hc : l.length ≤ c) (hm : l.length ≤ maxLen) (hb : ∀ q ∈ l, q.2 < 2 ^ 64) :
    Calls Tryd.prog 3 #[.slice A l.length c, .int .i64 f, .int .i64 t, .int .i64 fn] w fun e w' => e = .returned (.bool true) ∧ Gr w w' := by
  by_cases hno : ¬ rightP l ∨ inT f = false ∨ inT t = false
  · exact walkFns_none A c l f t fn w ht hf h hm hno
  · have hr : rightP l := Classical.byContradiction fun g => hno (.inl g)
    have h1 : inT f = true := by cases g : inT f; exact absurd (.inr (.inl g)) hno; rfl
    have h2 : inT t = true := by cases g : inT t; exact absurd (.inr (.inr g)) hno; rfl
    exact walkFns_some A c l f t fn w ⟨ht, hf, h, hc, by have := hr.1; omega, hr.asc, hb⟩ hr h1 h2
end Go.Proofs.YtjjfkjpkbpefpaaDoor.Vn
