/- WavePairs, WaveTurns: their walks. -/
import Derived.Test.YtoglkgagdilfjaaDoorWLaw
namespace Go.Proofs.YtoglkgagdilfjaaDoor
open Go.RowKit
set_option maxRecDepth 100000
set_option maxHeartbeats 4000000

theorem quiet_left {P : Program} {f : FuncId} {args : Array Value} {w : World} {n : Nat} {v : Value}
    (h : Calls P f args (w.drewN n) fun e w' => e = .returned v ∧ w.drewN n = w') : Calls P f args (w.drewN n) fun e w'' => e = .returned v ∧ ∃ m, w'' = w.drewN m :=
  h.mono fun _ _ ⟨he, hm⟩ => ⟨he, n, hm.symm⟩
theorem quiet_add {P : Program} {f : FuncId} {args : Array Value} {w : World} {n : Nat} {v : Value}
    (h : Calls P f args (w.drewN n) fun e w' => e = .returned v ∧ ∃ k, w' = (w.drewN n).drewN k) : Calls P f args (w.drewN n) fun e w'' => e = .returned v ∧ ∃ m, w'' = w.drewN m :=
  h.mono fun _ _ ⟨he, k, hk⟩ => ⟨he, n + k, hk.trans (drewN_drewN _ _ _)⟩
theorem quiet_left2 {P : Program} {f : FuncId} {args : Array Value} {w : World} {a n : Nat} {v : Value}
    (h : Calls P f args (w.drewN (a + n)) fun e w' => e = .returned v ∧ w.drewN (a + n) = w') : Calls P f args (w.drewN (a + n)) fun e w'' => e = .returned v ∧ ∃ m, w'' = w.drewN (a + m) :=
  h.mono fun _ _ ⟨he, hm⟩ => ⟨he, n, hm.symm⟩
theorem quiet_add2 {P : Program} {f : FuncId} {args : Array Value} {w : World} {a n : Nat} {v : Value}
    (h : Calls P f args (w.drewN (a + n)) fun e w' => e = .returned v ∧ ∃ k, w' = (w.drewN (a + n)).drewN k) : Calls P f args (w.drewN (a + n)) fun e w'' => e = .returned v ∧ ∃ m, w'' = w.drewN (a + m) :=
  h.mono fun _ _ ⟨he, k, hk⟩ => ⟨he, n + k, hk.trans (by rw [drewN_drewN, Nat.add_assoc])⟩
theorem us4 (W : World) (a b c d : Nat) (x : Nat → Nat) (h0 : x 0 = a) (h1 : x 1 = b) (h2 : x 2 = c) (h3 : x 3 = d) :
    UsAt (W.alloc (.cells #[.int .u64 a, .int .u64 b, .int .u64 c, .int .u64 d] 22)) (some ⟨W.heap.size, 0, none⟩) 4 x := fun _ => ⟨_, 0, rfl, fun i hi => by
  rw [World.cell?_alloc_at _ _ _ _ (by simp)]
  match i, hi with
  | 0, _ => simp [h0]
  | 1, _ => simp [h1]
  | 2, _ => simp [h2]
  | 3, _ => simp [h3]⟩
theorem us2 (W : World) (a b : Nat) (x : Nat → Nat) (h0 : x 0 = a) (h1 : x 1 = b) :
    UsAt (W.alloc (.cells #[.int .u64 a, .int .u64 b] 22)) (some ⟨W.heap.size, 0, none⟩) 2 x := fun _ => ⟨_, 0, rfl, fun i hi => by
  rw [World.cell?_alloc_at _ _ _ _ (by simp)]
  match i, hi with
  | 0, _ => simp [h0]
  | 1, _ => simp [h1]⟩
def x4 (a b c d : Nat) (j : Nat) : Nat := match j with | 0 => a | 1 => b | 2 => c | _ => d
theorem walkPairs (a b c d : Nat) (q : Int) (w : World) (ht : Tab w) (ha : a < 2 ^ 64) (hb : b < 2 ^ 64) :
    Calls Tryd.prog 3 #[.int .u64 a, .int .u64 b, .int .u64 c, .int .u64 d, .int .i64 q] w fun e w' => e = .returned (.bool true) ∧ Gr w w' := by
  have HT := Lib.hid ht
  have CK := Lib.hid (known_any w ht)
  have CV := Lib.hid (fun W A (h : UsAt W A 4 (x4 a b c d)) => values_any A 4 4 (x4 a b c d) W h (by omega))
  have CRT := Lib.hid (fun W => rturn_any a b q W ha hb)
  have CT := Lib.hid (fun W (t : Tab W) => turn_any a b q W t)
  have CP := Lib.hid (fun W (t : Tab W) => plus_any a b c d W t)
  have CRP := Lib.hid (fun W => rplus_any a b c d W)
  have CM := Lib.hid (fun W (t : Tab W) => mag_any a b W t)
  have CRM := Lib.hid (fun W => rmag_any a b W)
  have CQ := Lib.hid (fun W => qu_any a b W)
  have CRQ := Lib.hid (fun W => rqu_any a b W)
  obtain ⟨p, hp⟩ : ∃ p, tR (qn q) a b = p := ⟨_, rfl⟩
  obtain ⟨p2, hp2⟩ : ∃ p, tI (qn q) a b = p := ⟨_, rfl⟩
  obtain ⟨s, hs⟩ : ∃ p, addC a c = p := ⟨_, rfl⟩
  obtain ⟨s2, hs2⟩ : ∃ p, addC b d = p := ⟨_, rfl⟩
  obtain ⟨mg, hmg⟩ : ∃ p, magV a b = p := ⟨_, rfl⟩
  obtain ⟨k, hk⟩ : ∃ p, quV a b = p := ⟨_, rfl⟩
  rw [hp, hp2] at CRT CT
  rw [hs, hs2] at CP CRP
  rw [hmg] at CM CRM
  rw [hk] at CQ CRQ
  have CL1 := Lib.hid (fun W (t : Tab W) => like_any p p2 p p2 W t)
  have CL2 := Lib.hid (fun W (t : Tab W) => like_any s s2 s s2 W t)
  have CSA := Lib.hid (fun W (t : Tab W) => wsame_any a b a b W t)
  rw [same_refl, same_refl] at CL1 CL2 CSA
  have ne1 : ((k : Int) != (k : Int)) = false := by simp
  have ne2 : ((mg : Int) == (mg : Int)) = true := by simp
  clear ht ha hb hp hp2 hs hs2 hmg hk
  go_enter Tryd.func3, Tryd.ntmps3
  go_wp2_with (first
    | (go_at_call 7; refine CK.out.mono ?_; rintro e w1 ⟨rfl, g1⟩)
    | (go_at_call 8; refine (CV.out _ _ (us4 w1 a b c d (x4 a b c d) rfl rfl rfl rfl)).mono ?_; rintro e w2 ⟨g2, A2, c2, rfl, h1, h2, h3⟩; obtain ⟨B, o, rfl, hc⟩ := h3 (by omega); have d0 := hc 0 (by omega); have d1 := hc 1 (by omega); have d2 := hc 2 (by omega); have d3 := hc 3 (by omega); have G2 := Lib.hid ((g1.alloc #[.int .u64 a, .int .u64 b, .int .u64 c, .int .u64 d] 22).trans g2); clear hc h2 g2 g1)
    | fail)
  have HT2 : Hid (∀ n, Tab (w2.drewN n)) := Lib.hid (fun n => (HT.out.gr G2.out).drewN n)
  simp only [x4] at d0 d1 d2 d3
  rw [Nat.add_zero] at d0
  go_quiet (fail)
  go_wp2
  go_quiet (fail)
  go_wp2
  go_quiet (first | (go_at_call 9; exact quiet_left2 (CRT.out _)))
  go_wp2
  go_quiet (first | (go_at_call 10; exact quiet_add2 (CRP.out _)))
  go_wp2
  go_quiet (first
    | (go_at_call 12; exact quiet_left2 (CT.out _ (HT2.out _)))
    | (go_at_call 13; exact quiet_add2 (CP.out _ (HT2.out _)))
    | (go_at_call 14; exact quiet_left2 (CQ.out _))
    | (go_at_call 15; exact quiet_left2 (CRQ.out _))
    | (go_at_call_of 11 (Value.complex .f64 p p2); exact quiet_left2 (CL1.out _ (HT2.out _)))
    | (go_at_call_of 11 (Value.complex .f64 s s2); exact quiet_left2 (CL2.out _ (HT2.out _))))
  go_wp2_with (first
    | (go_at_call 16; refine (CM.out _ (HT2.out _)).mono ?_; rintro e w5 ⟨rfl, n5, rfl⟩)
    | fail)
  go_quiet (first | (go_at_call 17; exact quiet_add2 (CRM.out _)))
  go_wp2_with (first
    | (go_at_call 19; refine (CSA.out _ (HT2.out _)).mono ?_; rintro e w6 ⟨rfl, rfl⟩)
    | fail)
  go_ret
  exact ⟨rfl, G2.out.drewN _⟩
/-! ### four quarters are none -/
theorem turn_turn (j k r i : Nat) (hj : j < 4) (hk : k < 4) (hr : r < 2 ^ 64) (hi : i < 2 ^ 64) :
    tR k (tR j r i) (tI j r i) = tR ((j + k) % 4) r i ∧ tI k (tR j r i) (tI j r i) = tI ((j + k) % 4) r i := by
  have e1 := cneg_canon r hr
  have e2 := cneg_canon i hi
  have e3 := cneg_cneg r hr
  have e4 := cneg_cneg i hi
  have e5 := canon_idem r
  have e6 := canon_idem i
  have e7 := canon_cneg r
  have e8 := canon_cneg i
  rcases (by omega : j = 0 ∨ j = 1 ∨ j = 2 ∨ j = 3) with rfl | rfl | rfl | rfl <;> rcases (by omega : k = 0 ∨ k = 1 ∨ k = 2 ∨ k = 3) with rfl | rfl | rfl | rfl
  all_goals (constructor <;> simp only [tR, tI, e1, e2, e3, e4, e5, e6, e7, e8] <;> rfl)
theorem walkTurns (a b : Nat) (m n : Int) (w : World) (ht : Tab w) (ha : a < 2 ^ 64) (hb : b < 2 ^ 64) :
    Calls Tryd.prog 5 #[.int .u64 a, .int .u64 b, .int .i64 m, .int .i64 n] w fun e w' => e = .returned (.bool true) ∧ Gr w w' := by
  have HT := Lib.hid ht
  have CK := Lib.hid (known_any w ht)
  have CV := Lib.hid (fun W A (h : UsAt W A 2 (x4 a b 0 0)) => values_any A 2 2 (x4 a b 0 0) W h (by omega))
  obtain ⟨um, hum⟩ : ∃ u, m % 4 = u := ⟨_, rfl⟩
  obtain ⟨un, hun⟩ : ∃ u, n % 4 = u := ⟨_, rfl⟩
  have am := and3 m
  have an := and3 n
  rw [hum] at am
  rw [hun] at an
  obtain ⟨u, hu⟩ : ∃ u, um + un = u := ⟨_, rfl⟩
  obtain ⟨v, hv⟩ : ∃ v, -um = v := ⟨_, rfl⟩
  have hw1 : IntKind.i64.wrap (um + un) = u := by rw [IntKind.wrap_i64]; omega
  have hw2 : IntKind.i64.wrap (-um) = v := by rw [IntKind.wrap_i64]; omega
  have hw3 : IntKind.i64.wrap (0 - um) = v := by rw [IntKind.wrap_i64]; omega
  -- what each turn answers
  have q1 : qn u = (qn m + qn n) % 4 := by unfold qn; omega
  have q4 : (qn m + qn v) % 4 = 0 := by unfold qn; omega
  have t1 := turn_turn (qn m) (qn n) a b (qn_lt m) (qn_lt n) ha hb
  have t2 := turn_turn (qn m) (qn v) a b (qn_lt m) (qn_lt _) ha hb
  rw [← q1] at t1
  rw [q4, show (0 : Nat) = qn 0 from rfl] at t2
  have t3 : tR (qn 4) a b = tR (qn 0) a b ∧ tI (qn 4) a b = tI (qn 0) a b := ⟨rfl, rfl⟩
  have C1 := Lib.hid (fun W k (t : Tab W) => turn_any a b k W t)
  obtain ⟨f, hf⟩ : ∃ f : Int → Nat, ∀ k, tR (qn k) a b = f k := ⟨_, fun _ => rfl⟩
  obtain ⟨g, hg⟩ : ∃ f : Int → Nat, ∀ k, tI (qn k) a b = f k := ⟨_, fun _ => rfl⟩
  simp only [hf, hg] at C1 t1 t2 t3
  have C2 := Lib.hid (fun W k (t : Tab W) => turn_any (f m) (g m) k W t)
  obtain ⟨f2, hf2⟩ : ∃ f' : Int → Nat, ∀ k, tR (qn k) (f m) (g m) = f' k := ⟨_, fun _ => rfl⟩
  obtain ⟨g2, hg2⟩ : ∃ f' : Int → Nat, ∀ k, tI (qn k) (f m) (g m) = f' k := ⟨_, fun _ => rfl⟩
  simp only [hf2, hg2] at C2 t1 t2
  have CS1 := Lib.hid (fun W (t : Tab W) => wsame_any (f2 n) (g2 n) (f u) (g u) W t)
  have CS2 := Lib.hid (fun W (t : Tab W) => wsame_any (f 4) (g 4) (f 0) (g 0) W t)
  have CS3 := Lib.hid (fun W (t : Tab W) => wsame_any (f2 v) (g2 v) (f 0) (g 0) W t)
  have r1 : (sameB (f2 n) (f u) && sameB (g2 n) (g u)) = true := by rw [t1.1, t1.2, same_refl, same_refl]; rfl
  have r2 : (sameB (f 4) (f 0) && sameB (g 4) (g 0)) = true := by rw [t3.1, t3.2, same_refl, same_refl]; rfl
  have r3 : (sameB (f2 v) (f 0) && sameB (g2 v) (g 0)) = true := by rw [t2.1, t2.2, same_refl, same_refl]; rfl
  rw [r1] at CS1
  rw [r2] at CS2
  rw [r3] at CS3
  clear ht ha hb q1 q4 t1 t2 t3 hf hg hf2 hg2 r1 r2 r3 hum hun hu hv
  go_enter Tryd.func5, Tryd.ntmps5
  go_wp2_with (first
    | (go_at_call 7; refine CK.out.mono ?_; rintro e w1 ⟨rfl, g1⟩)
    | (go_at_call 8; refine (CV.out _ _ (us2 w1 a b (x4 a b 0 0) rfl rfl)).mono ?_; rintro e w2 ⟨h4, A2, c2, rfl, h1, h2, h3⟩; obtain ⟨B, o, rfl, hc⟩ := h3 (by omega); have d0 := hc 0 (by omega); have d1 := hc 1 (by omega); have G2 := Lib.hid ((g1.alloc #[.int .u64 a, .int .u64 b] 22).trans h4); clear hc h2 h4 g1)
    | fail)
  have HT2 : Hid (∀ n, Tab (w2.drewN n)) := Lib.hid (fun n => (HT.out.gr G2.out).drewN n)
  simp only [x4] at d0 d1
  rw [Nat.add_zero] at d0
  go_quiet (fail)
  go_wp2_with (first
    | (go_at_call_of 12 (Value.complex .f64 a b); refine (C1.out _ _ (HT2.out _)).mono ?_; rintro e w6 ⟨rfl, rfl⟩)
    | (go_at_call_of 12 (Value.complex .f64 (f m) (g m)); refine (C2.out _ _ (HT2.out _)).mono ?_; rintro e w6 ⟨rfl, rfl⟩)
    | (go_at_call_of 19 (Value.complex .f64 (f2 n) (g2 n)); refine (CS1.out _ (HT2.out _)).mono ?_; rintro e w6 ⟨rfl, rfl⟩)
    | (go_at_call_of 19 (Value.complex .f64 (f 4) (g 4)); refine (CS2.out _ (HT2.out _)).mono ?_; rintro e w6 ⟨rfl, rfl⟩)
    | (go_at_call_of 19 (Value.complex .f64 (f2 v) (g2 v)); refine (CS3.out _ (HT2.out _)).mono ?_; rintro e w6 ⟨rfl, rfl⟩)
    | fail)
  go_ret
  exact ⟨rfl, G2.out.drewN _⟩
end Go.Proofs.YtoglkgagdilfjaaDoor
