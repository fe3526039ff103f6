/- The walk of FvalSigns, for all inputs. -/
import Derived.Test.YtndbcbmkmafieaaGreatDoorLawSigns
namespace Go.Proofs.YtndbcbmkmafieaaGreatDoor
open Go.RowKit
set_option maxHeartbeats 1000000
set_option maxRecDepth 100000

theorem lawSigns_nan {k : Nat × Nat × Nat} (v a b : Nat) (w : World) (hk : Kn k w)
    (hp : fnV 1 v 0 = 9221120237041090561) (hn : fnV 2 v 0 = 9221120237041090561) (hm : fnV 2 9221120237041090561 0 = 9221120237041090561) (hq : fnV 1 9221120237041090561 0 = 9221120237041090561) (hs : fnV 3 v 0 = 9221120237041090561)
    (hv : nanB v = true) (mv : sameB 9221120237041090561 v = true) (pp : sameB 9221120237041090561 9221120237041090561 = true) (vv : eqB v v = false) :
    Calls Tryz.prog 7 #[.int .u64 v, .int .u64 a, .int .u64 b] w fun e w' => e = .returned (.bool true) ∧ Grown w w' := by
  have Hp := Lib.hid hp; have Hn := Lib.hid hn; have Hm := Lib.hid hm; have Hq := Lib.hid hq; have Hs := Lib.hid hs
  clear hp hn hm hq hs
  have v1 := nan_walk hv
  have v2 := eq_walk vv
  clear hv vv
  go_enter Tryz.func7, Tryz.ntmps7
  go_wp2_with (first | (go_at_call 9; go_must (refine (known_any (b := k) _ hk).mono ?_); rintro e w1 ⟨rfl, hg⟩) | (go_at_call_of 13 (Value.int .i64 1); go_at_call_of 13 (Value.float .f64 v); refine (fn_at 1 v 0 9221120237041090561 _ Hp.out rfl ?_).mono ?_; (first | exact (hk.keep (Keep.grown hg)).tab | exact (hk.keep (Keep.grown hg)).tab.drewN _); rintro e w' ⟨rfl, m, rfl⟩) | (go_at_call_of 13 (Value.int .i64 2); go_at_call_of 13 (Value.float .f64 v); refine (fn_at 2 v 0 9221120237041090561 _ Hn.out rfl ?_).mono ?_; (first | exact (hk.keep (Keep.grown hg)).tab | exact (hk.keep (Keep.grown hg)).tab.drewN _); rintro e w' ⟨rfl, m, rfl⟩) | (go_at_call_of 13 (Value.int .i64 2); go_at_call_of 13 (Value.float .f64 9221120237041090561); refine (fn_at 2 9221120237041090561 0 9221120237041090561 _ Hm.out rfl ?_).mono ?_; (first | exact (hk.keep (Keep.grown hg)).tab | exact (hk.keep (Keep.grown hg)).tab.drewN _); rintro e w' ⟨rfl, m, rfl⟩) | (go_at_call_of 13 (Value.int .i64 1); go_at_call_of 13 (Value.float .f64 9221120237041090561); refine (fn_at 1 9221120237041090561 0 9221120237041090561 _ Hq.out rfl ?_).mono ?_; (first | exact (hk.keep (Keep.grown hg)).tab | exact (hk.keep (Keep.grown hg)).tab.drewN _); rintro e w' ⟨rfl, m, rfl⟩) | (go_at_call_of 13 (Value.int .i64 3); go_at_call_of 13 (Value.float .f64 v); refine (fn_at 3 v 0 9221120237041090561 _ Hs.out rfl ?_).mono ?_; (first | exact (hk.keep (Keep.grown hg)).tab | exact (hk.keep (Keep.grown hg)).tab.drewN _); rintro e w' ⟨rfl, m, rfl⟩) | (go_at_call 22; refine (same_any _ _ _ ?_).mono ?_; (first | exact (hk.keep (Keep.grown hg)).tab | exact (hk.keep (Keep.grown hg)).tab.drewN _); rintro e w' ⟨rfl, rfl⟩))
  go_at_call 31
  refine (textOfNan_at _).mono ?_
  rintro e w2 ⟨rfl, hg2⟩
  have hgg := grown_trans (grown_drewN hg _) hg2
  clear hg2
  go_wp2_with fail
  go_ret
  exact ⟨rfl, hgg⟩

theorem nan0 : nanB 0 = false := by decide +kernel
theorem nan1 : nanB one = false := by decide +kernel
theorem nanm1 : nanB mone = false := by decide +kernel
theorem key0 : Flo.key 0 = 0 := by decide +kernel
theorem key1 : Flo.key one = 4607182418800017408 := by decide +kernel
theorem keym1 : Flo.key mone = -4607182418800017408 := by decide +kernel
theorem sameB_self (a : Nat) : sameB a a = true := by rw [canon_inj]; simp
theorem eqB_self {a : Nat} (h : nanB a = false) : eqB a a = true := by rw [eqB_key, h]; simp

theorem lawSigns_any {k : Nat × Nat × Nat} (v a b : Nat) (w : World) (hk : Kn k w) (hvl : v < 2 ^ 64) (_ : a < 2 ^ 64) (_ : b < 2 ^ 64) :
    Calls Tryz.prog 7 #[.int .u64 v, .int .u64 a, .int .u64 b] w fun e w' => e = .returned (.bool true) ∧ Grown w w' := by
  cases hv : nanB v
  · have na : nanB (absN v) = false := by rw [nan_abs v hvl]; exact hv
    have nn : nanB (negN v) = false := by rw [nan_neg v hvl]; exact hv
    have ks := key_sgn v
    refine lawSigns_core v a b (absN v) (negN v) (fnV 3 v 0) (fnV 4 v a) (fnV 5 (fnV 4 v a) b) w hk ?_ ?_ ?_ ?_ rfl hv (sameB_self v) (sameB_self _) (eqB_self hv) ?_ ?_ ?_ rfl rfl ?_
    · simp [fnV, canon_num na]
    · simp [fnV, canon_num nn]
    · simp [fnV, neg_neg v hvl, canon_num hv]
    · simp [fnV, abs_neg v hvl, canon_num na]
    · rw [ltB_key, na, hv, key_abs v hvl]
      have : ¬ ((Flo.rung v : Int) < Flo.key v) := by
        cases e : Flo.sgn v
        · rw [ks.2 e]; omega
        · rw [ks.1 e]; omega
      simp [this]
    · rw [ltB_key, na, nn, key_abs v hvl, key_neg v hvl]
      have : ¬ ((Flo.rung v : Int) < -Flo.key v) := by
        cases e : Flo.sgn v
        · rw [ks.2 e]; omega
        · rw [ks.1 e]; omega
      simp [this]
    · have hs : fnV 3 v 0 = canon (if gtB v 0 = true then one else if ltB v 0 = true then mone else v) := by simp [fnV]
      rw [hs]
      rcases tri hv nan0 with ⟨e1, e2, e3⟩ | ⟨e1, e2, e3⟩ | ⟨e1, e2, e3⟩
      · right; right
        rw [e3, e2]
        simp only [Bool.false_eq_true, if_false]
        rw [canon_num hv]
        have hkv : Flo.key v = 0 := by
          rw [eqB_key, hv, nan0, key0] at e1; simpa using e1
        refine ⟨?_, ?_, e1⟩
        · rw [eqB_key, hv, nan1, hkv, key1]; rfl
        · rw [eqB_key, hv, nanm1, hkv, keym1]; rfl
      · right; left
        rw [e3, e2]
        simp only [Bool.false_eq_true, if_false, if_true]
        rw [canon_num nanm1]
        exact ⟨by decide +kernel, by decide +kernel⟩
      · left
        rw [e3]
        simp only [if_true]
        rw [canon_num nan1]
        decide +kernel
    · cases ha : nanB a
      · right
        cases hb : nanB b
        · right
          cases hg : gtB a b
          · right
            refine ⟨rfl, rfl, rfl, ?_⟩
            have hc : fnV 4 v a = canon (if (ltB v a || nanB a) = true then a else v) := by simp [fnV]
            have hd : ∀ c, fnV 5 c b = canon (if (gtB c b || nanB b) = true then b else c) := by intro c; simp [fnV]
            rw [ha] at hc
            cases hl : ltB v a
            · rw [hl] at hc
              simp only [Bool.or_self, Bool.false_eq_true, if_false] at hc
              rw [canon_num hv] at hc
              rw [hc, hd v, hb]
              have hva : (gtB v a || eqB v a) = true := by
                rcases tri hv ha with ⟨e1, e2, e3⟩ | ⟨e1, e2, e3⟩ | ⟨e1, e2, e3⟩
                · rw [e1]; simp
                · rw [hl] at e2; cases e2
                · rw [e3]; simp
              cases hgv : gtB v b
              · simp only [Bool.or_self, Bool.false_eq_true, if_false]
                rw [canon_num hv]
                refine ⟨hva, ?_, .inr (.inr ⟨(by first | rfl | trivial), (by first | rfl | trivial), sameB_self v⟩)⟩
                rcases tri hv hb with ⟨e1, e2, e3⟩ | ⟨e1, e2, e3⟩ | ⟨e1, e2, e3⟩
                · rw [e1]; simp
                · rw [e2]; simp
                · rw [hgv] at e3; cases e3
              · simp only [Bool.or_false, if_true]
                rw [canon_num hb]
                refine ⟨?_, ?_, .inr (.inl ⟨(by first | rfl | trivial), (by first | rfl | trivial)⟩)⟩
                · rw [gtB_key, eqB_key, hb, ha]
                  rw [gtB_key, ha, hb] at hg
                  have : ¬ (Flo.key b < Flo.key a) := by simpa using hg
                  simp only [Bool.not_false, Bool.true_and, Bool.or_eq_true, decide_eq_true_eq]
                  omega
                · rw [eqB_self hb]; simp
            · rw [hl] at hc
              simp only [Bool.or_false, if_true] at hc
              rw [canon_num ha] at hc
              rw [hc, hd a, hb, hg]
              simp only [Bool.or_self, Bool.false_eq_true, if_false]
              rw [canon_num ha]
              refine ⟨?_, ?_, .inl (by first | rfl | trivial)⟩
              · rw [eqB_self ha]; simp
              · rcases tri ha hb with ⟨e1, e2, e3⟩ | ⟨e1, e2, e3⟩ | ⟨e1, e2, e3⟩
                · rw [e1]; simp
                · rw [e2]; simp
                · rw [hg] at e3; cases e3
          · exact .inl ⟨rfl, rfl, rfl⟩
        · exact .inl ⟨rfl, rfl⟩
      · exact .inl rfl
  · have na : nanB (absN v) = true := by rw [nan_abs v hvl]; exact hv
    have nn : nanB (negN v) = true := by rw [nan_neg v hvl]; exact hv
    have kn : kNaN.toNat = 9221120237041090561 := by rfl
    obtain ⟨_, e2, e3⟩ := nan_cmp (b := 0) (.inl hv : nanB v = true ∨ nanB 0 = true)
    refine lawSigns_nan v a b w hk ?_ ?_ (by decide +kernel) (by decide +kernel) ?_ hv ?_ (sameB_self _) (nan_cmp (.inl hv)).1
    · simp only [fnV, if_true]
      rw [canon_nan na, kn]
    · have : fnV 2 v 0 = canon (negN v) := by simp [fnV]
      rw [this, canon_nan nn, kn]
    · have : fnV 3 v 0 = canon (if gtB v 0 = true then one else if ltB v 0 = true then mone else v) := by simp [fnV]
      rw [this, e3, e2]
      simp only [Bool.false_eq_true, if_false]
      rw [canon_nan hv, kn]
    · rw [canon_inj, canon_nan hv]
      decide +kernel
end Go.Proofs.YtndbcbmkmafieaaGreatDoor
