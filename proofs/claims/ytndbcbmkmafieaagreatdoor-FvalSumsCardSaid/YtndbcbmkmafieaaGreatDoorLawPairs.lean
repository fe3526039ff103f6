/- The walk of FvalPairs. -/
import Derived.Test.YtndbcbmkmafieaaGreatDoorKnownAll
import Derived.Test.YtndbcbmkmafieaaGreatDoorRef
namespace Go.Proofs.YtndbcbmkmafieaaGreatDoor
open Go.RowKit
set_option maxHeartbeats 2000000
set_option maxRecDepth 100000

theorem op_at (op : Int) (a b p : Nat) (ok : Bool) (w : World) (h : opV op a b = p) (ho : opOk op = ok) (ht : Tab w) :
    Calls Tryz.prog 11 #[.int .i64 op, .float .f64 a, .float .f64 b] w fun e w' => e = .returned (.tuple #[.float .f64 p, .bool ok]) ∧ ∃ n, w' = w.drewN n :=
  (op_any op a b w ht).mono fun _ _ ⟨h1, h2⟩ => ⟨by rw [h1, h, ho], h2⟩
theorem rop_at (op : Int) (a b p : Nat) (ok : Bool) (w : World) (h : opV op a b = p) (ho : opOk op = ok) :
    Calls Tryz.prog 12 #[.int .i64 op, .float .f64 a, .float .f64 b] w fun e w' => e = .returned (.tuple #[.float .f64 p, .bool ok]) ∧ ∃ n, w' = w.drewN n :=
  (rop_any op a b w).mono fun _ _ ⟨h1, h2⟩ => ⟨by rw [h1, h, ho], h2⟩
theorem fnn_at (fn : Int) (v arg r : Nat) (ok : Bool) (w : World) (h : fnV fn v arg = r) (ho : fnOk fn = ok) (ht : Tab w) :
    Calls Tryz.prog 13 #[.int .i64 fn, .float .f64 v, .float .f64 arg] w fun e w' => e = .returned (.tuple #[.float .f64 r, .bool ok]) ∧ ∃ n, w' = w.drewN n :=
  (fn_any fn v arg w ht).mono fun _ _ ⟨h1, h2⟩ => ⟨by rw [h1, h, ho], h2⟩
theorem rfn_at (fn : Int) (v arg r : Nat) (ok : Bool) (w : World) (h : fnV fn v arg = r) (ho : fnOk fn = ok) :
    Calls Tryz.prog 14 #[.int .i64 fn, .float .f64 v, .float .f64 arg] w fun e w' => e = .returned (.tuple #[.float .f64 r, .bool ok]) ∧ ∃ n, w' = w.drewN n :=
  (rfn_any fn v arg w).mono fun _ _ ⟨h1, h2⟩ => ⟨by rw [h1, h, ho], h2⟩

theorem lawPairs_core {k : Nat × Nat × Nat} (a b p f : Nat) (ok good : Bool) (op fn : Int) (w : World) (hk : Kn k w) (ha : a < 2 ^ 64) (hb : b < 2 ^ 64)
    (hp : opV op a b = p) (hok : opOk op = ok) (hf : fnV fn a b = f) (hgd : fnOk fn = good) (pp : sameB p p = true) (ff : sameB f f = true)
    (cp : ((p : Int) == (canon p : Int)) = true) (cf : ((f : Int) == (canon f : Int)) = true) :
    Calls Tryz.prog 3 #[.int .u64 a, .int .u64 b, .int .i64 op, .int .i64 fn] w fun e w' => e = .returned (.bool true) ∧ Grown w w' := by
  have Hp := Lib.hid hp; have Hok := Lib.hid hok; have Hf := Lib.hid hf; have Hgd := Lib.hid hgd; have HA := Lib.hid ha; have HB := Lib.hid hb
  clear hp hok hf hgd ha hb
  go_enter Tryz.func3, Tryz.ntmps3
  go_wp2_with (first | (go_at_call 9; go_must (refine (known_any (b := k) _ hk).mono ?_); rintro e w1 ⟨rfl, hg⟩) | (go_at_call 11; refine (op_at op a b p ok _ Hp.out Hok.out ?_).mono ?_; (first | exact (hk.keep (Keep.grown hg)).tab | exact (hk.keep (Keep.grown hg)).tab.drewN _); rintro e w' ⟨rfl, m, rfl⟩) | (go_at_call 12; refine (rop_at op a b p ok _ Hp.out Hok.out).mono ?_; rintro e w' ⟨rfl, m, rfl⟩) | (go_at_call 13; refine (fnn_at fn a b f good _ Hf.out Hgd.out ?_).mono ?_; (first | exact (hk.keep (Keep.grown hg)).tab | exact (hk.keep (Keep.grown hg)).tab.drewN _); rintro e w' ⟨rfl, m, rfl⟩) | (go_at_call 14; refine (rfn_at fn a b f good _ Hf.out Hgd.out).mono ?_; rintro e w' ⟨rfl, m, rfl⟩) | (go_at_call 15; refine (rsame_any _ _ _).mono ?_; rintro e w' ⟨rfl, rfl⟩) | (go_at_call 22; refine (same_any _ _ _ ?_).mono ?_; (first | exact (hk.keep (Keep.grown hg)).tab | exact (hk.keep (Keep.grown hg)).tab.drewN _); rintro e w' ⟨rfl, rfl⟩) | (go_at_call 16; refine (holds_any _ _ _ _).mono ?_; rintro e w' ⟨rfl, rfl⟩) | (go_at_call 17; refine (rholds_any _ _ _ _).mono ?_; rintro e w' ⟨rfl, rfl⟩) | (go_at_call 18; refine (bits_any _ _ ?_).mono ?_; (first | exact (hk.keep (Keep.grown hg)).tab | exact (hk.keep (Keep.grown hg)).tab.drewN _); rintro e w' ⟨rfl, rfl⟩) | (go_at_call 19; refine (rbits_any _ _).mono ?_; rintro e w' ⟨rfl, rfl⟩) | (go_at_call 20; refine (isStale_any _ _ ?_).mono ?_; (first | exact (hk.keep (Keep.grown hg)).tab | exact (hk.keep (Keep.grown hg)).tab.drewN _); rintro e w' ⟨rfl, m, rfl⟩) | (go_at_call 21; refine (rstale_any _ _).mono ?_; rintro e w' ⟨rfl, rfl⟩) | (go_at_call 23; refine (before_any _ _ _ ?_).mono ?_; (first | exact (hk.keep (Keep.grown hg)).tab | exact (hk.keep (Keep.grown hg)).tab.drewN _); rintro e w' ⟨rfl, m, rfl⟩) | (go_at_call 24; refine (rbefore_any _ _ _ HA.out HB.out).mono ?_; rintro e w' ⟨rfl, rfl⟩) | (go_at_call 26; refine (canon_any _ _ ?_).mono ?_; (first | exact (hk.keep (Keep.grown hg)).tab | exact (hk.keep (Keep.grown hg)).tab.drewN _); rintro e w' ⟨rfl, rfl⟩))
  go_ret
  exact ⟨rfl, by first | exact hg | exact grown_drewN hg _⟩

theorem canon_idem (a : Nat) : canon (canon a) = canon a := by
  cases h : nanB a
  · rw [canon_num h, canon_num h]
  · rw [canon_nan h, canon_nan kNaN_nan]
theorem canonO_idem (o : Option Nat) : canon (canonO o) = canonO o := by
  cases o with
  | none => exact canon_nan kNaN_nan
  | some r => exact canon_idem r
theorem canon_0 : canon 0 = 0 := by decide +kernel
theorem canon_1 : canon one = one := by decide +kernel
theorem opV_canon (op : Int) (a b : Nat) : canon (opV op a b) = opV op a b := by
  unfold opV
  (repeat' split) <;> first | exact canonO_idem _ | exact canon_0 | exact canon_1
theorem fnV_canon (fn : Int) (a b : Nat) : canon (fnV fn a b) = fnV fn a b := by
  unfold fnV
  split
  · exact canon_idem _
  · split
    · exact canon_idem _
    · split
      · exact canon_idem _
      · split
        · exact canon_idem _
        · split
          · exact canon_idem _
          · exact canon_0
theorem lawPairs_any {k : Nat × Nat × Nat} (a b : Nat) (op fn : Int) (w : World) (hk : Kn k w) (ha : a < 2 ^ 64) (hb : b < 2 ^ 64) :
    Calls Tryz.prog 3 #[.int .u64 a, .int .u64 b, .int .i64 op, .int .i64 fn] w fun e w' => e = .returned (.bool true) ∧ Grown w w' :=
  lawPairs_core a b (opV op a b) (fnV fn a b) (opOk op) (fnOk fn) op fn w hk ha hb rfl rfl rfl rfl (by rw [canon_inj]; simp) (by rw [canon_inj]; simp) (by rw [opV_canon]; simp) (by rw [fnV_canon]; simp)
end Go.Proofs.YtndbcbmkmafieaaGreatDoor
