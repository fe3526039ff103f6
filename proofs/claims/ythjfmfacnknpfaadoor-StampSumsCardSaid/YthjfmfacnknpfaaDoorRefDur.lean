/- The reference's Duration: its unit, its sizes, and the mathematics of its round. -/
import Derived.Test.YthjfmfacnknpfaaDoorDurOne
import Derived.Test.YthjfmfacnknpfaaDoorGrid
namespace Go.Proofs.YthjfmfacnknpfaaDoor
open Go.RowKit
set_option maxRecDepth 100000

theorem size_any (j : Nat) (hj : j < 5) (w : World) :
    Calls Tryd.prog 37 #[.int .i64 j] w fun e w' => e = .returned (.int .i64 (unitSize j : Nat)) ∧ Gr w w' := by
  rcases (by omega : j = 0 ∨ j = 1 ∨ j = 2 ∨ j = 3 ∨ j = 4) with rfl | rfl | rfl | rfl | rfl
  all_goals
    clear hj
    go_enter Tryd.func37, Tryd.ntmps37
    go_wp2
    go_ret
    exact ⟨by simp [unitSize], (Gr.refl _).alloc _ _⟩

def unitL : List UInt8 → Int × Nat
  | [] => (-1, 0)
  | c :: t => if c = 109 ∧ t.head? = some 115 then (4, 2) else if c = 100 then (0, 1) else if c = 104 then (1, 1) else if c = 109 then (2, 1) else if c = 115 then (3, 1) else (-1, 0)

theorem u8_t {c : UInt8} {k : UInt8} {z : Int} (hz : z = k.toNat) (h : c = k) : (((c.toNat : Nat) : Int) == z) = true := by subst hz h; simp
theorem u8_f {c : UInt8} {k : UInt8} {z : Int} (hz : z = k.toNat) (h : c ≠ k) : (((c.toNat : Nat) : Int) == z) = false := by
  rw [beq_eq_false_iff_ne]
  intro e
  apply h
  apply UInt8.toNat_inj.1
  omega

/-- the walk of unit, each test told -/
theorem unit_one (s : ByteArray) (i : Nat) (w : World) (h0 : i < s.size) (hs : s.size ≤ 64) (u : Int) (k : Nat) (hl : ¬ i + 1 < s.size)
    (ht : (s[i] = 100 ∧ u = 0 ∧ k = 1) ∨ (s[i] = 104 ∧ u = 1 ∧ k = 1) ∨ (s[i] = 109 ∧ u = 2 ∧ k = 1) ∨ (s[i] = 115 ∧ u = 3 ∧ k = 1) ∨ (s[i] ≠ 100 ∧ s[i] ≠ 104 ∧ s[i] ≠ 109 ∧ s[i] ≠ 115 ∧ u = -1 ∧ k = 0)) :
    Calls Tryd.prog 36 #[.string s, .int .i64 i] w fun e w' => e = .returned (.tuple #[.int .i64 u, .int .i64 (k : Nat)]) ∧ w = w' := by
  have h1 : (i : Int) < s.size := by omega
  have h2 : ¬ (i : Int) + 1 < s.size := by omega
  have h3 : decide ((i : Int) + 1 < s.size) = false := by simpa using h2
  rcases ht with ⟨hc, rfl, rfl⟩ | ⟨hc, rfl, rfl⟩ | ⟨hc, rfl, rfl⟩ | ⟨hc, rfl, rfl⟩ | ⟨n1, n2, n3, n4, rfl, rfl⟩
  case inr.inr.inr.inr =>
    have f1 := u8_f (z := 100) rfl n1
    have f2 := u8_f (z := 104) rfl n2
    have f3 := u8_f (z := 109) rfl n3
    have f4 := u8_f (z := 115) rfl n4
    clear n1 n2 n3 n4
    go_enter Tryd.func36, Tryd.ntmps36
    go_wp2
    go_ret2
    exact ⟨rfl, rfl⟩
  all_goals
    first | have f1 := u8_t (z := 100) rfl hc | have f1 := u8_f (c := s[i]) (k := 100) (z := 100) rfl (by rw [hc]; decide)
    first | have f2 := u8_t (z := 104) rfl hc | have f2 := u8_f (c := s[i]) (k := 104) (z := 104) rfl (by rw [hc]; decide)
    first | have f3 := u8_t (z := 109) rfl hc | have f3 := u8_f (c := s[i]) (k := 109) (z := 109) rfl (by rw [hc]; decide)
    first | have f4 := u8_t (z := 115) rfl hc | have f4 := u8_f (c := s[i]) (k := 115) (z := 115) rfl (by rw [hc]; decide)
    clear hc
    go_enter Tryd.func36, Tryd.ntmps36
    go_wp2
    go_ret2
    exact ⟨rfl, rfl⟩
theorem unit_two (s : ByteArray) (i : Nat) (w : World) (h0 : i < s.size) (hs : s.size ≤ 64) (u : Int) (k : Nat) (hl : i + 1 < s.size)
    (ht : (s[i] = 100 ∧ u = 0 ∧ k = 1) ∨ (s[i] = 104 ∧ u = 1 ∧ k = 1) ∨ (s[i] = 109 ∧ s[i + 1] ≠ 115 ∧ u = 2 ∧ k = 1) ∨ (s[i] = 109 ∧ s[i + 1] = 115 ∧ u = 4 ∧ k = 2) ∨ (s[i] = 115 ∧ u = 3 ∧ k = 1) ∨ (s[i] ≠ 100 ∧ s[i] ≠ 104 ∧ s[i] ≠ 109 ∧ s[i] ≠ 115 ∧ u = -1 ∧ k = 0)) :
    Calls Tryd.prog 36 #[.string s, .int .i64 i] w fun e w' => e = .returned (.tuple #[.int .i64 u, .int .i64 (k : Nat)]) ∧ w = w' := by
  have h1 : (i : Int) < s.size := by omega
  have h2 : (i : Int) + 1 < s.size := by omega
  have h3 : decide ((i : Int) + 1 < s.size) = true := by simpa using h2
  rcases ht with ⟨hc, rfl, rfl⟩ | ⟨hc, rfl, rfl⟩ | ⟨hc, hn, rfl, rfl⟩ | ⟨hc, hn, rfl, rfl⟩ | ⟨hc, rfl, rfl⟩ | ⟨n1, n2, n3, n4, rfl, rfl⟩
  case inr.inr.inr.inr.inr =>
    have f1 := u8_f (z := 100) rfl n1
    have f2 := u8_f (z := 104) rfl n2
    have f3 := u8_f (z := 109) rfl n3
    have f4 := u8_f (z := 115) rfl n4
    clear n1 n2 n3 n4
    go_enter Tryd.func36, Tryd.ntmps36
    go_wp2
    go_ret2
    exact ⟨rfl, rfl⟩
  all_goals
    first | have f0 := u8_t (z := 115) rfl hn | have f0 := u8_f (z := 115) rfl hn | skip
    first | have f1 := u8_t (z := 100) rfl hc | have f1 := u8_f (c := s[i]) (k := 100) (z := 100) rfl (by rw [hc]; decide)
    first | have f2 := u8_t (z := 104) rfl hc | have f2 := u8_f (c := s[i]) (k := 104) (z := 104) rfl (by rw [hc]; decide)
    first | have f3 := u8_t (z := 109) rfl hc | have f3 := u8_f (c := s[i]) (k := 109) (z := 109) rfl (by rw [hc]; decide)
    first | have f4 := u8_t (z := 115) rfl hc | have f4 := u8_f (c := s[i]) (k := 115) (z := 115) rfl (by rw [hc]; decide)
    clear hc
    try clear hn
    go_enter Tryd.func36, Tryd.ntmps36
    go_wp2
    go_ret2
    exact ⟨rfl, rfl⟩
theorem unit_any (s : ByteArray) (i : Nat) (w : World) (hi : i ≤ s.size) (hs : s.size ≤ 64) :
    Calls Tryd.prog 36 #[.string s, .int .i64 i] w fun e w' => e = .returned (.tuple #[.int .i64 (unitL (s.data.toList.drop i)).1, .int .i64 ((unitL (s.data.toList.drop i)).2 : Nat)]) ∧ w = w' := by
  by_cases h0 : i < s.size
  · rw [drop_some h0]
    by_cases hl : i + 1 < s.size
    · refine unit_two s i w h0 hs _ _ hl ?_
      rw [drop_some hl]
      unfold unitL
      simp only [List.head?_cons, Option.some.injEq]
      by_cases c1 : s[i] = 109
      · by_cases c2 : s[i + 1] = 115
        · simp [c1, c2]
        · simp [c1, c2]
      · by_cases c2 : s[i] = 100
        · simp [c2]
        · by_cases c3 : s[i] = 104
          · simp [c3]
          · by_cases c4 : s[i] = 115
            · simp [c4]
            · simp [c1, c2, c3, c4]
    · refine unit_one s i w h0 hs _ _ hl ?_
      rw [drop_nil (s := s) (i := i + 1) (by omega)]
      unfold unitL
      simp only [List.head?_nil]
      by_cases c1 : s[i] = 109
      · simp [c1]
      · by_cases c2 : s[i] = 100
        · simp [c2]
        · by_cases c3 : s[i] = 104
          · simp [c3]
          · by_cases c4 : s[i] = 115
            · simp [c4]
            · simp [c1, c2, c3, c4]
  · have hv : unitL (s.data.toList.drop i) = (-1, 0) := by rw [drop_nil (s := s) (i := i) (by omega)]; rfl
    have h1 : ¬ (i : Int) < s.size := by omega
    have h2 : ¬ (i : Int) + 1 < s.size := by omega
    have Hv := Lib.hid hv; clear hv
    go_enter Tryd.func36, Tryd.ntmps36
    go_wp2
    go_ret2
    exact ⟨by rw [Hv.out]; rfl, rfl⟩
end Go.Proofs.YthjfmfacnknpfaaDoor
