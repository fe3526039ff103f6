/- Fn, Name, Named. -/
import Derived.Test.YtjjfkjpkbpefpaaDoorVOw1
import Derived.Test.YtjjfkjpkbpefpaaDoorVOw2
import Derived.Test.YtjjfkjpkbpefpaaDoorVOw3
import Derived.Test.YtjjfkjpkbpefpaaDoorVOw4
import Derived.Test.YtjjfkjpkbpefpaaDoorVOw5
import Derived.Test.YtjjfkjpkbpefpaaDoorVOw6
import Derived.Test.YtjjfkjpkbpefpaaDoorVOw7
import Derived.Test.YtjjfkjpkbpefpaaDoorVOw8
import Derived.Test.YtjjfkjpkbpefpaaDoorVOw9
import Derived.Test.YtjjfkjpkbpefpaaDoorVOw10
import Derived.Test.YtjjfkjpkbpefpaaDoorVOw11
import Derived.Test.YtjjfkjpkbpefpaaDoorVOw12
import Derived.Test.YtjjfkjpkbpefpaaDoorVOw13
import Derived.Test.YtjjfkjpkbpefpaaDoorVOw14
namespace Go.Proofs.YtjjfkjpkbpefpaaDoor.Vn
open Go.RowKit
set_option maxRecDepth 100000
set_option maxHeartbeats 4000000

theorem outcome_any (fn : Nat) (h1 : 1 ≤ fn) (h2 : fn ≤ 14) (A : Option Addr) (cap : Nat) (v : List Nat) (len : Nat) (w : World) (ht : Tab w) (hf : FTab w) (h : FlL w A v) (hc : v.length ≤ cap) (hn : v.length ≤ 1000000) (hb : ∀ y ∈ v, y < 2 ^ 64) :
    Calls Tryd.prog 27 #[.int .i64 fn, .slice A v.length cap, .float .f64 len] w fun e w' => e = .returned (optV (outP fn v len)) ∧ Gr w w' := by
  by_cases hs : v.length < leastN fn
  · have e : outP fn v len = none := by unfold outP; rw [if_pos hs]
    rw [e]
    exact (outcome_short fn h1 h2 A cap v.length len w hf hs).mono fun e w' ⟨he, hw⟩ => ⟨he, hw ▸ Gr.refl _⟩
  · have e : outP fn v len = some (valF fn v len) := by unfold outP; rw [if_neg hs]
    rw [e]
    cases v with
    | nil =>
      exfalso
      unfold leastN at hs
      split at hs <;> simp at hs
    | cons x r =>
      have H : OutH fn A cap x r w := ⟨ht, hf.l fn h1 (by omega), h, by simpa using hc, by simp at hn; omega, hb, by simp at hs; omega⟩
      have key : OutC fn A cap x r len w := by
        rcases (by omega : fn = 1 ∨ fn = 2 ∨ fn = 3 ∨ fn = 4 ∨ fn = 5 ∨ fn = 6 ∨ fn = 7 ∨ fn = 8 ∨ fn = 9 ∨ fn = 10 ∨ fn = 11 ∨ fn = 12 ∨ fn = 13 ∨ fn = 14) with rfl | rfl | rfl | rfl | rfl | rfl | rfl | rfl | rfl | rfl | rfl | rfl | rfl | rfl
        · exact outW1 A cap x r len w H
        · exact outW2 A cap x r len w H
        · exact outW3 A cap x r len w H
        · exact outW4 A cap x r len w H
        · exact outW5 A cap x r len w H
        · exact outW6 A cap x r len w H
        · exact outW7 A cap x r len w H
        · exact outW8 A cap x r len w H
        · exact outW9 A cap x r len w H
        · exact outW10 A cap x r len w H
        · exact outW11 A cap x r len w H
        · exact outW12 A cap x r len w H
        · exact outW13 A cap x r len w H
        · exact outW14 A cap x r len w H
      exact key
theorem isFn_nat {fn : Int} (h : isFn fn = true) : ∃ k : Nat, fn = k ∧ 1 ≤ k ∧ k ≤ 14 := by
  simp only [isFn, Bool.and_eq_true, decide_eq_true_eq] at h
  exact ⟨fn.toNat, by omega, by omega, by omega⟩
def FnPost (fn : Int) (l : List Sm) (f t : Int) (w : World) (e : Ending) (w' : World) : Prop := e = .returned (optV (fnP fn l f t)) ∧ Gr w w'
theorem vals_bd {l : List Sm} {f t : Int} (h : ∀ q ∈ l, q.2 < 2 ^ 64) : ∀ y ∈ vals (strL l f t), y < 2 ^ 64 := by
  intro y hy
  unfold vals at hy
  obtain ⟨q, hq, rfl⟩ := List.mem_map.1 hy
  exact h q (List.mem_filter.1 hq).1
/-- what all on samples ask -/
structure SmpH (w : World) (A : Option Addr) (c : Nat) (l : List Sm) : Prop where
  ht : Tab w
  hf : FTab w
  at_ : At2 encP w A l
  hc : l.length ≤ c
  hn : l.length ≤ 1000000
  asc : AscT l
  bd : ∀ q ∈ l, q.2 < 2 ^ 64
theorem SmpH.gr {w w' : World} {A : Option Addr} {c : Nat} {l : List Sm} (h : SmpH w A c l) (g : Gr w w') : SmpH w' A c l := ⟨h.ht.gv g, h.hf.gr g, h.at_.gr g, h.hc, h.hn, h.asc, h.bd⟩
theorem u64_sub (f t : Int) (h : f < t) (h1 : -9223372036854775808 ≤ f) (h2 : t ≤ 9223372036854775807) : IntKind.u64.wrap (IntKind.u64.wrap t - IntKind.u64.wrap f) = t - f := by
  rw [IntKind.wrap_u64, IntKind.wrap_u64, IntKind.wrap_u64]; omega
theorem Fn_no (fn : Int) (A : Option Addr) (c n : Nat) (f t : Int) (w : World) (h : isFn fn = false ∨ t ≤ f) :
    Calls Tryd.prog 12 #[.int .i64 fn, .slice A n c, .int .i64 f, .int .i64 t] w fun e w' => e = .returned (.tuple #[.float .f64 0, .bool false]) ∧ w = w' := by
  have CI := Lib.hid (isFn_any fn w)
  cases hi : isFn fn
  · rw [hi] at CI
    clear h hi
    go_enter Tryd.func12, Tryd.ntmps12
    go_wp2_with (first | (go_at_call 26; refine CI.out.mono ?_; rintro e w' ⟨rfl, rfl⟩) | fail)
    go_ret2
    exact ⟨rfl, rfl⟩
  · rw [hi] at CI h
    have q1 : t ≤ f := by rcases h with h | h; cases h; exact h
    have q2 : decide (f ≥ t) = true := decide_eq_true q1
    clear h hi
    go_enter Tryd.func12, Tryd.ntmps12
    go_wp2_with (first | (go_at_call 26; refine CI.out.mono ?_; rintro e w' ⟨rfl, rfl⟩) | fail)
    go_ret2
    exact ⟨rfl, rfl⟩
theorem Fn_any (fn : Int) (A : Option Addr) (c : Nat) (l : List Sm) (f t : Int) (w : World) (h : SmpH w A c l) (h1 : -9223372036854775808 ≤ f) (h2 : t ≤ 9223372036854775807) :
    Calls Tryd.prog 12 #[.int .i64 fn, .slice A l.length c, .int .i64 f, .int .i64 t] w (FnPost fn l f t w) := by
  by_cases hno : isFn fn = false ∨ t ≤ f
  · have e : fnP fn l f t = none := by
      unfold fnP
      rcases hno with g | g
      · rw [g]; rfl
      · rw [decide_eq_false (by omega : ¬ f < t), Bool.and_false]; rfl
    refine (Fn_no fn A c l.length f t w hno).mono ?_
    rintro e1 w' ⟨he, rfl⟩
    exact ⟨by rw [e]; exact he, Gr.refl _⟩
  · have hi : isFn fn = true := by cases h : isFn fn; exact absurd (.inl h) hno; rfl
    have hft : f < t := by rcases Int.lt_or_le f t with g | g; exact g; exact absurd (.inr g) hno
    have e : fnP fn l f t = outP fn.toNat (vals (strL l f t)) (Flo.ofI (t - f)) := by unfold fnP; rw [hi, decide_eq_true hft]; rfl
    have CI := Lib.hid (isFn_any fn w)
    rw [hi] at CI
    obtain ⟨k, rfl, k1, k2⟩ := isFn_nat hi
    have CC := Lib.hid (cut_any A c l f t w h.at_ h.asc (by have := h.hn; omega) h.hc)
    unfold CutPost at CC
    rw [asc_cut h.asc] at CC
    have hln := strL_len l f t
    have hvn := vals_len (strL l f t)
    have CV := Lib.hid (fun A' c' W (g : Gr w W) (ha : At2 encP W A' (strL l f t)) => values_any A' c' (strL l f t) W ha (by have := h.hn; omega))
    have CO := Lib.hid (fun A' c' W (g : Gr w W) (ha : FlL W A' (vals (strL l f t))) (hc : (vals (strL l f t)).length ≤ c') => outcome_any k k1 k2 A' c' (vals (strL l f t)) (Flo.ofI (t - f)) W (h.ht.gv g) (h.hf.gr g) ha hc (by have := h.hn; omega) (vals_bd h.bd))
    have HW := Lib.hid (u64_sub f t hft h1 h2)
    have HE : Hid (∀ W, Gr w W → FnPost k l f t w (.returned (optV (outP k (vals (strL l f t)) (Flo.ofI (t - f))))) W) := Lib.hid fun W g => ⟨by rw [e]; rfl, g⟩
    obtain ⟨L, hL⟩ : ∃ L, strL l f t = L := ⟨_, rfl⟩
    rw [hL] at CC CV CO HE
    obtain ⟨O, hO⟩ : ∃ O, outP k (vals L) (Flo.ofI (t - f)) = O := ⟨_, rfl⟩
    rw [hO] at CO HE
    have CO2 : Hid (∀ A' c' W, Gr w W → FlL W A' (vals L) → (vals L).length ≤ c' → Calls Tryd.prog 27 #[.int .i64 k, .slice A' (vals L).length c', .float .f64 (floatOfInt .f64 (IntKind.u64.wrap (IntKind.u64.wrap t - IntKind.u64.wrap f)))] W fun e w' => e = .returned (optV O) ∧ Gr W w') := Lib.hid fun A' c' W g ha hc => by
      rw [HW.out]
      exact CO.out A' c' W g ha hc
    have q2 : decide (f ≥ t) = false := decide_eq_false (by omega)
    obtain ⟨o1, ho1⟩ : ∃ o1, O.getD 0 = o1 := ⟨_, rfl⟩
    obtain ⟨o2, ho2⟩ : ∃ o2, O.isSome = o2 := ⟨_, rfl⟩
    unfold optV at CO2 HE
    rw [ho1, ho2] at CO2 HE
    clear e hi hno h hL hO hvn hln CO HW ho1 ho2
    go_enter Tryd.func12, Tryd.ntmps12
    go_wp2_with (first | (go_at_call 26; refine CI.out.mono ?_; rintro e w' ⟨rfl, rfl⟩) | fail)
    refine CC.out.mono ?_
    rintro e w2 ⟨g2, A2, c2, rfl, hat2, -⟩
    have HG2 := Lib.hid g2
    have CV2 := Lib.hid (CV.out A2 c2 w2 g2 hat2)
    clear hat2 g2
    go_wp2_with fail
    refine CV2.out.mono ?_
    rintro e w3 ⟨g3, A3, c3, rfl, hat3, hc3, -⟩
    have HG3 := Lib.hid (HG2.out.trans g3)
    have CO3 := Lib.hid (CO2.out A3 c3 w3 HG3.out hat3 hc3)
    clear hat3 g3 hc3
    go_wp2_with fail
    refine CO3.out.mono ?_
    rintro e w4 ⟨rfl, g4⟩
    have HG4 := Lib.hid (HG3.out.trans g4)
    clear g4
    go_wp2_with fail
    go_ret2
    exact HE.out _ HG4.out
end Go.Proofs.YtjjfkjpkbpefpaaDoor.Vn
