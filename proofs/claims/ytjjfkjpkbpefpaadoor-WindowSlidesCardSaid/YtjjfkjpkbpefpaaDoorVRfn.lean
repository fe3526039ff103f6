/- The reference's Fn. -/
import Derived.Test.YtjjfkjpkbpefpaaDoorVRw
import Derived.Test.YtjjfkjpkbpefpaaDoorVFn
namespace Go.Proofs.YtjjfkjpkbpefpaaDoor.Vn
open Go.RowKit
set_option maxRecDepth 100000
set_option maxHeartbeats 4000000

theorem rFn_short (fn : Nat) (h1 : 1 ≤ fn) (h2 : fn ≤ 14) (A : Option Addr) (c : Nat) (l : List Sm) (f t : Int) (w : World) (h : At2 encP w A l) (hl : l.length ≤ 1000000) (hft : f < t) (hs : (strL l f t).length < leastN fn) :
    Calls Tryd.prog 13 #[.int .i64 fn, .slice A l.length c, .int .i64 f, .int .i64 t] w fun e w' => e = .returned (.tuple #[.float .f64 0, .bool false]) ∧ Gr w w' := by
  have CC := Lib.hid (rcut_any A c l f t w h hl)
  unfold RCutPost at CC
  have hLl := strL_len l f t
  have HLL : Hid ((strL l f t).length ≤ 1000000) := Lib.hid (by omega)
  have q2 : decide (f ≥ t) = false := decide_eq_false (by omega)
  have q3 : decide ((fn : Int) < 1) = false := decide_eq_false (by omega)
  have q4 : decide ((fn : Int) > 14) = false := decide_eq_false (by omega)
  obtain ⟨L, hL⟩ : ∃ L, strL l f t = L := ⟨_, rfl⟩
  rw [hL] at CC HLL hs
  have HK : Hid (L.length = 0 ∨ (L.length = 1 ∧ (fn = 8 ∨ fn = 9 ∨ fn = 10))) := Lib.hid (by
    unfold leastN at hs
    split at hs
    · rename_i h3
      rcases (by omega : L.length = 0 ∨ L.length = 1) with h4 | h4
      · exact .inl h4
      · exact .inr ⟨h4, h3⟩
    · exact .inl (by omega))
  clear hL h hLl hs
  go_enter Tryd.func13, Tryd.ntmps13
  go_wp2_with fail
  refine CC.out.mono ?_
  rintro e w2 ⟨g2, A2, c2, rfl, hat2, hc2⟩
  have HAT := Lib.hid hat2
  have HG2 := Lib.hid g2
  clear hat2 hc2 g2 CC
  go_wp2_with fail
  go_loopw [11, 12] (fun v9 i9 wr => ∃ k : Nat, k ≤ L.length ∧ i9 = .int .i64 k ∧ Hid (OwnF wr w2.heap.size v9 (vals (L.take k))) ∧ Hid (Gr w2 wr)) (fun _ i9 _ => L.length - (intOf i9).toNat)
  case atStart => exact ⟨0, Nat.zero_le _, rfl, Lib.hid (by simpa [vals] using Own1.nil _ _), Lib.hid (Gr.refl _)⟩
  case round =>
    obtain ⟨k, hk, rfl, HO, HG⟩ := hrel
    by_cases hlt : k < L.length
    · obtain ⟨q, hq⟩ : ∃ q, L[k]? = some q := ⟨_, List.getElem?_eq_getElem hlt⟩
      obtain ⟨b, o, rfl, hcells⟩ := (HAT.out.gr HG.out) (by omega)
      obtain ⟨e1, e2⟩ := hcells k q hq _ _ rfl
      have HLS : Hid (vals (L.take (k + 1)) = vals (L.take k) ++ [q.2]) := Lib.hid (by rw [take_s hq]; simp [vals])
      have hk1 : (vals (L.take k)).length ≤ 1000000 := by rw [vals_len, List.length_take]; have := HLL.out; omega
      obtain ⟨qt, qv⟩ := q
      simp only at e1 e2 HLS
      have m1 : (k : Int) < (L.length : Int) := by omega
      have m2 : (0 : Int) ≤ (k : Int) := by omega
      have hll := HLL.out
      clear hq hcells
      have HO4 := Lib.hid (HO.out.gr ((Gr.refl wr).alloc #[.float .f64 qv] 26))
      have HG4 := Lib.hid (HG.out.trans ((Gr.refl wr).alloc #[.float .f64 qv] 26))
      go_wp2_with (first
        | (at_builtin
           refine wpList_app2 rfl (.tmp 39) (.tmp 45) (by rfl) (by rfl) (by rfl) (by rfl) (run_appF (c := 1) (m := [qv]) HO4.out (at1_one (enc := encF) _ qv _) (by simp; omega) HG4.out.size) ?_
           rintro v5 w5 ⟨ho5, hg5, -⟩
           have HO5 : Hid (OwnF w5 w2.heap.size v5 (vals (L.take (k + 1)))) := Lib.hid (by rw [HLS.out]; exact ho5)
           have HG5 : Hid (Gr w2 w5) := Lib.hid (HG4.out.grown hg5 (fun k hk => (HO.out.lt hk).1))
           clear ho5 hg5)
        | fail)
      go_roundw
      case rel => exact ⟨k + 1, by omega, by go_num, HO5, HG5⟩
      case measure => simp [intOf]; omega
    · obtain rfl : k = L.length := by omega
      obtain ⟨A3, c3, rfl, -, -, -, -, -⟩ := HO.out.form
      have HLN : Hid ((vals (L.take L.length)).length = L.length) := Lib.hid (by rw [List.take_length, vals_len])
      rw [HLN.out]
      have HGW := Lib.hid (HG2.out.trans HG.out)
      have m3 : ¬ (L.length : Int) < (L.length : Int) := by omega
      clear HO HLN
      rcases HK.out with h0 | ⟨h1, h3⟩
      · rw [h0]
        clear h0 m3 hlt hk
        go_wp2
        go_ret2
        exact ⟨rfl, HGW.out⟩
      · rw [h1]
        clear h1 m3 hlt hk
        rcases h3 with rfl | rfl | rfl
        all_goals
          go_wp2
          go_ret2
          exact ⟨rfl, HGW.out⟩
theorem rFn_any (fn : Int) (A : Option Addr) (c : Nat) (l : List Sm) (f t : Int) (w : World) (h : At2 encP w A l) (hl : l.length ≤ 1000000) (b1 : -4611686018427387904 ≤ f) (b2 : t ≤ 4611686018427387903) :
    Calls Tryd.prog 13 #[.int .i64 fn, .slice A l.length c, .int .i64 f, .int .i64 t] w (FnPost fn l f t w) := by
  by_cases hno : isFn fn = false ∨ t ≤ f
  · have e : fnP fn l f t = none := by
      unfold fnP
      rcases hno with g | g
      · rw [g]; rfl
      · rw [decide_eq_false (by omega : ¬ f < t), Bool.and_false]; rfl
    refine (rFn_no fn A c l.length f t w hno).mono ?_
    rintro e1 w' ⟨he, rfl⟩
    exact ⟨by rw [e]; exact he, Gr.refl _⟩
  · have hi : isFn fn = true := by cases h : isFn fn; exact absurd (.inl h) hno; rfl
    have hft : f < t := by rcases Int.lt_or_le f t with g | g; exact g; exact absurd (.inr g) hno
    have e : fnP fn l f t = outP fn.toNat (vals (strL l f t)) (Flo.ofI (t - f)) := by unfold fnP; rw [hi, decide_eq_true hft]; rfl
    obtain ⟨k, rfl, k1, k2⟩ := isFn_nat hi
    rw [show ((k : Nat) : Int).toNat = k from rfl] at e
    by_cases hs : (strL l f t).length < leastN k
    · have e2 : fnP k l f t = none := by rw [e]; unfold outP; rw [if_pos (by rw [vals_len]; exact hs)]
      refine (rFn_short k k1 k2 A c l f t w h hl hft hs).mono ?_
      rintro e1 w' ⟨he, g⟩
      exact ⟨by rw [e2]; exact he, g⟩
    · have e2 : fnP k l f t = some (valF k (vals (strL l f t)) (Flo.ofI (t - f))) := by rw [e]; unfold outP; rw [if_neg (by rw [vals_len]; exact hs)]
      have hv : ∃ x r, vals (strL l f t) = x :: r := by
        cases hvv : vals (strL l f t) with
        | nil =>
          have := congrArg List.length hvv
          rw [vals_len] at this
          simp at this
          exfalso
          unfold leastN at hs
          rw [this] at hs
          split at hs <;> simp at hs
        | cons x r => exact ⟨x, r, rfl⟩
      obtain ⟨x, r, hv⟩ := hv
      have H : RFnH A c l f t x r w := ⟨h, hl, hft, b1, b2, hv⟩
      have hm : leastN k ≤ r.length + 1 := by
        have := congrArg List.length hv
        rw [vals_len] at this
        simp at this
        omega
      have key : RFnC k A c l f t x r w := by
        rcases (by omega : k = 1 ∨ k = 2 ∨ k = 3 ∨ k = 4 ∨ k = 5 ∨ k = 6 ∨ k = 7 ∨ k = 8 ∨ k = 9 ∨ k = 10 ∨ k = 11 ∨ k = 12 ∨ k = 13 ∨ k = 14) with rfl | rfl | rfl | rfl | rfl | rfl | rfl | rfl | rfl | rfl | rfl | rfl | rfl | rfl
        · exact rFnW1 A c l f t x r w H hm
        · exact rFnW2 A c l f t x r w H hm
        · exact rFnW3 A c l f t x r w H hm
        · exact rFnW4 A c l f t x r w H hm
        · exact rFnW5 A c l f t x r w H hm
        · exact rFnW6 A c l f t x r w H hm
        · exact rFnW7 A c l f t x r w H hm
        · exact rFnW8 A c l f t x r w H hm
        · exact rFnW9 A c l f t x r w H hm
        · exact rFnW10 A c l f t x r w H hm
        · exact rFnW11 A c l f t x r w H hm
        · exact rFnW12 A c l f t x r w H hm
        · exact rFnW13 A c l f t x r w H hm
        · exact rFnW14 A c l f t x r w H hm
      unfold RFnC at key
      refine key.mono ?_
      rintro e1 w' ⟨he, g⟩
      exact ⟨by rw [e2, hv]; exact he, g⟩
end Go.Proofs.YtjjfkjpkbpefpaaDoor.Vn
