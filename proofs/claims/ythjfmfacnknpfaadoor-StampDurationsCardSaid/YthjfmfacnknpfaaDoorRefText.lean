/- The reference's Text: the walk; and both where there is no text. -/
import Derived.Test.YthjfmfacnknpfaaDoorTextW
namespace Go.Proofs.YthjfmfacnknpfaaDoor
open Go.RowKit
set_option maxRecDepth 100000
set_option maxHeartbeats 2000000

theorem size_l0 (w : World) : Calls Tryd.prog 37 #[.int .i64 0] w fun e w' => e = .returned (.int .i64 86400000) ∧ Gr w w' := size_any 0 (by decide) w
theorem size_l1 (w : World) : Calls Tryd.prog 37 #[.int .i64 1] w fun e w' => e = .returned (.int .i64 3600000) ∧ Gr w w' := size_any 1 (by decide) w
theorem size_l2 (w : World) : Calls Tryd.prog 37 #[.int .i64 2] w fun e w' => e = .returned (.int .i64 60000) ∧ Gr w w' := size_any 2 (by decide) w
theorem size_l3 (w : World) : Calls Tryd.prog 37 #[.int .i64 3] w fun e w' => e = .returned (.int .i64 1000) ∧ Gr w w' := size_any 3 (by decide) w
theorem size_l4 (w : World) : Calls Tryd.prog 37 #[.int .i64 4] w fun e w' => e = .returned (.int .i64 1) ∧ Gr w w' := size_any 4 (by decide) w
theorem text_bad (d : Int) (w : World) (h : lenB d = false) :
    Calls Tryd.prog 19 #[.int .i64 d] w fun e w' => e = .returned (.tuple #[.string ⟨#[]⟩, .int .i64 1]) ∧ Gr w w' := by
  go_enter Tryd.func19, Tryd.ntmps19
  go_wp2_with (go_at_call 30; refine (isLength_any _ _).mono ?_; rintro e w' ⟨rfl, rfl⟩)
  go_ret2
  exact ⟨rfl, Gr.refl _⟩
theorem ref_text_bad (d : Int) (w : World) (h : lenB d = false) :
    Calls Tryd.prog 20 #[.int .i64 d] w fun e w' => e = .returned (.tuple #[.string ⟨#[]⟩, .int .i64 1]) ∧ Gr w w' := by
  rcases lenB_f h with h1 | h1
  · have h2 : decide (d < 1) = true := by simpa using h1
    clear h h1
    go_enter Tryd.func20, Tryd.ntmps20
    go_wp2
    go_ret2
    exact ⟨rfl, Gr.refl _⟩
  · have h2 : decide (d < 1) = false := by simp; omega
    have h3 : decide (1125899906842624 < d) = true := by simpa using h1
    clear h h1
    go_enter Tryd.func20, Tryd.ntmps20
    go_wp2
    go_ret2
    exact ⟨rfl, Gr.refl _⟩
theorem cat_l (a b c : List UInt8) : ((⟨a.toArray⟩ ++ ⟨b.toArray⟩) ++ ⟨c.toArray⟩ : ByteArray) = ⟨(a ++ (b ++ c)).toArray⟩ := by rw [str_cat, str_cat, List.append_assoc]
def NmC (w wr : World) : Prop := ∀ j, j < 5 → wr.cell? ⟨w.heap.size, j, none⟩ = some (.string ⟨(unitName j).toArray⟩)
theorem NmC.gr {w wr w' : World} (h : NmC w wr) (g : Gr wr w') : NmC w w' := fun j hj => g.cell (h j hj)

theorem ref_text_any (d : Nat) (w : World) (h1 : 1 ≤ d) (h2 : d ≤ 1125899906842624) :
    Calls Tryd.prog 20 #[.int .i64 d] w fun e w' => e = .returned (.tuple #[.string ⟨(textD d).toArray⟩, .int .i64 0]) ∧ Gr w w' := by
  have h3 : decide ((d : Int) < 1) = false := by simp; omega
  have h4 : decide ((1125899906842624 : Int) < d) = false := by simp; omega
  have h0 := TxtR.start d h2
  go_enter Tryd.func20, Tryd.ntmps20
  go_wp2
  clear h3 h4 h1 h2
  go_loopw [0, 5, 6] (fun dd t k wr => ∃ di ki : Nat, ∃ l : List UInt8, dd = .int .i64 di ∧ t = .string ⟨l.toArray⟩ ∧ k = .int .i64 ki ∧ TxtR d ki di l ∧ NmC w wr ∧ Gr w wr) (fun _ _ k _ => 5 - (intOf k).toNat)
  case atStart =>
    refine ⟨d, 0, [], rfl, rfl, rfl, h0, ?_, (Gr.refl _).alloc _ _⟩
    intro j hj
    rcases (by omega : j = 0 ∨ j = 1 ∨ j = 2 ∨ j = 3 ∨ j = 4) with rfl | rfl | rfl | rfl | rfl <;> go_simp <;> rfl
  case round =>
    clear h0
    obtain ⟨di, ki, l, rfl, rfl, rfl, hr, hn, hg⟩ := hrel
    have HR := Lib.hid hr
    have HN := Lib.hid hn; clear hn
    obtain ⟨r1, r2, r3, -⟩ := hr
    rcases (by omega : ki = 5 ∨ ki = 0 ∨ ki = 1 ∨ ki = 2 ∨ ki = 3 ∨ ki = 4) with rfl | rfl | rfl | rfl | rfl | rfl
    · have hd := HR.out.done
      have HD := Lib.hid hd; clear hd
      go_wp2
      go_ret2
      exact ⟨by rw [HD.out]; rfl, hg⟩
    · have hs := HR.out.step (by decide)
      by_cases hc : di / 86400000 = 0
      · have hp : piece 0 di = [] := piece_0 hc
        rw [hp, List.append_nil] at hs
        obtain ⟨q, hq, hq2⟩ : ∃ q : Nat, di % unitSize 0 = q ∧ (di : Int) % 86400000 = (q : Int) := ⟨di % 86400000, rfl, by omega⟩
        rw [hq] at hs
        have HS := Lib.hid hs
        have hc2 : (di : Int) / 86400000 = 0 := by omega
        clear hs hp hc hq
        go_wp2_with fail
        refine (size_l0 _).mono ?_
        rintro e w2 ⟨rfl, hg2⟩
        go_wp2_with fail
        refine (size_l0 _).mono ?_
        rintro e w3 ⟨rfl, hg3⟩
        go_wp2
        go_roundw
        case rel => exact ⟨q, 0 + 1, l, vi (by omega), rfl, by go_num, HS.out, (HN.out.gr hg2).gr hg3, (hg.trans hg2).trans hg3⟩
        case measure => simp [intOf]
      · obtain ⟨c, hc1, hc2⟩ : ∃ c : Nat, di / 86400000 = c ∧ (di : Int) / 86400000 = (c : Int) := ⟨_, rfl, by omega⟩
        obtain ⟨q, hq, hq2⟩ : ∃ q : Nat, di % unitSize 0 = q ∧ (di : Int) % 86400000 = (q : Int) := ⟨di % 86400000, rfl, by omega⟩
        have hp : piece 0 di = Lib.decDigits c ++ [100] := by
          have h := piece_1 (j := 0) (d := di) (by show 0 < di / 86400000; omega)
          rw [h]
          show Lib.decDigits (di / 86400000) ++ unitName 0 = _
          rw [hc1]; rfl
        rw [hp, hq] at hs
        have HS := Lib.hid hs
        have hcb : c ≤ 1125899906842624 := by omega
        have hcp : 0 < c := by omega
        have hdl := dec_len c hcb
        have hz1 : ¬ 9223372036854775807 < l.length + (Lib.decDigits c).length := by omega
        have hz2 : ¬ 9223372036854775807 < l.length + (Lib.decDigits c).length + 1 := by omega
        clear hs hp hc hq
        try clear hc1
        go_wp2_with fail
        refine (size_l0 _).mono ?_
        rintro e w2 ⟨rfl, hg2⟩
        go_wp2_with fail
        refine (size_l0 _).mono ?_
        rintro e w3 ⟨rfl, hg3⟩
        go_wp2_with fail
        have hnm : w3.cell? ⟨w.heap.size, 0, none⟩ = some (.string ⟨#[100]⟩) := ((HN.out.gr hg2).gr hg3) 0 (by decide)
        have hlt : w.heap.size < w3.heap.size := World.block_lt_of_cell? _ _ hnm
        go_region_with (go_at_call 39; go_must (refine (decimal_any c _ hcb).mono ?_); go_must (rintro e w4 ⟨rfl, hg4⟩); have hnm4 := hg4.cell hnm)
        all_goals
          go_wp2
          go_roundw
          case rel => exact ⟨q, 0 + 1, l ++ (Lib.decDigits c ++ [100]), vi (by omega), str_eq (cat_l l (Lib.decDigits c) [100]), by go_num, HS.out, (((HN.out.gr hg2).gr hg3).gr (Gr.refl _).drew).gr hg4, (((hg.trans hg2).trans hg3).trans (Gr.refl _).drew).trans hg4⟩
          case measure => simp [intOf]
    · have hs := HR.out.step (by decide)
      by_cases hc : di / 3600000 = 0
      · have hp : piece 1 di = [] := piece_0 hc
        rw [hp, List.append_nil] at hs
        obtain ⟨q, hq, hq2⟩ : ∃ q : Nat, di % unitSize 1 = q ∧ (di : Int) % 3600000 = (q : Int) := ⟨di % 3600000, rfl, by omega⟩
        rw [hq] at hs
        have HS := Lib.hid hs
        have hc2 : (di : Int) / 3600000 = 0 := by omega
        clear hs hp hc hq
        go_wp2_with fail
        refine (size_l1 _).mono ?_
        rintro e w2 ⟨rfl, hg2⟩
        go_wp2_with fail
        refine (size_l1 _).mono ?_
        rintro e w3 ⟨rfl, hg3⟩
        go_wp2
        go_roundw
        case rel => exact ⟨q, 1 + 1, l, vi (by omega), rfl, by go_num, HS.out, (HN.out.gr hg2).gr hg3, (hg.trans hg2).trans hg3⟩
        case measure => simp [intOf]
      · obtain ⟨c, hc1, hc2⟩ : ∃ c : Nat, di / 3600000 = c ∧ (di : Int) / 3600000 = (c : Int) := ⟨_, rfl, by omega⟩
        obtain ⟨q, hq, hq2⟩ : ∃ q : Nat, di % unitSize 1 = q ∧ (di : Int) % 3600000 = (q : Int) := ⟨di % 3600000, rfl, by omega⟩
        have hp : piece 1 di = Lib.decDigits c ++ [104] := by
          have h := piece_1 (j := 1) (d := di) (by show 0 < di / 3600000; omega)
          rw [h]
          show Lib.decDigits (di / 3600000) ++ unitName 1 = _
          rw [hc1]; rfl
        rw [hp, hq] at hs
        have HS := Lib.hid hs
        have hcb : c ≤ 1125899906842624 := by omega
        have hcp : 0 < c := by omega
        have hdl := dec_len c hcb
        have hz1 : ¬ 9223372036854775807 < l.length + (Lib.decDigits c).length := by omega
        have hz2 : ¬ 9223372036854775807 < l.length + (Lib.decDigits c).length + 1 := by omega
        clear hs hp hc hq
        try clear hc1
        go_wp2_with fail
        refine (size_l1 _).mono ?_
        rintro e w2 ⟨rfl, hg2⟩
        go_wp2_with fail
        refine (size_l1 _).mono ?_
        rintro e w3 ⟨rfl, hg3⟩
        go_wp2_with fail
        have hnm : w3.cell? ⟨w.heap.size, 1, none⟩ = some (.string ⟨#[104]⟩) := ((HN.out.gr hg2).gr hg3) 1 (by decide)
        have hlt : w.heap.size < w3.heap.size := World.block_lt_of_cell? _ _ hnm
        go_region_with (go_at_call 39; go_must (refine (decimal_any c _ hcb).mono ?_); go_must (rintro e w4 ⟨rfl, hg4⟩); have hnm4 := hg4.cell hnm)
        all_goals
          go_wp2
          go_roundw
          case rel => exact ⟨q, 1 + 1, l ++ (Lib.decDigits c ++ [104]), vi (by omega), str_eq (cat_l l (Lib.decDigits c) [104]), by go_num, HS.out, (((HN.out.gr hg2).gr hg3).gr (Gr.refl _).drew).gr hg4, (((hg.trans hg2).trans hg3).trans (Gr.refl _).drew).trans hg4⟩
          case measure => simp [intOf]
    · have hs := HR.out.step (by decide)
      by_cases hc : di / 60000 = 0
      · have hp : piece 2 di = [] := piece_0 hc
        rw [hp, List.append_nil] at hs
        obtain ⟨q, hq, hq2⟩ : ∃ q : Nat, di % unitSize 2 = q ∧ (di : Int) % 60000 = (q : Int) := ⟨di % 60000, rfl, by omega⟩
        rw [hq] at hs
        have HS := Lib.hid hs
        have hc2 : (di : Int) / 60000 = 0 := by omega
        clear hs hp hc hq
        go_wp2_with fail
        refine (size_l2 _).mono ?_
        rintro e w2 ⟨rfl, hg2⟩
        go_wp2_with fail
        refine (size_l2 _).mono ?_
        rintro e w3 ⟨rfl, hg3⟩
        go_wp2
        go_roundw
        case rel => exact ⟨q, 2 + 1, l, vi (by omega), rfl, by go_num, HS.out, (HN.out.gr hg2).gr hg3, (hg.trans hg2).trans hg3⟩
        case measure => simp [intOf]
      · obtain ⟨c, hc1, hc2⟩ : ∃ c : Nat, di / 60000 = c ∧ (di : Int) / 60000 = (c : Int) := ⟨_, rfl, by omega⟩
        obtain ⟨q, hq, hq2⟩ : ∃ q : Nat, di % unitSize 2 = q ∧ (di : Int) % 60000 = (q : Int) := ⟨di % 60000, rfl, by omega⟩
        have hp : piece 2 di = Lib.decDigits c ++ [109] := by
          have h := piece_1 (j := 2) (d := di) (by show 0 < di / 60000; omega)
          rw [h]
          show Lib.decDigits (di / 60000) ++ unitName 2 = _
          rw [hc1]; rfl
        rw [hp, hq] at hs
        have HS := Lib.hid hs
        have hcb : c ≤ 1125899906842624 := by omega
        have hcp : 0 < c := by omega
        have hdl := dec_len c hcb
        have hz1 : ¬ 9223372036854775807 < l.length + (Lib.decDigits c).length := by omega
        have hz2 : ¬ 9223372036854775807 < l.length + (Lib.decDigits c).length + 1 := by omega
        clear hs hp hc hq
        try clear hc1
        go_wp2_with fail
        refine (size_l2 _).mono ?_
        rintro e w2 ⟨rfl, hg2⟩
        go_wp2_with fail
        refine (size_l2 _).mono ?_
        rintro e w3 ⟨rfl, hg3⟩
        go_wp2_with fail
        have hnm : w3.cell? ⟨w.heap.size, 2, none⟩ = some (.string ⟨#[109]⟩) := ((HN.out.gr hg2).gr hg3) 2 (by decide)
        have hlt : w.heap.size < w3.heap.size := World.block_lt_of_cell? _ _ hnm
        go_region_with (go_at_call 39; go_must (refine (decimal_any c _ hcb).mono ?_); go_must (rintro e w4 ⟨rfl, hg4⟩); have hnm4 := hg4.cell hnm)
        all_goals
          go_wp2
          go_roundw
          case rel => exact ⟨q, 2 + 1, l ++ (Lib.decDigits c ++ [109]), vi (by omega), str_eq (cat_l l (Lib.decDigits c) [109]), by go_num, HS.out, (((HN.out.gr hg2).gr hg3).gr (Gr.refl _).drew).gr hg4, (((hg.trans hg2).trans hg3).trans (Gr.refl _).drew).trans hg4⟩
          case measure => simp [intOf]
    · have hs := HR.out.step (by decide)
      by_cases hc : di / 1000 = 0
      · have hp : piece 3 di = [] := piece_0 hc
        rw [hp, List.append_nil] at hs
        obtain ⟨q, hq, hq2⟩ : ∃ q : Nat, di % unitSize 3 = q ∧ (di : Int) % 1000 = (q : Int) := ⟨di % 1000, rfl, by omega⟩
        rw [hq] at hs
        have HS := Lib.hid hs
        have hc2 : (di : Int) / 1000 = 0 := by omega
        clear hs hp hc hq
        go_wp2_with fail
        refine (size_l3 _).mono ?_
        rintro e w2 ⟨rfl, hg2⟩
        go_wp2_with fail
        refine (size_l3 _).mono ?_
        rintro e w3 ⟨rfl, hg3⟩
        go_wp2
        go_roundw
        case rel => exact ⟨q, 3 + 1, l, vi (by omega), rfl, by go_num, HS.out, (HN.out.gr hg2).gr hg3, (hg.trans hg2).trans hg3⟩
        case measure => simp [intOf]
      · obtain ⟨c, hc1, hc2⟩ : ∃ c : Nat, di / 1000 = c ∧ (di : Int) / 1000 = (c : Int) := ⟨_, rfl, by omega⟩
        obtain ⟨q, hq, hq2⟩ : ∃ q : Nat, di % unitSize 3 = q ∧ (di : Int) % 1000 = (q : Int) := ⟨di % 1000, rfl, by omega⟩
        have hp : piece 3 di = Lib.decDigits c ++ [115] := by
          have h := piece_1 (j := 3) (d := di) (by show 0 < di / 1000; omega)
          rw [h]
          show Lib.decDigits (di / 1000) ++ unitName 3 = _
          rw [hc1]; rfl
        rw [hp, hq] at hs
        have HS := Lib.hid hs
        have hcb : c ≤ 1125899906842624 := by omega
        have hcp : 0 < c := by omega
        have hdl := dec_len c hcb
        have hz1 : ¬ 9223372036854775807 < l.length + (Lib.decDigits c).length := by omega
        have hz2 : ¬ 9223372036854775807 < l.length + (Lib.decDigits c).length + 1 := by omega
        clear hs hp hc hq
        try clear hc1
        go_wp2_with fail
        refine (size_l3 _).mono ?_
        rintro e w2 ⟨rfl, hg2⟩
        go_wp2_with fail
        refine (size_l3 _).mono ?_
        rintro e w3 ⟨rfl, hg3⟩
        go_wp2_with fail
        have hnm : w3.cell? ⟨w.heap.size, 3, none⟩ = some (.string ⟨#[115]⟩) := ((HN.out.gr hg2).gr hg3) 3 (by decide)
        have hlt : w.heap.size < w3.heap.size := World.block_lt_of_cell? _ _ hnm
        go_region_with (go_at_call 39; go_must (refine (decimal_any c _ hcb).mono ?_); go_must (rintro e w4 ⟨rfl, hg4⟩); have hnm4 := hg4.cell hnm)
        all_goals
          go_wp2
          go_roundw
          case rel => exact ⟨q, 3 + 1, l ++ (Lib.decDigits c ++ [115]), vi (by omega), str_eq (cat_l l (Lib.decDigits c) [115]), by go_num, HS.out, (((HN.out.gr hg2).gr hg3).gr (Gr.refl _).drew).gr hg4, (((hg.trans hg2).trans hg3).trans (Gr.refl _).drew).trans hg4⟩
          case measure => simp [intOf]
    · have hs := HR.out.step (by decide)
      by_cases hc : di / 1 = 0
      · have hp : piece 4 di = [] := piece_0 hc
        rw [hp, List.append_nil] at hs
        obtain ⟨q, hq, hq2⟩ : ∃ q : Nat, di % unitSize 4 = q ∧ (di : Int) % 1 = (q : Int) := ⟨di % 1, rfl, by omega⟩
        rw [hq] at hs
        have HS := Lib.hid hs
        have hc2 : (di : Int) = 0 := by omega
        have hc3 : di = 0 := by omega
        clear hs hp hc hq
        go_wp2_with fail
        refine (size_l4 _).mono ?_
        rintro e w2 ⟨rfl, hg2⟩
        go_wp2_with fail
        refine (size_l4 _).mono ?_
        rintro e w3 ⟨rfl, hg3⟩
        go_wp2
        go_roundw
        case rel => exact ⟨q, 4 + 1, l, vi (by omega), rfl, by go_num, HS.out, (HN.out.gr hg2).gr hg3, (hg.trans hg2).trans hg3⟩
        case measure => simp [intOf]
      · obtain ⟨c, hc1, hc2⟩ : ∃ c : Nat, di / 1 = c ∧ (di : Int) = (c : Int) := ⟨_, rfl, by omega⟩
        obtain ⟨q, hq, hq2⟩ : ∃ q : Nat, di % unitSize 4 = q ∧ (di : Int) % 1 = (q : Int) := ⟨di % 1, rfl, by omega⟩
        have hp : piece 4 di = Lib.decDigits c ++ [109, 115] := by
          have h := piece_1 (j := 4) (d := di) (by show 0 < di / 1; omega)
          rw [h]
          show Lib.decDigits (di / 1) ++ unitName 4 = _
          rw [hc1]; rfl
        rw [hp, hq] at hs
        have HS := Lib.hid hs
        have hcb : c ≤ 1125899906842624 := by omega
        have hcp : 0 < c := by omega
        have hdc : c = di := by omega
        subst hdc
        clear hc2
        have hdl := dec_len c hcb
        have hz1 : ¬ 9223372036854775807 < l.length + (Lib.decDigits c).length := by omega
        have hz2 : ¬ 9223372036854775807 < l.length + (Lib.decDigits c).length + 2 := by omega
        clear hs hp hc hq
        try clear hc1
        go_wp2_with fail
        refine (size_l4 _).mono ?_
        rintro e w2 ⟨rfl, hg2⟩
        go_wp2_with fail
        refine (size_l4 _).mono ?_
        rintro e w3 ⟨rfl, hg3⟩
        go_wp2_with fail
        have hnm : w3.cell? ⟨w.heap.size, 4, none⟩ = some (.string ⟨#[109, 115]⟩) := ((HN.out.gr hg2).gr hg3) 4 (by decide)
        have hlt : w.heap.size < w3.heap.size := World.block_lt_of_cell? _ _ hnm
        go_region_with (go_at_call 39; go_must (refine (decimal_any c _ hcb).mono ?_); go_must (rintro e w4 ⟨rfl, hg4⟩); have hnm4 := hg4.cell hnm)
        all_goals
          go_wp2
          go_roundw
          case rel => exact ⟨q, 4 + 1, l ++ (Lib.decDigits c ++ [109, 115]), vi (by omega), str_eq (cat_l l (Lib.decDigits c) [109, 115]), by go_num, HS.out, (((HN.out.gr hg2).gr hg3).gr (Gr.refl _).drew).gr hg4, (((hg.trans hg2).trans hg3).trans (Gr.refl _).drew).trans hg4⟩
          case measure => simp [intOf]
end Go.Proofs.YthjfmfacnknpfaaDoor
