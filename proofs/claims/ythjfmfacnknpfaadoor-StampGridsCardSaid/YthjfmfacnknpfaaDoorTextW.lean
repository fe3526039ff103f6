/- stamp.Text: the walk. -/
import Derived.Test.YthjfmfacnknpfaaDoorItoa
import Derived.Deep.DeepMust
import Derived.Deep.RegionWith
namespace Go.Proofs.YthjfmfacnknpfaaDoor
open Go.RowKit
set_option maxRecDepth 100000
set_option maxHeartbeats 2000000

def piece (j d : Nat) : List UInt8 := if 0 < d / unitSize j then Lib.decDigits (d / unitSize j) ++ unitName j else []
/-- the text of what is left, from the unit of number 5 - f on -/
def textF : Nat → Nat → List UInt8
  | 0, _ => []
  | f + 1, d => piece (4 - f) d ++ textF f (d % unitSize (4 - f))
def textD (d : Nat) : List UInt8 := textF 5 d
/-- what holds at the loop's head -/
def TxtR (d0 k d : Nat) (l : List UInt8) : Prop := k ≤ 5 ∧ d ≤ 1125899906842624 ∧ l.length ≤ 100 * k ∧ textD d0 = l ++ textF (5 - k) d
theorem dec_len (n : Nat) (h : n ≤ 1125899906842624) : (Lib.decDigits n).length ≤ 20 := by
  rw [Lib.decDigits_length]
  have step : ∀ f n, n < 10 ^ (f + 1) → Lib.nDigits n ≤ f + 1 := by
    intro f
    induction f with
    | zero => intro n hn; rw [Lib.nDigits_small (by simpa using hn)]; omega
    | succ f ih =>
      intro n hn
      by_cases h : n < 10
      · rw [Lib.nDigits_small h]; omega
      · rw [Lib.nDigits_big h]
        have := ih (n / 10) (by rw [Nat.div_lt_iff_lt_mul (by omega)]; rw [Nat.pow_succ] at hn; exact hn)
        omega
  have := step 19 n (by omega)
  omega
theorem TxtR.step {d0 k d : Nat} {l : List UInt8} (h : TxtR d0 k d l) (hk : k < 5) : TxtR d0 (k + 1) (d % unitSize k) (l ++ piece k d) := by
  obtain ⟨h1, h2, h3, h4⟩ := h
  refine ⟨by omega, Nat.le_trans (Nat.mod_le _ _) h2, ?_, ?_⟩
  · have hp : (piece k d).length ≤ 100 := by
      unfold piece
      by_cases hc : 0 < d / unitSize k
      · rw [if_pos hc, List.length_append]
        have := dec_len (d / unitSize k) (Nat.le_trans (Nat.div_le_self _ _) h2)
        have : (unitName k).length ≤ 2 := by
          rcases (by omega : k = 0 ∨ k = 1 ∨ k = 2 ∨ k = 3 ∨ k = 4) with rfl | rfl | rfl | rfl | rfl <;> decide
        omega
      · rw [if_neg hc]; simp
    rw [List.length_append]; omega
  · rw [h4]
    obtain ⟨f, hf⟩ : ∃ f, 5 - k = f + 1 := ⟨4 - k, by omega⟩
    have hf2 : 4 - f = k := by omega
    have hf3 : 5 - (k + 1) = f := by omega
    rw [hf, hf3]
    show l ++ (piece (4 - f) d ++ textF f (d % unitSize (4 - f))) = _
    rw [hf2, List.append_assoc]
theorem TxtR.start (d : Nat) (h : d ≤ 1125899906842624) : TxtR d 0 d [] := ⟨by omega, h, by simp, rfl⟩
theorem TxtR.done {d0 d : Nat} {l : List UInt8} (h : TxtR d0 5 d l) : textD d0 = l := by rw [h.2.2.2]; simp [textF]
theorem piece_0 {j d : Nat} (h : d / unitSize j = 0) : piece j d = [] := by unfold piece; rw [h]; rfl
theorem piece_1 {j d : Nat} (h : 0 < d / unitSize j) : piece j d = Lib.decDigits (d / unitSize j) ++ unitName j := by unfold piece; rw [if_pos h]
theorem vi {a b : Int} (h : a = b) : Value.int .i64 a = .int .i64 b := by rw [h]
theorem kn_keep {w : World} {c : Array Value} {t : TypeId} (h : KnU w) : KnU (w.alloc (.cells c t)).drew := h.gr ((Gr.refl _).alloc _ _).drew
theorem cat3 (a b c : List UInt8) : (⟨a.toArray⟩ ++ (⟨b.toArray⟩ ++ ⟨c.toArray⟩) : ByteArray) = ⟨(a ++ (b ++ c)).toArray⟩ := by rw [str_cat, str_cat]
theorem size_mk (l : List UInt8) : (⟨l.toArray⟩ : ByteArray).size = l.length := by simp [ByteArray.size]

theorem text_any (d : Nat) (w : World) (h1 : 1 ≤ d) (h2 : d ≤ 1125899906842624) (hk : KnU w) :
    Calls Tryd.prog 19 #[.int .i64 d] w fun e w' => e = .returned (.tuple #[.string ⟨(textD d).toArray⟩, .int .i64 0]) ∧ Gr w w' := by
  have hl : lenB (d : Int) = true := by simp [lenB]; omega
  have n0 : w.cell? ⟨0, 0, none⟩ = some (.string ⟨#[100]⟩) := (hk.u 0 (by omega)).1
  have z0 : w.cell? ⟨0, 1, none⟩ = some (.int .i64 86400000) := (hk.u 0 (by omega)).2
  have n1 : w.cell? ⟨0, 2, none⟩ = some (.string ⟨#[104]⟩) := (hk.u 1 (by omega)).1
  have z1 : w.cell? ⟨0, 3, none⟩ = some (.int .i64 3600000) := (hk.u 1 (by omega)).2
  have n2 : w.cell? ⟨0, 4, none⟩ = some (.string ⟨#[109]⟩) := (hk.u 2 (by omega)).1
  have z2 : w.cell? ⟨0, 5, none⟩ = some (.int .i64 60000) := (hk.u 2 (by omega)).2
  have n3 : w.cell? ⟨0, 6, none⟩ = some (.string ⟨#[115]⟩) := (hk.u 3 (by omega)).1
  have z3 : w.cell? ⟨0, 7, none⟩ = some (.int .i64 1000) := (hk.u 3 (by omega)).2
  have n4 : w.cell? ⟨0, 8, none⟩ = some (.string ⟨#[109, 115]⟩) := (hk.u 4 (by omega)).1
  have z4 : w.cell? ⟨0, 9, none⟩ = some (.int .i64 1) := (hk.u 4 (by omega)).2
  have HK := Lib.hid hk; clear hk
  have h0 := TxtR.start d h2
  go_enter Tryd.func19, Tryd.ntmps19
  go_wp2_with (go_at_call 30; refine (isLength_any _ _).mono ?_; rintro e w' ⟨rfl, rfl⟩)
  clear n0 n1 n2 n3 n4 z0 z1 z2 z3 z4 hl
  go_loopw [0, 4, 12] (fun dd t k wr => ∃ di ki : Nat, ∃ l : List UInt8, dd = .int .i64 di ∧ t = .string ⟨l.toArray⟩ ∧ k = .int .i64 ki ∧ TxtR d ki di l ∧ Gr w wr) (fun _ _ k _ => 5 - (intOf k).toNat)
  case atStart => exact ⟨d, 0, [], rfl, rfl, rfl, h0, Gr.refl _⟩
  case round =>
    clear h0 h1 h2
    obtain ⟨di, ki, l, rfl, rfl, rfl, hr, hg⟩ := hrel
    have HR := Lib.hid hr
    obtain ⟨r1, r2, r3, -⟩ := hr
    rcases (by omega : ki = 5 ∨ ki = 0 ∨ ki = 1 ∨ ki = 2 ∨ ki = 3 ∨ ki = 4) with rfl | rfl | rfl | rfl | rfl | rfl
    · have hd := HR.out.done
      have HD := Lib.hid hd; clear hd
      go_wp2
      go_ret2
      exact ⟨by rw [HD.out]; rfl, hg⟩
    · have ix : ∀ W : World, (Instr.index 51 (.agg #[.string ⟨#[100]⟩, .int .i64 86400000, .string ⟨#[104]⟩, .int .i64 3600000, .string ⟨#[109]⟩, .int .i64 60000, .string ⟨#[115]⟩, .int .i64 1000, .string ⟨#[109, 115]⟩, .int .i64 1]) (.int .i64 0)).run Tryd.prog W = .ok (.agg #[.string ⟨#[100]⟩, .int .i64 86400000]) W := fun _ => by kernel_rfl
      have hs := HR.out.step (by decide)
      by_cases hc : di / 86400000 = 0
      · have hp : piece 0 di = [] := piece_0 hc
        rw [hp, List.append_nil] at hs
        obtain ⟨q, hq, hq2⟩ : ∃ q : Nat, di % unitSize 0 = q ∧ (di : Int) % 86400000 = (q : Int) := ⟨di % 86400000, rfl, by omega⟩
        rw [hq] at hs
        have HS := Lib.hid hs
        have hc2 : (di : Int) / 86400000 = 0 := by omega
        clear hs hp hc hq
        go_wp2
        go_roundw
        case rel => exact ⟨q, 0 + 1, l, vi (by omega), rfl, by go_num, HS.out, hg.alloc _ _⟩
        case measure => simp [intOf]
      · obtain ⟨c, hc1, hc2⟩ : ∃ c : Nat, di / 86400000 = c ∧ (di : Int) / 86400000 = (c : Int) := ⟨_, rfl, by omega⟩
        obtain ⟨q, hq, hq2⟩ : ∃ q : Nat, di % unitSize 0 = q ∧ (di : Int) % 86400000 = (q : Int) := ⟨di % 86400000, rfl, by omega⟩
        have hp : piece 0 di = Lib.decDigits c ++ [100] := by
          have h := piece_1 (j := 0) (d := di) (by show 0 < di / 86400000; omega)
          rw [h]
          show Lib.decDigits (di / 86400000) ++ unitName 0 = _
          rw [hc1]; rfl
        rw [hp, hq] at hs
        have HS := Lib.hid hs
        have hcb : c ≤ 1125899906842624 := by omega
        have hcp : 0 < c := by omega
        have hdl := dec_len c hcb
        have hz1 : ¬ 9223372036854775807 < (Lib.decDigits c).length + 1 := by omega
        have hz2 : ¬ 9223372036854775807 < l.length + ((Lib.decDigits c).length + 1) := by omega
        clear hs hp hc hq hc1
        go_wp2_with fail
        go_region_with (go_at_call 38; go_must (refine (itoa_any c hcb _ ?_).mono ?_); go_must (exact kn_keep (HK.out.gr hg)); go_must (rintro e w2 ⟨rfl, hg2⟩); obtain ⟨hcc, hff⟩ := bcell hg2)
        all_goals
          go_wp2
          go_roundw
          case rel => exact ⟨q, 0 + 1, l ++ (Lib.decDigits c ++ [100]), vi (by omega), str_eq (cat3 l (Lib.decDigits c) [100]), by go_num, HS.out, (hg.trans ((Gr.refl _).alloc _ _).drew).trans hg2⟩
          case measure => simp [intOf]
    · have ix : ∀ W : World, (Instr.index 51 (.agg #[.string ⟨#[100]⟩, .int .i64 86400000, .string ⟨#[104]⟩, .int .i64 3600000, .string ⟨#[109]⟩, .int .i64 60000, .string ⟨#[115]⟩, .int .i64 1000, .string ⟨#[109, 115]⟩, .int .i64 1]) (.int .i64 1)).run Tryd.prog W = .ok (.agg #[.string ⟨#[104]⟩, .int .i64 3600000]) W := fun _ => by kernel_rfl
      have hs := HR.out.step (by decide)
      by_cases hc : di / 3600000 = 0
      · have hp : piece 1 di = [] := piece_0 hc
        rw [hp, List.append_nil] at hs
        obtain ⟨q, hq, hq2⟩ : ∃ q : Nat, di % unitSize 1 = q ∧ (di : Int) % 3600000 = (q : Int) := ⟨di % 3600000, rfl, by omega⟩
        rw [hq] at hs
        have HS := Lib.hid hs
        have hc2 : (di : Int) / 3600000 = 0 := by omega
        clear hs hp hc hq
        go_wp2
        go_roundw
        case rel => exact ⟨q, 1 + 1, l, vi (by omega), rfl, by go_num, HS.out, hg.alloc _ _⟩
        case measure => simp [intOf]
      · obtain ⟨c, hc1, hc2⟩ : ∃ c : Nat, di / 3600000 = c ∧ (di : Int) / 3600000 = (c : Int) := ⟨_, rfl, by omega⟩
        obtain ⟨q, hq, hq2⟩ : ∃ q : Nat, di % unitSize 1 = q ∧ (di : Int) % 3600000 = (q : Int) := ⟨di % 3600000, rfl, by omega⟩
        have hp : piece 1 di = Lib.decDigits c ++ [104] := by
          have h := piece_1 (j := 1) (d := di) (by show 0 < di / 3600000; omega)
          rw [h]
          show Lib.decDigits (di / 3600000) ++ unitName 1 = _
          rw [hc1]; rfl
        rw [hp, hq] at hs
        have HS := Lib.hid hs
        have hcb : c ≤ 1125899906842624 := by omega
        have hcp : 0 < c := by omega
        have hdl := dec_len c hcb
        have hz1 : ¬ 9223372036854775807 < (Lib.decDigits c).length + 1 := by omega
        have hz2 : ¬ 9223372036854775807 < l.length + ((Lib.decDigits c).length + 1) := by omega
        clear hs hp hc hq hc1
        go_wp2_with fail
        go_region_with (go_at_call 38; go_must (refine (itoa_any c hcb _ ?_).mono ?_); go_must (exact kn_keep (HK.out.gr hg)); go_must (rintro e w2 ⟨rfl, hg2⟩); obtain ⟨hcc, hff⟩ := bcell hg2)
        all_goals
          go_wp2
          go_roundw
          case rel => exact ⟨q, 1 + 1, l ++ (Lib.decDigits c ++ [104]), vi (by omega), str_eq (cat3 l (Lib.decDigits c) [104]), by go_num, HS.out, (hg.trans ((Gr.refl _).alloc _ _).drew).trans hg2⟩
          case measure => simp [intOf]
    · have ix : ∀ W : World, (Instr.index 51 (.agg #[.string ⟨#[100]⟩, .int .i64 86400000, .string ⟨#[104]⟩, .int .i64 3600000, .string ⟨#[109]⟩, .int .i64 60000, .string ⟨#[115]⟩, .int .i64 1000, .string ⟨#[109, 115]⟩, .int .i64 1]) (.int .i64 2)).run Tryd.prog W = .ok (.agg #[.string ⟨#[109]⟩, .int .i64 60000]) W := fun _ => by kernel_rfl
      have hs := HR.out.step (by decide)
      by_cases hc : di / 60000 = 0
      · have hp : piece 2 di = [] := piece_0 hc
        rw [hp, List.append_nil] at hs
        obtain ⟨q, hq, hq2⟩ : ∃ q : Nat, di % unitSize 2 = q ∧ (di : Int) % 60000 = (q : Int) := ⟨di % 60000, rfl, by omega⟩
        rw [hq] at hs
        have HS := Lib.hid hs
        have hc2 : (di : Int) / 60000 = 0 := by omega
        clear hs hp hc hq
        go_wp2
        go_roundw
        case rel => exact ⟨q, 2 + 1, l, vi (by omega), rfl, by go_num, HS.out, hg.alloc _ _⟩
        case measure => simp [intOf]
      · obtain ⟨c, hc1, hc2⟩ : ∃ c : Nat, di / 60000 = c ∧ (di : Int) / 60000 = (c : Int) := ⟨_, rfl, by omega⟩
        obtain ⟨q, hq, hq2⟩ : ∃ q : Nat, di % unitSize 2 = q ∧ (di : Int) % 60000 = (q : Int) := ⟨di % 60000, rfl, by omega⟩
        have hp : piece 2 di = Lib.decDigits c ++ [109] := by
          have h := piece_1 (j := 2) (d := di) (by show 0 < di / 60000; omega)
          rw [h]
          show Lib.decDigits (di / 60000) ++ unitName 2 = _
          rw [hc1]; rfl
        rw [hp, hq] at hs
        have HS := Lib.hid hs
        have hcb : c ≤ 1125899906842624 := by omega
        have hcp : 0 < c := by omega
        have hdl := dec_len c hcb
        have hz1 : ¬ 9223372036854775807 < (Lib.decDigits c).length + 1 := by omega
        have hz2 : ¬ 9223372036854775807 < l.length + ((Lib.decDigits c).length + 1) := by omega
        clear hs hp hc hq hc1
        go_wp2_with fail
        go_region_with (go_at_call 38; go_must (refine (itoa_any c hcb _ ?_).mono ?_); go_must (exact kn_keep (HK.out.gr hg)); go_must (rintro e w2 ⟨rfl, hg2⟩); obtain ⟨hcc, hff⟩ := bcell hg2)
        all_goals
          go_wp2
          go_roundw
          case rel => exact ⟨q, 2 + 1, l ++ (Lib.decDigits c ++ [109]), vi (by omega), str_eq (cat3 l (Lib.decDigits c) [109]), by go_num, HS.out, (hg.trans ((Gr.refl _).alloc _ _).drew).trans hg2⟩
          case measure => simp [intOf]
    · have ix : ∀ W : World, (Instr.index 51 (.agg #[.string ⟨#[100]⟩, .int .i64 86400000, .string ⟨#[104]⟩, .int .i64 3600000, .string ⟨#[109]⟩, .int .i64 60000, .string ⟨#[115]⟩, .int .i64 1000, .string ⟨#[109, 115]⟩, .int .i64 1]) (.int .i64 3)).run Tryd.prog W = .ok (.agg #[.string ⟨#[115]⟩, .int .i64 1000]) W := fun _ => by kernel_rfl
      have hs := HR.out.step (by decide)
      by_cases hc : di / 1000 = 0
      · have hp : piece 3 di = [] := piece_0 hc
        rw [hp, List.append_nil] at hs
        obtain ⟨q, hq, hq2⟩ : ∃ q : Nat, di % unitSize 3 = q ∧ (di : Int) % 1000 = (q : Int) := ⟨di % 1000, rfl, by omega⟩
        rw [hq] at hs
        have HS := Lib.hid hs
        have hc2 : (di : Int) / 1000 = 0 := by omega
        clear hs hp hc hq
        go_wp2
        go_roundw
        case rel => exact ⟨q, 3 + 1, l, vi (by omega), rfl, by go_num, HS.out, hg.alloc _ _⟩
        case measure => simp [intOf]
      · obtain ⟨c, hc1, hc2⟩ : ∃ c : Nat, di / 1000 = c ∧ (di : Int) / 1000 = (c : Int) := ⟨_, rfl, by omega⟩
        obtain ⟨q, hq, hq2⟩ : ∃ q : Nat, di % unitSize 3 = q ∧ (di : Int) % 1000 = (q : Int) := ⟨di % 1000, rfl, by omega⟩
        have hp : piece 3 di = Lib.decDigits c ++ [115] := by
          have h := piece_1 (j := 3) (d := di) (by show 0 < di / 1000; omega)
          rw [h]
          show Lib.decDigits (di / 1000) ++ unitName 3 = _
          rw [hc1]; rfl
        rw [hp, hq] at hs
        have HS := Lib.hid hs
        have hcb : c ≤ 1125899906842624 := by omega
        have hcp : 0 < c := by omega
        have hdl := dec_len c hcb
        have hz1 : ¬ 9223372036854775807 < (Lib.decDigits c).length + 1 := by omega
        have hz2 : ¬ 9223372036854775807 < l.length + ((Lib.decDigits c).length + 1) := by omega
        clear hs hp hc hq hc1
        go_wp2_with fail
        go_region_with (go_at_call 38; go_must (refine (itoa_any c hcb _ ?_).mono ?_); go_must (exact kn_keep (HK.out.gr hg)); go_must (rintro e w2 ⟨rfl, hg2⟩); obtain ⟨hcc, hff⟩ := bcell hg2)
        all_goals
          go_wp2
          go_roundw
          case rel => exact ⟨q, 3 + 1, l ++ (Lib.decDigits c ++ [115]), vi (by omega), str_eq (cat3 l (Lib.decDigits c) [115]), by go_num, HS.out, (hg.trans ((Gr.refl _).alloc _ _).drew).trans hg2⟩
          case measure => simp [intOf]
    · have ix : ∀ W : World, (Instr.index 51 (.agg #[.string ⟨#[100]⟩, .int .i64 86400000, .string ⟨#[104]⟩, .int .i64 3600000, .string ⟨#[109]⟩, .int .i64 60000, .string ⟨#[115]⟩, .int .i64 1000, .string ⟨#[109, 115]⟩, .int .i64 1]) (.int .i64 4)).run Tryd.prog W = .ok (.agg #[.string ⟨#[109, 115]⟩, .int .i64 1]) W := fun _ => by kernel_rfl
      have hs := HR.out.step (by decide)
      by_cases hc : di / 1 = 0
      · have hp : piece 4 di = [] := piece_0 hc
        rw [hp, List.append_nil] at hs
        obtain ⟨q, hq, hq2⟩ : ∃ q : Nat, di % unitSize 4 = q ∧ (di : Int) % 1 = (q : Int) := ⟨di % 1, rfl, by omega⟩
        rw [hq] at hs
        have HS := Lib.hid hs
        have hc2 : (di : Int) = 0 := by omega
        have hc3 : di = 0 := by omega
        clear hs hp hc hq
        go_wp2
        go_roundw
        case rel => exact ⟨q, 4 + 1, l, vi (by omega), rfl, by go_num, HS.out, hg.alloc _ _⟩
        case measure => simp [intOf]
      · obtain ⟨c, hc1, hc2⟩ : ∃ c : Nat, di / 1 = c ∧ (di : Int) = (c : Int) := ⟨_, rfl, by omega⟩
        obtain ⟨q, hq, hq2⟩ : ∃ q : Nat, di % unitSize 4 = q ∧ (di : Int) % 1 = (q : Int) := ⟨di % 1, rfl, by omega⟩
        have hp : piece 4 di = Lib.decDigits c ++ [109, 115] := by
          have h := piece_1 (j := 4) (d := di) (by show 0 < di / 1; omega)
          rw [h]
          show Lib.decDigits (di / 1) ++ unitName 4 = _
          rw [hc1]; rfl
        rw [hp, hq] at hs
        have HS := Lib.hid hs
        have hcb : c ≤ 1125899906842624 := by omega
        have hcp : 0 < c := by omega
        have hdc : c = di := by omega
        subst hdc
        clear hc2
        have hdl := dec_len c hcb
        have hz1 : ¬ 9223372036854775807 < (Lib.decDigits c).length + 2 := by omega
        have hz2 : ¬ 9223372036854775807 < l.length + ((Lib.decDigits c).length + 2) := by omega
        clear hs hp hc hq hc1
        go_wp2_with fail
        go_region_with (go_at_call 38; go_must (refine (itoa_any c hcb _ ?_).mono ?_); go_must (exact kn_keep (HK.out.gr hg)); go_must (rintro e w2 ⟨rfl, hg2⟩); obtain ⟨hcc, hff⟩ := bcell hg2)
        all_goals
          go_wp2
          go_roundw
          case rel => exact ⟨q, 4 + 1, l ++ (Lib.decDigits c ++ [109, 115]), vi (by omega), str_eq (cat3 l (Lib.decDigits c) [109, 115]), by go_num, HS.out, (hg.trans ((Gr.refl _).alloc _ _).drew).trans hg2⟩
          case measure => simp [intOf]
end Go.Proofs.YthjfmfacnknpfaaDoor
