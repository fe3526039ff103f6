/- decimal, Key, the reference's. -/
import Derived.Test.YtegbenbhiadnbaaDoorRefText
import Derived.Test.YtegbenbhiadnbaaDoorKey
namespace Go.Proofs.YtegbenbhiadnbaaDoor
open Go.RowKit Go.Sort
set_option maxRecDepth 100000
set_option maxHeartbeats 4000000

def dch (m : Nat) : UInt8 := UInt8.ofNat (48 + m % 10)
theorem conv1 (W : World) (m : Nat) : (convert 58 9 (.slice (some ⟨W.heap.size, 0, none⟩) 1 1)).run Tryd.prog (W.alloc (.cells #[.int .u8 (48 + (m : Int) % 10)] 5)) = .ok (.string ⟨#[dch m]⟩) (W.alloc (.cells #[.int .u8 (48 + (m : Int) % 10)] 5)) := by
  have h := run_convert_bytes_arg (P := Tryd.prog) (W.alloc (.cells #[.int .u8 (48 + (m : Int) % 10)] 5)) 58 5 Tryd.underlying58 Tryd.underlying5 W.heap.size 0 1 1 [48 + (m : Int) % 10] rfl (fun i hi => by
    obtain rfl : i = 0 := by omega
    go_simp) 9 Tryd.underlying9
  have e : ((48 + (m : Int) % 10)).toNat = 48 + m % 10 := by omega
  have e2 : strOfNums [48 + (m : Int) % 10] = ⟨#[dch m]⟩ := by simp [strOfNums, dch, e]
  rw [h, e2]

/-- what holds at the loop's head: m: what is left; l: what is told -/
def DecR (n m : Nat) (l : List UInt8) : Prop := Lib.decDigits n = if m < 10 then l else Lib.decDigits (m / 10) ++ l
theorem DecR.start (n : Nat) : DecR n n [dch n] := by
  unfold DecR dch
  rw [Lib.decDigits]
  by_cases h : n < 10
  · rw [dif_pos h, if_pos h, Nat.mod_eq_of_lt h]
  · rw [dif_neg h, if_neg h]
theorem DecR.step {n m : Nat} {l : List UInt8} (h : DecR n m l) (hm : ¬ m < 10) : DecR n (m / 10) (dch (m / 10) :: l) := by
  unfold DecR at *
  rw [h, if_neg hm, Lib.decDigits]
  unfold dch
  by_cases h2 : m / 10 < 10
  · rw [dif_pos h2, if_pos h2, Nat.mod_eq_of_lt h2]; rfl
  · rw [dif_neg h2, if_neg h2]; simp
theorem DecR.done {n m : Nat} {l : List UInt8} (h : DecR n m l) (hm : m < 10) : Lib.decDigits n = l := by
  unfold DecR at h; rw [h, if_pos hm]

theorem str_eq {a b : ByteArray} (h : a = b) : Value.string a = .string b := by rw [h]
theorem decimal_any (n : Nat) (w : World) (hn : n ≤ 1125899906842624) :
    Calls Tryd.prog 42 #[.int .i64 n] w fun e w' => e = .returned (.string ⟨(Lib.decDigits n).toArray⟩) ∧ Gr w w' := by
  have hcv := conv1
  have h0 := DecR.start n
  go_enter Tryd.func42, Tryd.ntmps42
  go_wp2
  go_loopw [0, 3] (fun d s wr => ∃ m : Nat, ∃ l : List UInt8, d = .int .i64 m ∧ s = .string ⟨l.toArray⟩ ∧ m ≤ n ∧ l.length + m ≤ n + 1 ∧ DecR n m l ∧ Gr w wr) (fun d _ _ => (intOf d).toNat)
  case atStart => exact ⟨n, [dch n], rfl, rfl, Nat.le_refl _, by simp; omega, h0, (Gr.refl _).alloc _ _⟩
  case round =>
    obtain ⟨m, l, rfl, rfl, hm, hlen, hr, hg⟩ := hrel
    have HR := Lib.hid hr
    clear hr h0
    by_cases h10 : m < 10
    · have hd := HR.out.done h10
      have HD := Lib.hid hd; clear hd
      have h11 : ¬ (10 : Int) ≤ m := by omega
      go_wp2
      go_ret
      exact ⟨by rw [HD.out]; rfl, hg⟩
    · obtain ⟨q, hq, hq2⟩ : ∃ q : Nat, m / 10 = q ∧ (m : Int) / 10 = (q : Int) := ⟨_, rfl, by omega⟩
      have hs := HR.out.step h10
      rw [hq] at hs
      have HS := Lib.hid hs; have HQ := Lib.hid hq
      clear hs hq
      have h11 : (10 : Int) ≤ m := by omega
      have h12 : ¬ 9223372036854775807 < 1 + l.length := by omega
      go_wp2
      go_roundw
      case rel => exact ⟨q, dch q :: l, rfl, str_eq (str_cat [dch q] l), by have := HQ.out; omega, by have := HQ.out; simp; omega, HS.out, hg.alloc _ _⟩
      case measure => have := HQ.out; simp [intOf]; omega

theorem rKey_any (A : Option Addr) (l : List Lb) (c : Nat) (w : World) (h : LabsAt w A l) (hl : l.length ≤ 549755813888) (hsz : szK l ≤ 137438953472) :
    Calls Tryd.prog 25 #[.slice A l.length c] w fun e w' => e = .returned (.string ⟨(keyL l).toArray⟩) ∧ Gr w w' := by
  have HL := Lib.hid h
  have hwd : ∀ x ∈ l, x.1.size ≤ 1099511627776 ∧ x.2.size ≤ 1099511627776 := by
    intro x hx
    obtain ⟨i, hi, rfl⟩ := List.getElem_of_mem hx
    have := szK_take hi
    omega
  have HW := Lib.hid hwd
  clear h hwd
  go_enter Tryd.func25, Tryd.ntmps25
  go_wp2
  go_loopw [3, 4] (fun v i wr => ∃ k : Nat, k ≤ l.length ∧ i = .int .i64 k ∧ v = .string ⟨(keyL (l.take k)).toArray⟩ ∧ Gr w wr) (fun _ i _ => l.length - (intOf i).toNat)
  case atStart => exact ⟨0, Nat.zero_le _, rfl, rfl, Gr.refl _⟩
  case round =>
    obtain ⟨k, hk, rfl, rfl, hg⟩ := hrel
    by_cases hlt : k < l.length
    · obtain ⟨b, o, rfl, c1, c2, -⟩ := (HL.out.gr hg).at_ hlt
      have hz := szK_take hlt
      have hkl := keyL_len (l.take k) fun y hy => HW.out y (List.mem_of_mem_take hy)
      obtain ⟨x, hx⟩ : ∃ x, l[k] = x := ⟨_, rfl⟩
      rw [hx] at c1 c2 hz
      have HS : Hid (keyL (l.take (k + 1)) = keyL (l.take k) ++ pieceK x.1.data.toList ++ pieceK x.2.data.toList) := Lib.hid (by rw [List.take_succ_eq_append_getElem hlt, hx, keyL_snoc])
      clear hx
      obtain ⟨p, q⟩ := x
      simp only at c1 c2 hz HS
      have f4 : (k : Int) < (l.length : Int) := by omega
      have f5 : (0 : Int) ≤ k := by omega
      have hd1 := dec_len p.size (by omega)
      have hd2 := dec_len q.size (by omega)
      obtain ⟨T, hT⟩ : ∃ T, keyL (l.take k) = T := ⟨_, rfl⟩
      rw [hT] at HS hkl ⊢
      clear hT
      have CD := Lib.hid (fun n (h : n ≤ 1125899906842624) => gq (W := wr) fun W' _ => decimal_any n W' h)
      have k1 := cell_regrown c1; have k2 := cell_regrown c2
      have hps : p.size ≤ 1125899906842624 := by omega
      have hqs : q.size ≤ 1125899906842624 := by omega
      have hE : (⟨T.toArray⟩ ++ ⟨(Lib.decDigits p.size).toArray⟩ ++ ⟨#[58]⟩ ++ p ++ ⟨(Lib.decDigits q.size).toArray⟩ ++ ⟨#[58]⟩ ++ q : ByteArray) = ⟨(keyL (l.take (k + 1))).toArray⟩ := by
        rw [HS.out]
        have e1 : p.data.toList.length = p.size := by simp
        have e2 : q.data.toList.length = q.size := by simp
        have f1 := str_eta p
        have f2 := str_eta q
        unfold pieceK
        rw [e1, e2]
        obtain ⟨D1, h1⟩ : ∃ D, Lib.decDigits p.size = D := ⟨_, rfl⟩
        obtain ⟨D2, h2⟩ : ∃ D, Lib.decDigits q.size = D := ⟨_, rfl⟩
        rw [h1, h2]
        clear h1 h2 e1 e2
        obtain ⟨P, hP⟩ : ∃ P, p.data.toList = P := ⟨_, rfl⟩
        obtain ⟨R, hR⟩ : ∃ R, q.data.toList = R := ⟨_, rfl⟩
        rw [hP] at f1 ⊢
        rw [hR] at f2 ⊢
        rw [f1, f2]
        show (⟨T.toArray⟩ ++ ⟨D1.toArray⟩ ++ ⟨[58].toArray⟩ ++ ⟨P.toArray⟩ ++ ⟨D2.toArray⟩ ++ ⟨[58].toArray⟩ ++ ⟨R.toArray⟩ : ByteArray) = _
        rw [str_cat, str_cat, str_cat, str_cat, str_cat, str_cat]
        simp
      have HE := Lib.hid hE
      clear hE
      obtain ⟨D1, h1⟩ : ∃ D, Lib.decDigits p.size = D := ⟨_, rfl⟩
      obtain ⟨D2, h2⟩ : ∃ D, Lib.decDigits q.size = D := ⟨_, rfl⟩
      rw [h1] at hd1 HE
      rw [h2] at hd2 HE
      have hz1 : ¬ 9223372036854775807 < T.length + D1.length := by omega
      have hz2 : ¬ 9223372036854775807 < T.length + D1.length + 1 := by omega
      have hz3 : ¬ 9223372036854775807 < T.length + D1.length + 1 + p.size := by omega
      have hz4 : ¬ 9223372036854775807 < T.length + D1.length + 1 + p.size + D2.length := by omega
      have hz5 : ¬ 9223372036854775807 < T.length + D1.length + 1 + p.size + D2.length + 1 := by omega
      have hz6 : ¬ 9223372036854775807 < T.length + D1.length + 1 + p.size + D2.length + 1 + q.size := by omega
      go_wp2_with fail
      refine wp_region_quiet_below (by kernel_rfl) (by kernel_rfl) ?_
      clear c1 c2
      repeat (quiet_step (exact CD.out _ (by assumption) _ _))
      refine wpQuiet_nil ?_
      intro _ hw'
      obtain ⟨⟨dq, osq⟩, hw''⟩ := hw'
      subst hw''
      have hg5 := hg.trans ⟨below_regrown wr dq osq⟩
      clear k1 k2 CD
      generalize Go.Sort.grow (redrawn wr dq) osq = w5 at *
      go_wp2
      go_roundw
      case rel => exact ⟨k + 1, by omega, by go_num, by rw [HE.out], hg5⟩
      case measure => simp [intOf]; omega
    · obtain rfl : k = l.length := by omega
      rw [List.take_length]
      go_wp2
      go_ret
      exact ⟨rfl, hg⟩
end Go.Proofs.YtegbenbhiadnbaaDoor
