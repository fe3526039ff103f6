/- The reference's Cut. -/
import Derived.Test.YtjjfkjpkbpefpaaDoorVRef
import Derived.Test.YtjjfkjpkbpefpaaDoorVCut
namespace Go.Proofs.YtjjfkjpkbpefpaaDoor.Vn
open Go.RowKit
set_option maxRecDepth 100000
set_option maxHeartbeats 4000000

def RCutPost (l : List Sm) (w : World) (e : Ending) (w' : World) : Prop := Gr w w' ∧ ∃ A c, e = .returned (.slice A l.length c) ∧ At2 encP w' A l ∧ l.length ≤ c
theorem rcut_any (A : Option Addr) (c : Nat) (l : List Sm) (f t : Int) (w : World) (h : At2 encP w A l) (hl : l.length ≤ 1000000) :
    Calls Tryd.prog 17 #[.slice A l.length c, .int .i64 f, .int .i64 t] w (RCutPost (strL l f t) w) := by
  have HAT := Lib.hid h
  clear h
  go_enter Tryd.func17, Tryd.ntmps17
  go_wp2_with fail
  go_loopw [7, 8] (fun v9 i9 wr => ∃ k : Nat, k ≤ l.length ∧ i9 = .int .i64 k ∧ Hid (OwnP wr w.heap.size v9 (strL (l.take k) f t)) ∧ Hid (Gr w wr)) (fun _ i9 _ => l.length - (intOf i9).toNat)
  case atStart => exact ⟨0, Nat.zero_le _, rfl, Lib.hid (by simpa [strL] using Own2.nil _ _), Lib.hid (Gr.refl _)⟩
  case round =>
    obtain ⟨k, hk, rfl, HO, HG⟩ := hrel
    by_cases hlt : k < l.length
    · obtain ⟨q, hq⟩ : ∃ q, l[k]? = some q := ⟨_, List.getElem?_eq_getElem hlt⟩
      obtain ⟨b, o, rfl, hcells⟩ := (HAT.out.gr HG.out) (by omega)
      obtain ⟨e1, e2⟩ := hcells k q hq _ _ rfl
      have HLS := Lib.hid (strL_s (f := f) (t := t) hq)
      have hk1 : (strL (l.take k) f t).length ≤ 1000000 := by
        have h1 := strL_len (l.take k) f t
        simp at h1
        omega
      obtain ⟨qt, qv⟩ := q
      simp only at e1 e2 HLS
      have m1 : (k : Int) < (l.length : Int) := by omega
      have m2 : (0 : Int) ≤ (k : Int) := by omega
      have HSTR : Hid (strP f t (qt, qv) = (decide (f < qt) && decide (qt ≤ t))) := Lib.hid rfl
      clear hq hcells
      have HSKIP : Hid (strP f t (qt, qv) = false → OwnP wr w.heap.size u7 (strL (l.take (k + 1)) f t)) := Lib.hid (fun e => by
        rw [HLS.out, e]
        simpa using HO.out)
      by_cases hf : f < qt
      case neg =>
        have p1 : decide (f < qt) = false := decide_eq_false hf
        have p2 : decide (qt > f) = false := decide_eq_false hf
        have HE := Lib.hid (HSKIP.out (by rw [HSTR.out, p1]; rfl))
        clear hf
        go_wp2_with fail
        go_roundw
        case rel => exact ⟨k + 1, by omega, by go_num, HE, HG⟩
        case measure => simp [intOf]; omega
      have p1 : decide (f < qt) = true := decide_eq_true hf
      have p2 : decide (qt > f) = true := decide_eq_true hf
      by_cases htt : qt ≤ t
      case neg =>
        have p3 : decide (qt ≤ t) = false := decide_eq_false htt
        have HE := Lib.hid (HSKIP.out (by rw [HSTR.out, p1, p3]; rfl))
        clear hf htt
        go_wp2_with fail
        go_roundw
        case rel => exact ⟨k + 1, by omega, by go_num, HE, HG⟩
        case measure => simp [intOf]; omega
      have p3 : decide (qt ≤ t) = true := decide_eq_true htt
      have HY : Hid (strP f t (qt, qv) = true) := Lib.hid (by rw [HSTR.out, p1, p3]; rfl)
      clear hf htt
      have HO4 := Lib.hid (Own2.gr HO.out ((Gr.refl wr).alloc #[.int .i64 qt, .float .f64 qv] 34))
      have HG4 := Lib.hid (HG.out.trans ((Gr.refl wr).alloc #[.int .i64 qt, .float .f64 qv] 34))
      go_wp2_with (first
        | (at_builtin
           refine wpList_app2 rfl (.tmp 31) (.tmp 36) (by rfl) (by rfl) (by rfl) (by rfl) (run_appP (c := 1) (m := [(qt, qv)]) HO4.out (at2_one (enc := encP) _ (qt, qv) _ _ rfl _) (by simp; omega) HG4.out.size) ?_
           rintro v5 w5 ⟨ho5, hg5, -⟩
           have HO5 : Hid (OwnP w5 w.heap.size v5 (strL (l.take (k + 1)) f t)) := Lib.hid (by rw [HLS.out, HY.out]; exact ho5)
           have HG5 : Hid (Gr w w5) := Lib.hid (HG4.out.grown hg5 (fun k hk => (HO.out.lt hk).1))
           clear ho5 hg5)
        | fail)
      go_roundw
      case rel => exact ⟨k + 1, by omega, by go_num, HO5, HG5⟩
      case measure => simp [intOf]; omega
    · obtain rfl : k = l.length := by omega
      have HE : Hid (RCutPost (strL l f t) w (.returned u7) wr) := Lib.hid (by
        have := HO.out
        rw [List.take_length] at this
        obtain ⟨A', c', e', hat, hc, -⟩ := this.form (fun _ => rfl)
        exact ⟨HG.out, A', c', by rw [e'], hat, hc⟩)
      have m3 : ¬ (l.length : Int) < (l.length : Int) := by omega
      clear HO
      go_wp2
      go_ret
      exact HE.out
end Go.Proofs.YtjjfkjpkbpefpaaDoor.Vn
