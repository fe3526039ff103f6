/- cut, what is cut read in an earlier world. -/
import Derived.Test.YtjjfkjpkbpefpaaDoorVSlJ
namespace Go.Proofs.YtjjfkjpkbpefpaaDoor.Vn
open Go.RowKit
set_option maxRecDepth 100000
set_option maxHeartbeats 4000000
def CutPost0 (w0 : World) (l : List Sm) (f t : Int) (w : World) (e : Ending) (w' : World) : Prop := Gr w w' ∧ ∃ A' c', e = .returned (.slice A' (cutL l f t).length c') ∧ (cutL l f t).length ≤ c' ∧ At2 encP w0 A' (cutL l f t)
theorem cut_any0 (A : Option Addr) (c : Nat) (l : List Sm) (f t : Int) (w0 w : World) (g0 : Gr w0 w) (h : At2 encP w0 A l) (ha : AscT l) (hl : l.length ≤ 1099511627776) (hc : l.length ≤ c) :
    Calls Tryd.prog 29 #[.slice A l.length c, .int .i64 f, .int .i64 t] w (CutPost0 w0 l f t w) := by
  have CF := Lib.hid (upTo_any A c l f w (h.gr g0) ha hl)
  have CT := Lib.hid (fun W (g : Gr w W) => upTo_any A c l t W (h.gr (g0.trans g)) ha hl)
  have H := Lib.hid h
  have hle1 := cntT_le l f
  have hle2 := cntT_le l t
  have HLEN := Lib.hid (cutL_len l f t)
  have HDEF : Hid (cutL l f t = (l.take (cntT l t)).drop (cntT l f)) := Lib.hid rfl
  obtain ⟨lo, hlo⟩ : ∃ n, cntT l f = n := ⟨_, rfl⟩
  obtain ⟨hi, hhi⟩ : ∃ n, cntT l t = n := ⟨_, rfl⟩
  rw [hlo] at CF hle1 HLEN HDEF
  rw [hhi] at CT hle2 HLEN HDEF
  have HPOST : Hid (∀ W A' c', Gr w W → At2 encP w0 A' (cutL l f t) → hi - lo ≤ c' → CutPost0 w0 l f t w (.returned (.slice A' (hi - lo) c')) W) := Lib.hid (fun W A' c' g hat hc' => ⟨g, A', c', by rw [HLEN.out], by rw [HLEN.out]; exact hc', hat⟩)
  clear h ha hlo hhi
  go_enter Tryd.func29, Tryd.ntmps29
  go_wp2_with fail
  refine CF.out.mono ?_
  rintro e w1 ⟨rfl, g1⟩
  go_wp2_with fail
  refine (CT.out _ g1).mono ?_
  rintro e w2 ⟨rfl, g2⟩
  have HG := Lib.hid (g1.trans g2)
  by_cases hlt : hi ≤ lo
  · have n1 : decide ((lo : Int) ≥ (hi : Int)) = true := decide_eq_true (by omega)
    have n1' : (hi : Int) ≤ (lo : Int) := by omega
    have hz : hi - lo = 0 := by omega
    have HE := Lib.hid (HPOST.out w2 none 0 HG.out (fun h0 => absurd h0 (by rw [HLEN.out]; omega)) (by omega))
    rw [hz] at HE
    clear hz
    go_wp2
    go_ret
    exact HE.out
  · obtain ⟨b, o, rfl, hcells⟩ := H.out (by omega)
    have n1' : ¬ (hi : Int) ≤ (lo : Int) := by omega
    have f1 : (0 : Int) ≤ (lo : Int) := by omega
    have f2 : (lo : Int) ≤ (hi : Int) := by omega
    have f3 : (hi : Int) ≤ (c : Int) := by omega
    have f4 : (hi : Int) ≤ (hi : Int) := by omega
    have f5 : (0 : Int) ≤ (hi : Int) := by omega
    have HOUT := Lib.hid (HPOST.out w2 (some ⟨b, o + lo * 2, none⟩) (c - lo) HG.out (fun _ => ⟨b, o + lo * 2, rfl, fun i x hx u v hu => by
      rw [HDEF.out, List.getElem?_drop] at hx
      have hx2 : l[lo + i]? = some x := by
        rw [List.getElem?_take] at hx
        split at hx
        · exact hx
        · cases hx
      obtain ⟨h1, h2⟩ := hcells _ x hx2 u v hu
      rw [show o + lo * 2 + i * 2 = o + (lo + i) * 2 by omega]
      exact ⟨h1, h2⟩⟩) (by omega))
    clear hcells
    go_wp2
    go_ret
    exact HOUT.out
end Go.Proofs.YtjjfkjpkbpefpaaDoor.Vn
