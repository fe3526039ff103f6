/- Samples of a stretch: clones, sort.Search, cut. -/
import Derived.Test.YtjjfkjpkbpefpaaDoorVBase
import Derived.Test.YtjjfkjpkbpefpaaDoorShelf
import Derived.Deep.Cut
import Derived.Deep.CutBlock
import Derived.Deep.CutRange
namespace Go.Proofs.YtjjfkjpkbpefpaaDoor.Vn
open Go.RowKit Go.Sort
set_option maxRecDepth 100000
set_option maxHeartbeats 4000000

/-- so many draws, these blocks behind -/
def Gn (w w' : World) : Prop := ∃ q os', w' = grow (w.drewN q) os'
theorem Gn.gr {w w' : World} (h : Gn w w') : Gr w w' := by
  obtain ⟨q, os, rfl⟩ := h
  exact ⟨⟨rfl, rfl, rfl, by simp [grow], fun i hi => by
    show (w.heap ++ os)[i]? = w.heap[i]?
    rw [Array.getElem?_append_left hi]⟩⟩
theorem pflat_one (l : List Sm) : ∀ u ∈ l.flatMap encP, u.oneCell' = true := fun u hu => by
  obtain ⟨x, -, hx⟩ := List.mem_flatMap.1 hu
  simp [encP] at hx
  rcases hx with rfl | rfl <;> rfl
theorem pflat_at {W : World} {A : Option Addr} {l : List Sm} (h : At2 encP W A l) (h0 : 0 < l.length) : ∃ b o, A = some ⟨b, o, none⟩ ∧ ∀ j u, (l.flatMap encP)[j]? = some u → W.cell? ⟨b, o + j, none⟩ = some u := by
  obtain ⟨b, o, e, hc⟩ := h h0
  refine ⟨b, o, e, fun j u hu => ?_⟩
  have hj : j < l.length * 2 := by have := (List.getElem?_eq_some_iff.1 hu).1; rwa [flat2_len encP (fun _ => rfl)] at this
  have hi : j / 2 < l.length := by omega
  have hx := List.getElem?_eq_getElem hi
  obtain ⟨g1, g2⟩ := flat2_get encP (fun _ => rfl) l _ _ hx
  obtain ⟨c1, c2⟩ := hc _ _ hx _ _ rfl
  rcases Nat.mod_two_eq_zero_or_one j with e | e
  · have e2 : j / 2 * 2 = j := by omega
    rw [e2] at c1 g1
    rw [hu] at g1; cases g1; exact c1
  · have e2 : j / 2 * 2 + 1 = j := by omega
    rw [Nat.add_assoc, e2] at c2
    rw [e2] at g2
    rw [hu] at g2; cases g2; exact c2
theorem pclone_any (A : Option Addr) (c : Nat) (l : List Sm) (w : World) (h : At2 encP w A l) (h0 : 0 < l.length) (hl : l.length ≤ 1099511627776) :
    Calls Tryd.prog 38 #[.slice A l.length c] w fun e w' => ∃ A' c', e = .returned (.slice A' l.length c') ∧ At2 encP w' A' l ∧ l.length ≤ c' ∧ Gr w w' := by
  obtain ⟨b, o, rfl, hat⟩ := pflat_at h h0
  obtain ⟨i0, hi, hz0, hz1, hz2⟩ := info_parts smp_info
  have hcon := AnyE.slices_Clone Tryd.cloneP i0 (.agg #[.int .i64 0, .float .f64 0]) 2 16 hi hz0 hz1 hz2 rfl (by omega) Tryd.sizeOf34 b o l.length c (l.flatMap encP) w (flat2_len encP (fun _ => rfl) l) (by unfold maxLen; omega) (by omega) hat (pflat_one l)
  change Calls Tryd.prog 38 _ _ _ at hcon
  refine hcon.mono fun e w' ⟨v', he, hown, _, hb⟩ => ?_
  have ho : OwnP w' w.heap.size v' l := hown
  obtain ⟨A', c', rfl, hat', hc', -⟩ := ho.form (fun _ => rfl)
  exact ⟨A', c', he, hat', hc', ⟨hb⟩⟩
theorem upTo1_any (W : World) (ba bt : Nat) (b o c : Nat) (l : List Sm) (t : Int) (k : Nat) (hk : k < l.length) (ha : W.cell? ⟨ba, 0, none⟩ = some (.slice (some ⟨b, o, none⟩) l.length c)) (ht : W.cell? ⟨bt, 0, none⟩ = some (.int .i64 t)) (hc : W.cell? ⟨b, o + k * 2, none⟩ = some (.int .i64 ((l[k]?).getD (0, 0)).1)) :
    Calls Tryd.prog 67 #[.int .i64 k, .pointer (some ⟨ba, 0, none⟩), .pointer (some ⟨bt, 0, none⟩)] W fun e w' => e = .returned (.bool (decide (t < ((l[k]?).getD (0, 0)).1))) ∧ ∃ q, w' = W.drewN q := by
  obtain ⟨x, hx⟩ : ∃ x, ((l[k]?).getD (0, 0)).1 = x := ⟨_, rfl⟩
  rw [hx] at hc ⊢
  have n1 : (k : Int) < (l.length : Int) := by omega
  have n2 : (0 : Int) ≤ (k : Int) := by omega
  clear hx hk
  go_enter Tryd.func67, Tryd.ntmps67
  go_wp2_with fail
  go_quiet (fail)
  go_wp2
  go_ret
  exact ⟨by first | rfl | simp, _, rfl⟩
theorem upTo_any (A : Option Addr) (c : Nat) (l : List Sm) (t : Int) (w : World) (h : At2 encP w A l) (ha : AscT l) (hl : l.length ≤ 1099511627776) :
    Calls Tryd.prog 57 #[.slice A l.length c, .int .i64 t] w fun e w' => e = .returned (.int .i64 (cntT l t)) ∧ Gr w w' := by
  have eg : ∀ args w, (callFunc 67 args).run Tryd.prog w = .ok (.enter 67 args) w := enters_of Tryd.func67 (by kernel_rfl) rfl
  have hmf : ∀ (fn : Fn) (first cap : Array Value) (w : World), (Instr.makeFunc fn first cap).run Tryd.prog w = .ok (.func fn first cap) w := fun _ _ _ _ => rfl
  obtain ⟨W1, hW1, g1, hb1⟩ := fresh w #[.slice A l.length c] 22
  obtain ⟨W2, hW2, g2, hb2⟩ := fresh W1 #[.int .i64 t] 3
  have a1 := hb1 0 (.slice A l.length c) rfl
  have t2 := hb2 0 (.int .i64 t) rfl
  have a2 := g2.cell a1
  have hs1 : W1.heap.size = w.heap.size + 1 := by rw [← hW1]; simp
  have hmono : ∀ a b, a ≤ b → b < l.length → decide (t < ((l[a]?).getD (0, 0)).1) = true → decide (t < ((l[b]?).getD (0, 0)).1) = true := fun a b hab hb hp => by
    have e1 : l[a]? = some l[a] := List.getElem?_eq_getElem (by omega)
    have e2 : l[b]? = some l[b] := List.getElem?_eq_getElem hb
    rw [e1] at hp
    rw [e2]
    simp only [Option.getD_some, decide_eq_true_eq] at hp ⊢
    rcases Nat.lt_or_ge a b with hlt | hge
    · have := List.pairwise_iff_getElem.1 ha a b (by omega) hb hlt
      omega
    · have : a = b := by omega
      subst this; exact hp
  have CS := Lib.hid (Any.sort_Search Tryd.searchI 67 #[.pointer (some ⟨w.heap.size, 0, none⟩), .pointer (some ⟨W1.heap.size, 0, none⟩)] l.length (fun i => decide (t < ((l[i]?).getD (0, 0)).1)) W2 eg (by omega) (fun m os i hi => by
    obtain ⟨b, o, rfl, hcells⟩ := (h.gr (g1.trans g2)) (by omega)
    have hx := List.getElem?_eq_getElem hi
    obtain ⟨d1, -⟩ := hcells i _ hx _ _ rfl
    have gG : Gr W2 (grow (W2.drewN m) os) := Gn.gr ⟨m, os, rfl⟩
    refine (upTo1_any _ w.heap.size W1.heap.size b o c l t i hi (gG.cell a2) (gG.cell t2) (by rw [hx]; exact gG.cell d1)).mono ?_
    rintro e w' ⟨rfl, q, rfl⟩
    exact ⟨rfl, q, #[], by rw [grow_empty]⟩) hmono)
  have HCS : Hid (Calls Tryd.prog 66 #[.int .i64 l.length, .func (.func 67) #[] #[.pointer (some ⟨w.heap.size, 0, none⟩), .pointer (some ⟨w.heap.size + 1, 0, none⟩)]] W2 fun e w' => e = .returned (.int .i64 (cntT l t)) ∧ Gr W2 w') := Lib.hid (by
    have := CS.out
    rw [cnt_range, hs1] at this
    exact this.mono fun e w' ⟨h1, q, os, h2⟩ => ⟨h1, Gn.gr ⟨q, os, h2⟩⟩)
  have HW1 := Lib.hid hW1; have HW2 := Lib.hid hW2; have HG := Lib.hid (g1.trans g2)
  clear CS hmono eg h ha hW1 hW2 g1 g2 hb1 hb2 a1 t2 hs1
  go_enter Tryd.func57, Tryd.ntmps57
  go_upto_region 1 with fail
  rw [HW1.out, HW2.out]
  go_wp2_with fail
  refine HCS.out.mono ?_
  rintro e w3 ⟨rfl, g3⟩
  go_wp2
  go_ret
  exact ⟨rfl, HG.out.trans g3⟩
def CutPost (l : List Sm) (f t : Int) (w : World) (e : Ending) (w' : World) : Prop := Gr w w' ∧ ∃ A' c', e = .returned (.slice A' (cutL l f t).length c') ∧ At2 encP w' A' (cutL l f t) ∧ (cutL l f t).length ≤ c' ∧ At2 encP w A' (cutL l f t)
theorem cut_any (A : Option Addr) (c : Nat) (l : List Sm) (f t : Int) (w : World) (h : At2 encP w A l) (ha : AscT l) (hl : l.length ≤ 1099511627776) (hc : l.length ≤ c) :
    Calls Tryd.prog 29 #[.slice A l.length c, .int .i64 f, .int .i64 t] w (CutPost l f t w) := by
  have CF := Lib.hid (upTo_any A c l f w h ha hl)
  have CT := Lib.hid (fun W (g : Gr w W) => upTo_any A c l t W (h.gr g) ha hl)
  have H := Lib.hid h
  have hle1 := cntT_le l f
  have hle2 := cntT_le l t
  have HLEN := Lib.hid (cutL_len l f t)
  have HDEF : Hid (cutL l f t = (l.take (cntT l t)).drop (cntT l f)) := Lib.hid rfl
  obtain ⟨lo, hlo⟩ : ∃ n, cntT l f = n := ⟨_, rfl⟩
  obtain ⟨hi, hhi⟩ : ∃ n, cntT l t = n := ⟨_, rfl⟩
  rw [hlo] at CF hle1 HLEN HDEF
  rw [hhi] at CT hle2 HLEN HDEF
  have HPOST : Hid (∀ W A' c', Gr w W → At2 encP w A' (cutL l f t) → hi - lo ≤ c' → CutPost l f t w (.returned (.slice A' (hi - lo) c')) W) := Lib.hid (fun W A' c' g hat hc' => ⟨g, A', c', by rw [HLEN.out], hat.gr g, by rw [HLEN.out]; exact hc', hat⟩)
  clear h ha hlo hhi
  go_enter Tryd.func29, Tryd.ntmps29
  go_wp2_with fail
  refine CF.out.mono ?_
  rintro e w1 ⟨rfl, g1⟩
  go_wp2_with fail
  refine (CT.out _ g1).mono ?_
  rintro e w2 ⟨rfl, g2⟩
  have HG := Lib.hid (g1.trans g2)
  by_cases hlt : hi ≤ lo
  · have n1 : decide ((lo : Int) ≥ (hi : Int)) = true := decide_eq_true (by omega)
    have n1' : (hi : Int) ≤ (lo : Int) := by omega
    have hz : hi - lo = 0 := by omega
    have HE := Lib.hid (HPOST.out w2 none 0 HG.out (fun h0 => absurd h0 (by rw [HLEN.out]; omega)) (by omega))
    rw [hz] at HE
    clear hz
    go_wp2
    go_ret
    exact HE.out
  · obtain ⟨b, o, rfl, hcells⟩ := H.out (by omega)
    have n1' : ¬ (hi : Int) ≤ (lo : Int) := by omega
    have f1 : (0 : Int) ≤ (lo : Int) := by omega
    have f2 : (lo : Int) ≤ (hi : Int) := by omega
    have f3 : (hi : Int) ≤ (c : Int) := by omega
    have f4 : (hi : Int) ≤ (hi : Int) := by omega
    have f5 : (0 : Int) ≤ (hi : Int) := by omega
    have HOUT := Lib.hid (HPOST.out w2 (some ⟨b, o + lo * 2, none⟩) (c - lo) HG.out (fun _ => ⟨b, o + lo * 2, rfl, fun i x hx u v hu => by
      rw [HDEF.out, List.getElem?_drop] at hx
      have hx2 : l[lo + i]? = some x := by
        rw [List.getElem?_take] at hx
        split at hx
        · exact hx
        · cases hx
      obtain ⟨h1, h2⟩ := hcells _ x hx2 u v hu
      rw [show o + lo * 2 + i * 2 = o + (lo + i) * 2 by omega]
      exact ⟨h1, h2⟩⟩) (by omega))
    clear hcells
    go_wp2
    go_ret
    exact HOUT.out
end Go.Proofs.YtjjfkjpkbpefpaaDoor.Vn
