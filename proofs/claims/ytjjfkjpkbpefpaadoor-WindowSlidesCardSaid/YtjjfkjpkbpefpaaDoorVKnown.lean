/- What the laws ask of samples; what is known. -/
import Derived.Test.YtjjfkjpkbpefpaaDoorVFn
import Derived.Test.YtjjfkjpkbpefpaaDoorVNames
namespace Go.Proofs.YtjjfkjpkbpefpaaDoor.Vn
open Go.RowKit
set_option maxRecDepth 100000
set_option maxHeartbeats 4000000
attribute [local irreducible] wpQuiet

/-! ### rising samples -/
def okAt (l : List Sm) (i : Nat) : Bool := match l[i]? with
  | some q => !decide (q.1 < -1125899906842624) && !decide (1125899906842624 < q.1) && !(decide (0 < i) && (match l[i - 1]? with | some p => decide (q.1 ≤ p.1) | none => false))
  | none => true
def rightP (l : List Sm) : Prop := l.length ≤ 200 ∧ ∀ i, i < l.length → okAt l i = true
theorem okAt_eq {l : List Sm} {i : Nat} {q p : Sm} (h : l[i]? = some q) (hp : 0 < i → l[i - 1]? = some p) : okAt l i = (!decide (q.1 < -1125899906842624) && !decide (1125899906842624 < q.1) && !(decide (0 < i) && decide (q.1 ≤ p.1))) := by
  unfold okAt
  rw [h]
  by_cases h0 : 0 < i
  · rw [hp h0]
  · rw [decide_eq_false h0]; simp
theorem rightP.time {l : List Sm} (h : rightP l) {q : Sm} (hq : q ∈ l) : -1125899906842624 ≤ q.1 ∧ q.1 ≤ 1125899906842624 := by
  obtain ⟨i, hi, rfl⟩ := List.mem_iff_getElem.1 hq
  have h1 := h.2 i hi
  have hx := List.getElem?_eq_getElem hi
  unfold okAt at h1
  rw [hx] at h1
  simp only [Bool.and_eq_true, Bool.not_eq_true', decide_eq_false_iff_not] at h1
  omega
theorem rightP.next {l : List Sm} (h : rightP l) {i : Nat} (hi : i + 1 < l.length) : (l[i]'(by omega)).1 < (l[i + 1]).1 := by
  have h1 := h.2 (i + 1) hi
  rw [okAt_eq (List.getElem?_eq_getElem hi) (p := l[i]'(by omega)) (fun _ => List.getElem?_eq_getElem (by omega))] at h1
  simp only [Bool.and_eq_true, Bool.not_eq_true', decide_eq_false_iff_not, decide_eq_true_eq, Bool.and_eq_false_imp] at h1
  have := h1.2 (by omega)
  omega
theorem rightP.lt {l : List Sm} (h : rightP l) : ∀ (d i : Nat) (hj : i + 1 + d < l.length), (l[i]'(by omega)).1 < (l[i + 1 + d]).1
  | 0, i, hj => h.next hj
  | d + 1, i, hj => by
    have h1 := h.lt d i (by omega)
    have h2 := h.next (i := i + 1 + d) (by omega)
    exact Int.lt_trans h1 h2
theorem rightP.asc {l : List Sm} (h : rightP l) : AscT l := by
  unfold AscT
  rw [List.pairwise_iff_getElem]
  intro i j hi hj hij
  obtain ⟨d, rfl⟩ : ∃ d, j = i + 1 + d := ⟨j - i - 1, by omega⟩
  exact Int.le_of_lt (h.lt d i hj)
def RightPost (l : List Sm) (w : World) (e : Ending) (w' : World) : Prop := ∃ b : Bool, e = .returned (.bool b) ∧ (b = true ↔ rightP l) ∧ Gr w w'
theorem right_any (A : Option Addr) (c : Nat) (l : List Sm) (w : World) (h : At2 encP w A l) (hl : l.length ≤ maxLen) :
    Calls Tryd.prog 10 #[.slice A l.length c] w (RightPost l w) := by
  unfold maxLen at hl
  by_cases hm : 200 < l.length
  · have HE : Hid (RightPost l w (.returned (.bool false)) w) := Lib.hid ⟨false, rfl, by simp [rightP]; omega, Gr.refl _⟩
    have q1 : (200 : Int) < (l.length : Int) := by omega
    clear h
    go_enter Tryd.func10, Tryd.ntmps10
    go_wp2
    go_ret
    exact HE.out
  · have HAT := Lib.hid h
    have hlen : l.length ≤ 200 := by omega
    have HNO : Hid (∀ k W, Gr w W → k < l.length → okAt l k = false → RightPost l w (.returned (.bool false)) W) := Lib.hid fun k W g hk h1 => ⟨false, rfl, ⟨(fun h => by cases h), (fun h => by rw [h.2 k hk] at h1; exact absurd h1 (by decide))⟩, g⟩
    have HYES : Hid (∀ n, (∀ i, i < l.length → okAt l i = true) → RightPost l w (.returned (.bool true)) (w.drewN n)) := Lib.hid fun n h1 => ⟨true, rfl, by simp [rightP]; exact ⟨hlen, h1⟩, (Gr.refl _).drewN _⟩
    clear h hl
    go_enter Tryd.func10, Tryd.ntmps10
    go_wp2
    go_loopw [3] (fun i9 wr => ∃ k : Nat, k ≤ l.length ∧ i9 = .int .i64 k ∧ Hid (∀ i, i < k → okAt l i = true) ∧ ∃ n, wr = w.drewN n) (fun i9 _ => l.length - (intOf i9).toNat)
    case atStart => exact ⟨0, Nat.zero_le _, rfl, Lib.hid (fun i hi => absurd hi (by omega)), 0, rfl⟩
    case round =>
      obtain ⟨k, hk, rfl, HI, n, rfl⟩ := hrel
      by_cases hlt : k < l.length
      · obtain ⟨q, hq⟩ : ∃ q, l[k]? = some q := ⟨_, List.getElem?_eq_getElem hlt⟩
        obtain ⟨p, hp⟩ : ∃ p, 0 < k → l[k - 1]? = some p := by
          by_cases h0 : 0 < k
          · exact ⟨_, fun _ => List.getElem?_eq_getElem (show k - 1 < l.length by omega)⟩
          · exact ⟨(0, 0), fun h => absurd h h0⟩
        obtain ⟨b, o, rfl, hcells⟩ := HAT.out (by omega)
        obtain ⟨d1, -⟩ := hcells k q hq _ _ rfl
        have HOK := Lib.hid (okAt_eq hq hp)
        have HN2 : Hid (okAt l k = true → ∀ i, i < k + 1 → okAt l i = true) := Lib.hid fun h1 i hi => by
          rcases Nat.lt_or_ge i k with g | g
          · exact HI.out i g
          · have : i = k := by omega
            subst this; exact h1
        have HNK := Lib.hid (fun W g h => HNO.out k W g hlt h)
        obtain ⟨qt, qv⟩ := q
        obtain ⟨pt, pv⟩ := p
        simp only at d1 HOK
        have m1 : (k : Int) < (l.length : Int) := by omega
        have m2 : (0 : Int) ≤ (k : Int) := by omega
        have hd2 : 0 < k → w.cell? ⟨b, o + (k - 1) * 2, none⟩ = some (.int .i64 pt) := fun h0 => (hcells _ _ (hp h0) _ _ rfl).1
        clear hq hcells
        cases t1 : decide (qt < -1125899906842624)
        case true =>
          have HF := Lib.hid (fun W g => HNK.out W g (by rw [HOK.out, t1]; rfl))
          clear hd2 hp
          go_wp2
          go_quiet (fail)
          go_wp2
          go_ret
          exact HF.out _ (by first | exact ((Gr.refl _).drewN _).drewN _ | exact (Gr.refl _).drewN _)
        cases t2 : decide (1125899906842624 < qt)
        case true =>
          have HF := Lib.hid (fun W g => HNK.out W g (by rw [HOK.out, t1, t2]; rfl))
          have t2' : decide (qt > 1125899906842624) = true := t2
          clear hd2 hp
          go_wp2
          go_quiet (fail)
          go_wp2
          go_ret
          exact HF.out _ (by first | exact ((Gr.refl _).drewN _).drewN _ | exact (Gr.refl _).drewN _)
        have t2' : decide (qt > 1125899906842624) = false := t2
        cases t3 : decide (0 < k)
        case false =>
          have hz : k = 0 := by have := of_decide_eq_false t3; omega
          have HT := Lib.hid (HN2.out (by rw [HOK.out, t1, t2, t3]; rfl))
          have n7 : decide ((k : Int) > 0) = false := decide_eq_false (by omega)
          have n8 : decide ((0 : Int) < (k : Int)) = false := decide_eq_false (by omega)
          clear hd2 hp hz
          go_wp2
          go_quiet (fail)
          go_wp2
          go_roundw
          case rel => exact ⟨k + 1, by omega, by go_num, Lib.hid HT.out, _, rfl⟩
          case measure => simp [intOf]; omega
        have k0 := of_decide_eq_true t3
        have d2 := hd2 k0
        obtain ⟨j, rfl⟩ : ∃ j, k = j + 1 := ⟨k - 1, by omega⟩
        simp only [Nat.add_sub_cancel] at d2
        have e1 : ((j + 1 : Nat) : Int) = (j : Int) + 1 := by omega
        rw [e1] at m1 m2 ⊢
        have w3 : IntKind.i64.wrap (j : Int) = (j : Int) := by rw [IntKind.wrap_i64]; omega
        have n5 : (0 : Int) ≤ (j : Int) := by omega
        have n6 : (j : Int) < (l.length : Int) := by omega
        have n7 : decide ((j : Int) + 1 > 0) = true := decide_eq_true (by omega)
        have n8 : decide ((0 : Int) < (j : Int) + 1) = true := decide_eq_true (by omega)
        cases t4 : decide (qt ≤ pt)
        case true =>
          have HF := Lib.hid (fun W g => HNK.out W g (by rw [HOK.out, t1, t2, t3, t4]; rfl))
          have t4' : decide (pt ≥ qt) = true := t4
          clear hd2 hp e1
          go_wp2
          go_quiet (fail)
          go_wp2
          go_ret
          exact HF.out _ (by first | exact ((Gr.refl _).drewN _).drewN _ | exact (Gr.refl _).drewN _)
        case false =>
          have HT := Lib.hid (HN2.out (by rw [HOK.out, t1, t2, t3, t4]; rfl))
          have t4' : decide (pt ≥ qt) = false := t4
          clear hd2 hp e1
          go_wp2
          go_quiet (fail)
          go_wp2
          go_roundw
          case rel => exact ⟨j + 2, by omega, by go_num, Lib.hid HT.out, _, rfl⟩
          case measure => simp [intOf]; omega
      · obtain rfl : k = l.length := by omega
        have HE := Lib.hid (fun n => HYES.out n HI.out)
        have n3 : ¬ (l.length : Int) < (l.length : Int) := by omega
        go_wp2
        go_ret
        exact HE.out _
def inT (t : Int) : Bool := decide (-2251799813685248 ≤ t) && decide (t ≤ 2251799813685248)
theorem in_any (t : Int) (w : World) :
    Calls Tryd.prog 11 #[.int .i64 t] w fun e w' => e = .returned (.bool (inT t)) ∧ w = w' := by
  have H2 : Hid (inT t = (decide (-2251799813685248 ≤ t) && decide (t ≤ 2251799813685248))) := Lib.hid rfl
  cases ha : decide (-2251799813685248 ≤ t) <;> cases hb : decide (t ≤ 2251799813685248)
  all_goals
    go_enter Tryd.func11, Tryd.ntmps11
    go_wp2
    go_ret
    exact ⟨by rw [H2.out, ha, hb]; rfl, rfl⟩
end Go.Proofs.YtjjfkjpkbpefpaaDoor.Vn
