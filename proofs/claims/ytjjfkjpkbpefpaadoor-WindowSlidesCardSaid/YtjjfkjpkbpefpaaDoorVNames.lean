/- Name, Named: the program's and the reference's. -/
import Derived.Test.YtjjfkjpkbpefpaaDoorVOut
namespace Go.Proofs.YtjjfkjpkbpefpaaDoor.Vn
open Go.RowKit
set_option maxRecDepth 100000
set_option maxHeartbeats 4000000

/-- the first function of a name, from k on -/
def findN (s : ByteArray) : Nat → Nat → Nat
  | 0, _ => 0
  | n + 1, k => if (nameS k).toList == s.toList then k else findN s n (k + 1)
def namedN (s : ByteArray) : Nat := findN s 14 1
theorem findN_s (s : ByteArray) (n k : Nat) : findN s (n + 1) k = if (nameS k).toList == s.toList then k else findN s n (k + 1) := rfl
theorem findN_0 (s : ByteArray) (k : Nat) : findN s 0 k = 0 := rfl
def nameOf (fn : Int) : ByteArray := if isFn fn then nameS fn.toNat else nameS 0
def namV (s : ByteArray) : Value := .tuple #[.int .i64 (namedN s), .bool (namedN s != 0)]
theorem Named_any (s : ByteArray) (w : World) (hf : FTab w) :
    Calls Tryd.prog 19 #[.string s] w fun e w' => e = .returned (namV s) ∧ w = w' := by
  have HF := Lib.hid hf.n
  have HV : Hid (namV s = .tuple #[.int .i64 (namedN s), .bool (namedN s != 0)]) := Lib.hid rfl
  clear hf
  go_enter Tryd.func19, Tryd.ntmps19
  go_wp2
  go_loopw [4] (fun i9 wr => ∃ k : Nat, 1 ≤ k ∧ k ≤ 15 ∧ i9 = .int .i64 k ∧ Hid (namedN s = findN s (15 - k) k) ∧ w = wr) (fun i9 _ => 15 - (intOf i9).toNat)
  case atStart => exact ⟨1, by omega, by omega, rfl, Lib.hid rfl, rfl⟩
  case round =>
    obtain ⟨k, h1, h2, rfl, HN, rfl⟩ := hrel
    by_cases hlt : k ≤ 14
    · have hc := HF.out k (by omega)
      have q1 : (k : Int) ≤ 14 := by omega
      have q2 : (0 : Int) ≤ (k : Int) := by omega
      have q3 : (k : Int) < 15 := by omega
      have HS : Hid (namedN s = if (nameS k).toList == s.toList then k else findN s (15 - (k + 1)) (k + 1)) := Lib.hid (by
        rw [HN.out]
        obtain ⟨d, hd⟩ : ∃ d, 15 - k = d + 1 := ⟨14 - k, by omega⟩
        rw [hd, show 15 - (k + 1) = d by omega]; rfl)
      obtain ⟨nm, hnm⟩ : ∃ nm, nameS k = nm := ⟨_, rfl⟩
      rw [hnm] at hc HS
      cases he : (nm.toList == s.toList)
      · rw [he] at HS
        clear hnm
        go_wp2
        go_roundw
        case rel => exact ⟨k + 1, by omega, by omega, by go_num, Lib.hid HS.out, trivial⟩
        case measure => simp [intOf]; omega
      · rw [he] at HS
        have HE : Hid (namV s = .tuple #[.int .i64 k, .bool true]) := Lib.hid (by
          have : namedN s = k := HS.out
          rw [HV.out, this, bne_iff_ne.2 (by omega : k ≠ 0)])
        clear hnm
        go_wp2
        go_ret2
        exact ⟨by rw [HE.out]; rfl, rfl⟩
    · obtain rfl : k = 15 := by omega
      have HE : Hid (namV s = .tuple #[.int .i64 0, .bool false]) := Lib.hid (by
        have : namedN s = 0 := HN.out
        rw [HV.out, this]; rfl)
      clear hlt
      go_wp2
      go_ret2
      exact ⟨by rw [HE.out]; rfl, rfl⟩
theorem Name_any (fn : Int) (w : World) (hf : FTab w) :
    Calls Tryd.prog 21 #[.int .i64 fn] w fun e w' => e = .returned (.string (nameOf fn)) ∧ w = w' := by
  have CI := Lib.hid (isFn_any fn w)
  cases hi : isFn fn
  · have HE : Hid (nameOf fn = nameS 0) := Lib.hid (by unfold nameOf; rw [hi]; rfl)
    rw [hi] at CI
    clear hi hf
    go_enter Tryd.func21, Tryd.ntmps21
    go_wp2_with (first | (go_at_call 26; refine CI.out.mono ?_; rintro e w' ⟨rfl, rfl⟩) | fail)
    go_ret
    exact ⟨by rw [HE.out]; rfl, rfl⟩
  · rw [hi] at CI
    have hk : 1 ≤ fn ∧ fn ≤ 14 := by simpa [isFn] using hi
    obtain ⟨k, rfl⟩ : ∃ k : Nat, fn = k := ⟨fn.toNat, by omega⟩
    have HE : Hid (nameOf k = nameS k) := Lib.hid (by unfold nameOf; rw [hi]; rfl)
    have hc := hf.n k (by omega)
    have q2 : (0 : Int) ≤ (k : Int) := by omega
    have q3 : (k : Int) < 15 := by omega
    obtain ⟨nm, hnm⟩ : ∃ nm, nameS k = nm := ⟨_, rfl⟩
    rw [hnm] at hc HE
    clear hi hf hnm hk
    go_enter Tryd.func21, Tryd.ntmps21
    go_wp2_with (first | (go_at_call 26; refine CI.out.mono ?_; rintro e w' ⟨rfl, rfl⟩) | fail)
    go_ret
    exact ⟨by rw [HE.out]; rfl, rfl⟩
def NamesPost (w : World) (e : Ending) (w' : World) : Prop := ∃ g, e = .returned (.slice (some ⟨g, 0, none⟩) 15 15) ∧ (∀ i, i < 15 → w'.cell? ⟨g, i, none⟩ = some (.string (nameS i))) ∧ Gr w w'
theorem names_any (w : World) :
    Calls Tryd.prog 39 #[] w (NamesPost w) := by
  go_enter Tryd.func39, Tryd.ntmps39
  go_wp2
  go_ret
  refine ⟨_, rfl, fun i hi => ?_, (Gr.refl _).alloc _ _⟩
  rw [World.cell?_alloc_at _ _ _ _ (by simp)]
  match i, hi with
  | 0, _ => rfl
  | 1, _ => rfl
  | 2, _ => rfl
  | 3, _ => rfl
  | 4, _ => rfl
  | 5, _ => rfl
  | 6, _ => rfl
  | 7, _ => rfl
  | 8, _ => rfl
  | 9, _ => rfl
  | 10, _ => rfl
  | 11, _ => rfl
  | 12, _ => rfl
  | 13, _ => rfl
  | 14, _ => rfl
theorem rNamed_any (s : ByteArray) (w : World) :
    Calls Tryd.prog 20 #[.string s] w fun e w' => e = .returned (namV s) ∧ Gr w w' := by
  have HV : Hid (namV s = .tuple #[.int .i64 (namedN s), .bool (namedN s != 0)]) := Lib.hid rfl
  have CN := Lib.hid (names_any w)
  unfold NamesPost at CN
  go_enter Tryd.func20, Tryd.ntmps20
  go_wp2_with fail
  refine CN.out.mono ?_
  rintro e w2 ⟨g, rfl, hcell, gr⟩
  have HF := Lib.hid hcell; have HG := Lib.hid gr
  clear hcell gr CN
  go_wp2_with fail
  go_loopw [5] (fun i9 wr => ∃ k : Nat, 1 ≤ k ∧ k ≤ 15 ∧ i9 = .int .i64 k ∧ Hid (namedN s = findN s (15 - k) k) ∧ w2 = wr) (fun i9 _ => 15 - (intOf i9).toNat)
  case atStart => exact ⟨1, by omega, by omega, rfl, Lib.hid rfl, rfl⟩
  case round =>
    obtain ⟨k, h1, h2, rfl, HN, rfl⟩ := hrel
    by_cases hlt : k ≤ 14
    · have hc := HF.out k (by omega)
      have q1 : (k : Int) ≤ 14 := by omega
      have q2 : (0 : Int) ≤ (k : Int) := by omega
      have q3 : (k : Int) < 15 := by omega
      have HS : Hid (namedN s = if (nameS k).toList == s.toList then k else findN s (15 - (k + 1)) (k + 1)) := Lib.hid (by
        rw [HN.out]
        obtain ⟨d, hd⟩ : ∃ d, 15 - k = d + 1 := ⟨14 - k, by omega⟩
        rw [hd, show 15 - (k + 1) = d by omega]; rfl)
      obtain ⟨nm, hnm⟩ : ∃ nm, nameS k = nm := ⟨_, rfl⟩
      rw [hnm] at hc HS
      cases he : (nm.toList == s.toList)
      · rw [he] at HS
        clear hnm
        go_wp2
        go_roundw
        case rel => exact ⟨k + 1, by omega, by omega, by go_num, Lib.hid HS.out, trivial⟩
        case measure => simp [intOf]; omega
      · rw [he] at HS
        have HE : Hid (namV s = .tuple #[.int .i64 k, .bool true]) := Lib.hid (by
          have : namedN s = k := HS.out
          rw [HV.out, this, bne_iff_ne.2 (by omega : k ≠ 0)])
        clear hnm
        go_wp2
        go_ret2
        exact ⟨by rw [HE.out]; rfl, HG.out⟩
    · obtain rfl : k = 15 := by omega
      have HE : Hid (namV s = .tuple #[.int .i64 0, .bool false]) := Lib.hid (by
        have : namedN s = 0 := HN.out
        rw [HV.out, this]; rfl)
      clear hlt
      go_wp2
      go_ret2
      exact ⟨by rw [HE.out]; rfl, HG.out⟩
theorem rName_any (fn : Int) (w : World) :
    Calls Tryd.prog 22 #[.int .i64 fn] w fun e w' => e = .returned (.string (nameOf fn)) ∧ Gr w w' := by
  have CN := Lib.hid (names_any w)
  unfold NamesPost at CN
  by_cases h1 : fn < 1
  · have HE : Hid (nameOf fn = nameS 0) := Lib.hid (by unfold nameOf isFn; rw [decide_eq_false (by omega : ¬ 1 ≤ fn)]; rfl)
    go_enter Tryd.func22, Tryd.ntmps22
    go_wp2
    go_ret
    exact ⟨by rw [HE.out]; rfl, Gr.refl _⟩
  · by_cases h2 : 14 < fn
    · have HE : Hid (nameOf fn = nameS 0) := Lib.hid (by unfold nameOf isFn; rw [decide_eq_false (by omega : ¬ fn ≤ 14), Bool.and_false]; rfl)
      go_enter Tryd.func22, Tryd.ntmps22
      go_wp2
      go_ret
      exact ⟨by rw [HE.out]; rfl, Gr.refl _⟩
    · obtain ⟨k, rfl⟩ : ∃ k : Nat, fn = k := ⟨fn.toNat, by omega⟩
      have HE : Hid (nameOf k = nameS k) := Lib.hid (by unfold nameOf isFn; rw [decide_eq_true (by omega : (1 : Int) ≤ k), decide_eq_true (by omega : (k : Int) ≤ 14)]; rfl)
      have q2 : (0 : Int) ≤ (k : Int) := by omega
      have q3 : (k : Int) < 15 := by omega
      obtain ⟨nm, hnm⟩ : ∃ nm, nameS k = nm := ⟨_, rfl⟩
      have HNM := Lib.hid hnm
      rw [hnm] at HE
      clear hnm
      go_enter Tryd.func22, Tryd.ntmps22
      go_wp2_with fail
      refine CN.out.mono ?_
      rintro e w2 ⟨g, rfl, hcell, gr⟩
      have hc := hcell k (by omega)
      rw [HNM.out] at hc
      have HG := Lib.hid gr
      clear hcell gr CN
      go_wp2
      go_ret
      exact ⟨by rw [HE.out]; rfl, HG.out⟩
theorem named_back (fn : Int) : (isFn fn = true ∧ (namedN (nameOf fn) : Int) = fn ∧ 1 ≤ namedN (nameOf fn) ∧ (nameOf fn).toList ≠ []) ∨ (isFn fn = false ∧ namedN (nameOf fn) = 0 ∧ (nameOf fn).toList = []) := by
  cases hi : isFn fn
  · right
    have e : nameOf fn = nameS 0 := by unfold nameOf; rw [hi]; rfl
    rw [e]
    exact ⟨rfl, by decide +kernel, by decide +kernel⟩
  · left
    have hk : 1 ≤ fn ∧ fn ≤ 14 := by simpa [isFn] using hi
    obtain ⟨k, rfl⟩ : ∃ k : Nat, fn = k := ⟨fn.toNat, by omega⟩
    have e : nameOf k = nameS k := by unfold nameOf; rw [hi]; rfl
    rw [e]
    have key : ∀ k : Nat, k < 15 → 1 ≤ k → namedN (nameS k) = k ∧ (nameS k).toList ≠ [] := by decide +kernel
    obtain ⟨k1, k2⟩ := key k (by omega) (by omega)
    rw [k1]
    exact ⟨rfl, rfl, by omega, k2⟩
end Go.Proofs.YtjjfkjpkbpefpaaDoor.Vn
