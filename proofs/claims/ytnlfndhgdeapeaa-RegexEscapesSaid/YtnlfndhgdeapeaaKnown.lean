/- What Compile answers, as a pattern that Match may be asked of. -/
import Derived.Test.YtnlfndhgdeapeaaFit
import Derived.Test.YtnlfndhgdeapeaaCompile
import Derived.Test.YtnlfndhgdeapeaaMatch
import Derived.Test.YtnlfndhgdeapeaaEsc
namespace Go.Proofs.Ytnlfndhgdeapeaa
open Go.RowKit
set_option maxRecDepth 100000
set_option maxHeartbeats 2000000

/-- a pattern that was compiled -/
structure Pat (W : World) (P : Nat) (n : Nd) : Prop where
  p : ProgAt W P (buildS n)
  w : Wf n
  t : wt n ≤ 4096
theorem Pat.gr {W W' : World} {P : Nat} {n : Nd} (h : Pat W P n) (k : Gr W W') : Pat W' P n := ⟨h.p.gr k, h.w, h.t⟩
/-- does the pattern match? -/
def hits (n : Nd) (b : List UInt8) : Bool := matchS (buildS n) b
theorem hits_iff {n : Nd} (hw : Wf n) (b : List UInt8) : hits n b = true ↔ Lg n b := match_lang hw b
theorem pat_match {P : Nat} {n : Nd} {w : World} (h : Pat w P n) (b : ByteArray) (hb : b.size ≤ 1000000000000) :
    Calls Try.prog 12 #[.pointer (some ⟨P, 0, none⟩), .string b] w fun e w' => e = .returned (.bool (hits n b.data.toList)) ∧ Gr w w' :=
  match_any P (buildS n) b w h.p (build_fit n).1 (build_fit n).2 (by have := build_len h.w; have := h.t; omega) hb
/-- the tree of a pattern; or the place and the error -/
def treeS (s : List UInt8) : Nd ⊕ (Nat × Nat) :=
  if 4096 < s.length then .inr (0, 6)
  else match tdS s 0 0 false with
    | some k => .inr (k, 6)
    | none => if (readS s).1 && decide (s.length ≤ (readS s).2.2) then .inl (readS s).2.1 else .inr ((readS s).2.2, 2)
theorem treeS_comp (s : List UInt8) : compS s = match treeS s with | .inl n => .inl (buildS n) | .inr x => .inr x := by
  unfold compS treeS
  split
  · rfl
  · cases tdS s 0 0 false with
    | some k => rfl
    | none =>
      simp only
      split <;> rfl
theorem treeS_ok {s : List UInt8} {n : Nd} (h : treeS s = .inl n) : Wf n ∧ wt n ≤ 4096 ∧ readS s = (true, n, s.length) := by
  unfold treeS at h
  split at h
  · cases h
  rename_i hl
  cases htd : tdS s 0 0 false with
  | some k => rw [htd] at h; cases h
  | none =>
    rw [htd] at h
    simp only at h
    split at h
    · rename_i hr
      simp only [Bool.and_eq_true, decide_eq_true_eq] at hr
      have hle := (patS_le s (s.length + 1) 0 (Nat.zero_le _)).1
      have ho := pat_ok s (s.length + 1) 0 (Nat.zero_le _) hr.1
      have hrm := pat_room (s := s) (d := s.length + 1) (k := 0) (by omega) (Nat.zero_le _) hr.1
      have ht := ho.t
      obtain rfl := Sum.inl.inj h
      unfold readS at hr ⊢
      refine ⟨hrm.1, by omega, ?_⟩
      obtain ⟨r, e⟩ : ∃ r, patS s (s.length + 1) 0 = r := ⟨_, rfl⟩
      rw [e] at hr hle ⊢
      obtain ⟨a, b, c⟩ := r
      simp only at hr hle ⊢
      obtain rfl : c = s.length := by omega
      rw [hr.1]
    · cases h
theorem treeS_inl {s : List UInt8} {n : Nd} (hl : s.length ≤ 4096) (ht : tdS s 0 0 false = none) (hr : readS s = (true, n, s.length)) : treeS s = .inl n := by
  unfold treeS
  rw [if_neg (by omega), ht, hr]
  simp
def TreePost (r : Nd ⊕ (Nat × Nat)) (w : World) (e : Ending) (w' : World) : Prop :=
  Gr w w' ∧ match r with
  | .inl n => ∃ P, e = .returned (.tuple #[.pointer (some ⟨P, 0, none⟩), .int .i64 0, .int .i64 0]) ∧ Pat w' P n
  | .inr (k, c) => e = .returned (.tuple #[.pointer none, .int .i64 k, .int .i64 c])
theorem tree_any (s : ByteArray) (hs : s.size ≤ 1000000) (w : World) : Calls Try.prog 8 #[.string s] w (TreePost (treeS s.data.toList) w) := by
  refine (compile_any s hs w).mono ?_
  rintro e w' ⟨hg, h⟩
  rw [treeS_comp] at h
  refine ⟨hg, ?_⟩
  have hk := @treeS_ok s.data.toList
  obtain ⟨r, hr⟩ : ∃ r, treeS s.data.toList = r := ⟨_, rfl⟩
  rw [hr] at h hk ⊢
  cases r with
  | inl n =>
    obtain ⟨P, he, hP⟩ := h
    obtain ⟨h1, h2, -⟩ := hk rfl
    exact ⟨P, he, hP, h1, h2⟩
  | inr x => exact h
theorem tree_yes {s : ByteArray} {n : Nd} (h : treeS s.data.toList = .inl n) (hs : s.size ≤ 1000000) (w : World) :
    Calls Try.prog 8 #[.string s] w fun e w' => Gr w w' ∧ ∃ P, e = .returned (.tuple #[.pointer (some ⟨P, 0, none⟩), .int .i64 0, .int .i64 0]) ∧ Pat w' P n := by
  have := tree_any s hs w
  rw [h] at this
  exact this
theorem tree_no {s : ByteArray} {x : Nat × Nat} (h : treeS s.data.toList = .inr x) (hs : s.size ≤ 1000000) (w : World) :
    Calls Try.prog 8 #[.string s] w fun e w' => Gr w w' ∧ e = .returned (.tuple #[.pointer none, .int .i64 x.1, .int .i64 x.2]) := by
  have := tree_any s hs w
  rw [h] at this
  exact this
/-- the pattern that is known -/
def knownN : Nd := (readS [97, 40, 98, 124, 99, 41, 42, 100]).2.1
theorem known1 : treeS [97, 40, 98, 124, 99, 41, 42, 100] = .inl knownN := by kernel_rfl
theorem known2 : treeS [97, 41] = .inr (1, 2) := by kernel_rfl
theorem known3 : hits knownN [97, 98, 99, 98, 100] = true := by kernel_rfl
theorem known4 : hits knownN [97, 98, 120] = false := by kernel_rfl
theorem known5 : escS [97, 46, 98] = [97, 92, 46, 98] := by kernel_rfl
end Go.Proofs.Ytnlfndhgdeapeaa
/- The laws' first test: it answers true. -/
namespace Go.Proofs.Ytnlfndhgdeapeaa
open Go.RowKit
set_option maxRecDepth 100000
set_option maxHeartbeats 2000000

theorem known_any (w : World) :
    Calls Try.prog 6 #[] w fun e w' => e = .returned (.bool true) ∧ Gr w w' := by
  have C1 := Lib.hid (fun W => tree_yes (s := ⟨#[97, 40, 98, 124, 99, 41, 42, 100]⟩) known1 (by decide) W)
  have C2 := Lib.hid (fun W => tree_no (s := ⟨#[97, 41]⟩) known2 (by decide) W)
  have M := Lib.hid (fun (P : Nat) W (h : Pat W P knownN) (b : ByteArray) (hb : b.size ≤ 1000000000000) => pat_match h b hb)
  have CE := Lib.hid (fun W => escape_any ⟨#[97, 46, 98]⟩ W (by decide))
  go_enter Try.func6, Try.ntmps6
  go_wp2_with fail
  refine (C1.out _).mono ?_
  rintro e w1 ⟨hg1, P, rfl, hP⟩
  have HG1 := Lib.hid hg1
  have HP := Lib.hid hP
  clear hg1 hP C1
  go_wp2_with fail
  refine (C2.out _).mono ?_
  rintro e w2 ⟨hg2, rfl⟩
  have HG2 := Lib.hid (HG1.out.trans hg2)
  have HP2 := Lib.hid (HP.out.gr hg2)
  clear hg2 C2 HG1 HP
  go_wp2_with fail
  refine (M.out P _ HP2.out ⟨#[97, 98, 99, 98, 100]⟩ (by decide)).mono ?_
  rintro e w3 ⟨rfl, hg3⟩
  have HG3 := Lib.hid (HG2.out.trans hg3)
  have HP3 := Lib.hid (HP2.out.gr hg3)
  clear hg3 HG2 HP2
  have k3 : hits knownN (⟨#[97, 98, 99, 98, 100]⟩ : ByteArray).data.toList = true := known3
  rw [k3]
  clear k3
  go_wp2_with fail
  refine (M.out P _ HP3.out ⟨#[97, 98, 120]⟩ (by decide)).mono ?_
  rintro e w4 ⟨rfl, hg4⟩
  have HG4 := Lib.hid (HG3.out.trans hg4)
  clear hg4 HG3 HP3 M
  have k4 : hits knownN (⟨#[97, 98, 120]⟩ : ByteArray).data.toList = false := known4
  rw [k4]
  clear k4
  go_wp2_with fail
  refine (CE.out _).mono ?_
  rintro e w5 ⟨rfl, hg5⟩
  have HG5 := Lib.hid (HG4.out.trans hg5)
  clear hg5 HG4 CE
  have k5 : escS (⟨#[97, 46, 98]⟩ : ByteArray).data.toList = [97, 92, 46, 98] := known5
  rw [k5]
  clear k5
  go_wp2
  go_ret
  exact ⟨by rfl, HG5.out⟩
end Go.Proofs.Ytnlfndhgdeapeaa
