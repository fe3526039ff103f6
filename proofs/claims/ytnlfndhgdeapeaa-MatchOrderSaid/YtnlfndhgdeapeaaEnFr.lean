/- enter's frame at its labels, and what holds there. -/
import Derived.Test.YtnlfndhgdeapeaaGr
import Derived.Test.YtnlfndhgdeapeaaRdMath
import Derived.Test.YtnlfndhgdeapeaaBuild
import Derived.Test.YtnlfndhgdeapeaaPattern
import Derived.Test.YtnlfndhgdeapeaaTree
import Derived.Test.YtnlfndhgdeapeaaFit
import Derived.Deep.Draws
namespace Go.Proofs.Ytnlfndhgdeapeaa
open Go.RowKit
set_option maxRecDepth 100000
set_option maxHeartbeats 2000000

/-- the first bracket that stands too deep -/
def tdS : List UInt8 → Nat → Nat → Bool → Option Nat
  | [], _, _, _ => none
  | c :: r, k, d, i =>
    if c = 92 then
      match r with
      | [] => none
      | _ :: r' => tdS r' (k + 2) d i
    else if i then tdS r (k + 1) d (decide (c ≠ 93))
    else if c = 91 then tdS r (k + 1) d true
    else if c = 40 then (if d = 40 then some k else tdS r (k + 1) (d + 1) i)
    else if c = 41 then tdS r (k + 1) (d - 1) i
    else tdS r (k + 1) d i
theorem tdS_nil {s : List UInt8} {k : Nat} (h : s.length ≤ k) (d : Nat) (i : Bool) : tdS (s.drop k) k d i = none := by rw [List.drop_of_length_le h]; rfl
theorem tdS_step {s : List UInt8} {k : Nat} (h : k < s.length) (d : Nat) (i : Bool) : tdS (s.drop k) k d i =
    (if s[k] = 92 then tdS (s.drop (k + 2)) (k + 2) d i
    else if i then tdS (s.drop (k + 1)) (k + 1) d (decide (s[k] ≠ 93))
    else if s[k] = 91 then tdS (s.drop (k + 1)) (k + 1) d true
    else if s[k] = 40 then (if d = 40 then some k else tdS (s.drop (k + 1)) (k + 1) (d + 1) i)
    else if s[k] = 41 then tdS (s.drop (k + 1)) (k + 1) (d - 1) i
    else tdS (s.drop (k + 1)) (k + 1) d i) := by
  rw [List.drop_eq_getElem_cons h]
  conv => lhs; unfold tdS
  by_cases e : s[k] = 92
  · rw [if_pos e, if_pos e]
    rcases Nat.lt_or_ge (k + 1) s.length with h2 | h2
    · rw [List.drop_eq_getElem_cons h2]
    · rw [List.drop_of_length_le h2, List.drop_of_length_le (by omega : s.length ≤ k + 2)]
      simp [tdS]
  · rw [if_neg e, if_neg e]
def tdV : Option Nat → Value
  | some k => .tuple #[.int .i64 k, .bool true]
  | none => .tuple #[.int .i64 0, .bool false]
theorem tooDeep_any (s : ByteArray) (w : World) (hs : s.size ≤ 1000000) :
    Calls Try.prog 22 #[.string s] w fun e w' => e = .returned (tdV (tdS s.data.toList 0 0 false)) ∧ Gr w w' := by
  have hlen : s.data.toList.length = s.size := by simp
  have HL := Lib.hid hlen
  clear hlen
  go_enter Try.func22, Try.ntmps22
  go_wp2
  go_loopw [4, 5, 6] (fun vd vi va wr => ∃ (d k : Nat) (i : Bool), vd = .int .i64 d ∧ vi = .bool i ∧ va = .int .i64 k ∧ d ≤ 40 ∧ k ≤ s.size + 1 ∧ Hid (tdS s.data.toList 0 0 false = tdS (s.data.toList.drop k) k d i) ∧ Gr w wr) (fun _ _ va _ => s.size + 1 - (intOf va).toNat)
  case atStart => exact ⟨0, 0, false, rfl, rfl, rfl, by omega, by omega, rfl, Gr.refl _⟩
  case round =>
    obtain ⟨d, k, i, rfl, rfl, rfl, hd, hk, HS, hg⟩ := hrel
    by_cases hlt : k < s.size
    · have hst := tdS_step (s := s.data.toList) (k := k) (by rw [HL.out]; exact hlt) d i
      have ge : s.data.toList[k]'(by rw [HL.out]; exact hlt) = s[k] := rfl
      rw [ge] at hst
      obtain ⟨c, hc⟩ : ∃ c, s[k] = c := ⟨_, rfl⟩
      have hcn : s[k].toNat = c.toNat := by rw [hc]
      rw [hc] at hst
      obtain ⟨m, hm⟩ : ∃ m, c.toNat = m := ⟨_, rfl⟩
      have hcm : ∀ x : UInt8, (c = x) ↔ m = x.toNat := fun x => by rw [← hm]; exact UInt8.toNat_inj.symm
      simp only [hcm, ne_eq, show UInt8.toNat 92 = 92 from rfl, show UInt8.toNat 93 = 93 from rfl, show UInt8.toNat 91 = 91 from rfl, show UInt8.toNat 40 = 40 from rfl, show UInt8.toNat 41 = 41 from rfl] at hst
      have n3 : (k : Int) < (s.size : Int) := by omega
      have HST := Lib.hid hst
      rw [hm] at hcn
      clear hst hc hm hcm ge c
      by_cases e92 : m = 92
      · subst e92
        have H : Hid (tdS s.data.toList 0 0 false = tdS (s.data.toList.drop (k + 2)) (k + 2) d i) := Lib.hid (by rw [HS.out, HST.out]; rfl)
        go_wp2
        go_roundw
        case rel => exact ⟨d, k + 2, i, rfl, rfl, by go_num, hd, by omega, H, hg⟩
        case measure => simp [intOf]; omega
      cases i
      case true =>
        have H : Hid (tdS s.data.toList 0 0 false = tdS (s.data.toList.drop (k + 1)) (k + 1) d (decide (¬ m = 93))) := Lib.hid (by rw [HS.out, HST.out, if_neg e92]; rfl)
        by_cases e93 : m = 93
        · subst e93
          go_wp2
          go_roundw
          case rel => exact ⟨d, k + 1, false, rfl, rfl, by go_num, hd, by omega, H, hg⟩
          case measure => simp [intOf]; omega
        · have d1 : ((m : Int) != 93) = true := by simp; omega
          have d2 : ((m : Int) == 92) = false := by simp; omega
          rw [decide_eq_true e93] at H
          go_wp2
          go_roundw
          case rel => exact ⟨d, k + 1, true, rfl, by first | rfl | simp [*], by go_num, hd, by omega, H, hg⟩
          case measure => simp [intOf]; omega
      have d2 : ((m : Int) == 92) = false := by simp; omega
      by_cases e91 : m = 91
      · subst e91
        have H : Hid (tdS s.data.toList 0 0 false = tdS (s.data.toList.drop (k + 1)) (k + 1) d true) := Lib.hid (by rw [HS.out, HST.out]; rfl)
        go_wp2
        go_roundw
        case rel => exact ⟨d, k + 1, true, rfl, rfl, by go_num, hd, by omega, H, hg⟩
        case measure => simp [intOf]; omega
      have d3 : ((m : Int) == 91) = false := by simp; omega
      by_cases e40 : m = 40
      · subst e40
        by_cases ed : d = 40
        · subst ed
          have H : Hid (tdS s.data.toList 0 0 false = some k) := Lib.hid (by rw [HS.out, HST.out]; rfl)
          go_wp2
          go_ret2
          exact ⟨by rw [H.out]; rfl, hg⟩
        · have H : Hid (tdS s.data.toList 0 0 false = tdS (s.data.toList.drop (k + 1)) (k + 1) (d + 1) false) := Lib.hid (by rw [HS.out, HST.out, if_neg e92, if_neg (by simp), if_neg e91, if_pos rfl, if_neg ed])
          have d4 : ((d : Int) == 40) = false := by simp; omega
          go_wp2
          go_roundw
          case rel => exact ⟨d + 1, k + 1, false, by go_num, rfl, by go_num, by omega, by omega, H, hg⟩
          case measure => simp [intOf]; omega
      have d5 : ((m : Int) == 40) = false := by simp; omega
      by_cases e41 : m = 41
      · subst e41
        have H : Hid (tdS s.data.toList 0 0 false = tdS (s.data.toList.drop (k + 1)) (k + 1) (d - 1) false) := Lib.hid (by rw [HS.out, HST.out]; rfl)
        have hmx : max ((d : Int) - 1) 0 = ((d - 1 : Nat) : Int) := by omega
        go_wp2
        go_roundw
        case rel => exact ⟨d - 1, k + 1, false, by first | go_num | (rw [hmx]) | (simp; omega), rfl, by go_num, by omega, by omega, H, hg⟩
        case measure => simp [intOf]; omega
      · have d6 : ((m : Int) == 41) = false := by simp; omega
        have H : Hid (tdS s.data.toList 0 0 false = tdS (s.data.toList.drop (k + 1)) (k + 1) d false) := Lib.hid (by rw [HS.out, HST.out, if_neg e92, if_neg (by simp), if_neg e91, if_neg e40, if_neg e41])
        go_wp2
        go_roundw
        case rel => exact ⟨d, k + 1, false, rfl, rfl, by go_num, hd, by omega, H, hg⟩
        case measure => simp [intOf]; omega
    · have H : Hid (tdS s.data.toList 0 0 false = none) := Lib.hid (by rw [HS.out, tdS_nil (by rw [HL.out]; omega)])
      have n4 : ¬ (k : Int) < (s.size : Int) := by omega
      go_wp2
      go_ret2
      exact ⟨by rw [H.out]; rfl, hg⟩
end Go.Proofs.Ytnlfndhgdeapeaa
namespace Go.Proofs.Ytnlfndhgdeapeaa
open Go.RowKit
set_option maxRecDepth 100000
set_option maxHeartbeats 4000000

/-- the whole text as a pattern -/
def readS (s : List UInt8) : Bool × Nd × Nat := patS s (s.length + 1) 0
/-- Compile's answer: the states; or the place and the error -/
def compS (s : List UInt8) : (List St × Nat) ⊕ (Nat × Nat) :=
  if 4096 < s.length then .inr (0, 6)
  else match tdS s 0 0 false with
    | some k => .inr (k, 6)
    | none => if (readS s).1 && decide (s.length ≤ (readS s).2.2) then .inl (buildS (readS s).2.1) else .inr ((readS s).2.2, 2)
def CompPost (r : (List St × Nat) ⊕ (Nat × Nat)) (w : World) (e : Ending) (w' : World) : Prop :=
  Gr w w' ∧ match r with
  | .inl r => ∃ P, e = .returned (.tuple #[.pointer (some ⟨P, 0, none⟩), .int .i64 0, .int .i64 0]) ∧ ProgAt w' P r
  | .inr (k, c) => e = .returned (.tuple #[.pointer none, .int .i64 k, .int .i64 c])
theorem compile_any (s : ByteArray) (hs : s.size ≤ 1000000) (w : World) :
    Calls Try.prog 8 #[.string s] w (CompPost (compS s.data.toList) w) := by
  have hlen : s.data.toList.length = s.size := by simp
  have hres : Try.f8.results = #[.tmp 2, .tmp 3, .tmp 4] := by kernel_rfl
  have CT := Lib.hid (fun W => tooDeep_any s W hs)
  by_cases hl : 4096 < s.size
  · have H : Hid (compS s.data.toList = .inr (0, 6)) := Lib.hid (by unfold compS; rw [hlen, if_pos hl])
    have n1 : (4096 : Int) < (s.size : Int) := by omega
    clear hlen CT
    go_enter Try.func8, Try.ntmps8
    go_wp2
    refine bodyPost_ret (v := .tuple #[.pointer none, .int .i64 0, .int .i64 6]) ?_ rfl ?_
    · simp only [results, hres]
      go_simp
      try rfl
    unfold CompPost
    rw [H.out]
    exact ⟨Gr.refl w, rfl⟩
  cases htd : tdS s.data.toList 0 0 false with
  | some k =>
    have H : Hid (compS s.data.toList = .inr (k, 6)) := Lib.hid (by unfold compS; rw [hlen, if_neg hl, htd])
    rw [htd] at CT
    have n1 : ¬ (4096 : Int) < (s.size : Int) := by omega
    clear hlen htd
    go_enter Try.func8, Try.ntmps8
    go_wp2_with fail
    refine (CT.out _).mono ?_
    rintro e w1 ⟨rfl, hg⟩
    have HG := Lib.hid hg
    clear hg CT
    unfold tdV
    go_wp2
    refine bodyPost_ret (v := .tuple #[.pointer none, .int .i64 k, .int .i64 6]) ?_ rfl ?_
    · simp only [results, hres]
      go_simp
      try rfl
    unfold CompPost
    rw [H.out]
    exact ⟨HG.out, rfl⟩
  | none =>
    rw [htd] at CT
    have n1 : ¬ (4096 : Int) < (s.size : Int) := by omega
    have CP := Lib.hid (fun W b (h : Rd W b s 0) => pattern_any b s hs (s.size + 1) 0 (Nat.zero_le _) (by omega) W h)
    have hple := patS_le s.data.toList (s.size + 1) 0 (Nat.zero_le _)
    have hrm := pat_room (s := s.data.toList) (d := s.size + 1) (k := 0) (by rw [hlen]; omega) (Nat.zero_le _)
    have H0 : Hid (compS s.data.toList = if (readS s.data.toList).1 && decide (s.size ≤ (readS s.data.toList).2.2) then .inl (buildS (readS s.data.toList).2.1) else .inr ((readS s.data.toList).2.2, 2)) := Lib.hid (by unfold compS; rw [hlen, if_neg hl, htd])
    unfold readS at H0
    rw [hlen] at hple H0
    obtain ⟨r, hr⟩ : ∃ r, patS s.data.toList (s.size + 1) 0 = r := ⟨_, rfl⟩
    rw [hr] at CP hple hrm H0
    obtain ⟨ok, n, k⟩ := r
    simp only at hple hrm
    have HRM := Lib.hid hrm
    clear hlen htd hr hrm
    go_enter Try.func8, Try.ntmps8
    go_wp2_with fail
    refine (CT.out _).mono ?_
    rintro e w1 ⟨rfl, hg⟩
    have HG := Lib.hid hg
    clear hg CT
    unfold tdV
    go_wp2_with fail
    refine (CP.out _ _ (heap_alloc_new w1 _)).mono ?_
    rintro e w2 ⟨hr2, ho2, v, rfl, hv, hv0⟩
    obtain ⟨kk, u0, u1, u2, u3, m1, cc1, A1, rfl⟩ := read_form hv hv0
    have HV := Lib.hid hv
    have G2 : Hid (Gr w w2) := Lib.hid (Gr.only (HG.out.alloc _ _) ho2 HG.out.size)
    clear hv hv0 ho2 CP HG
    have hr := hr2.facts
    obtain ⟨c0, c1, -, -⟩ := hr
    have ga : Gr w2 (w2.alloc (.cells #[.int .i64 kk, .int .u64 u0, .int .u64 u1, .int .u64 u2, .int .u64 u3, .slice A1 m1 cc1] 57)) := (Gr.refl w2).alloc _ _
    have d0 := ga.cell c0
    have d1 := ga.cell c1
    have CB := Lib.hid (fun W (q : Gr w2 W) X (hX : ∀ c, X c → c < w2.heap.size) (hn : NodeV w2 X n (.agg #[.int .i64 kk, .int .u64 u0, .int .u64 u1, .int .u64 u2, .int .u64 u3, .slice A1 m1 cc1])) (hw : Wf n) (hb : 1 + bd n ≤ 1000000000000) => build_any n _ X W (fun c hc => Nat.lt_of_lt_of_le (hX c hc) q.size) (hn.gr q) hw hb)
    clear hr2
    cases ok
    · have H : Hid (compS s.data.toList = .inr (k, 2)) := H0
      clear H0 HV HRM CB
      go_wp2_with fail
      go_quiet (fail)
      go_wp2
      refine bodyPost_ret (v := .tuple #[.pointer none, .int .i64 k, .int .i64 2]) ?_ rfl ?_
      · simp only [results, hres]
        go_simp
        try rfl
      unfold CompPost
      rw [H.out]
      exact ⟨(G2.out.alloc _ _).drewN _, rfl⟩
    by_cases hk : s.size ≤ k
    · have H : Hid (compS s.data.toList = .inl (buildS n)) := Lib.hid (by rw [H0.out]; simp [hk])
      have n2 : ¬ (k : Int) < (s.size : Int) := by omega
      obtain ⟨X, hX, hn⟩ := HV.out rfl
      have C := Lib.hid (fun W q => CB.out W q X (fun c hc => (hX c hc).2) hn (HRM.out rfl).1 (HRM.out rfl).2)
      clear H0 HV HRM CB hX hn
      go_wp2_with fail
      refine (C.out _ ga).mono ?_
      rintro e w3 ⟨P, rfl, hP, g3⟩
      have HF := Lib.hid (show CompPost (compS s.data.toList) w (.returned (.tuple #[.pointer (some ⟨P, 0, none⟩), .int .i64 0, .int .i64 0])) w3 by
        unfold CompPost
        rw [H.out]
        exact ⟨(G2.out.trans ga).trans g3, P, rfl, hP⟩)
      clear hP g3 C
      go_wp2
      refine bodyPost_ret (v := .tuple #[.pointer (some ⟨P, 0, none⟩), .int .i64 0, .int .i64 0]) ?_ rfl ?_
      · simp only [results, hres]
        go_simp
        try rfl
      exact HF.out
    · have H : Hid (compS s.data.toList = .inr (k, 2)) := Lib.hid (by rw [H0.out]; simp [hk])
      have n2 : (k : Int) < (s.size : Int) := by omega
      clear H0 HV HRM CB
      go_wp2_with fail
      go_quiet (fail)
      go_wp2
      refine bodyPost_ret (v := .tuple #[.pointer none, .int .i64 k, .int .i64 2]) ?_ rfl ?_
      · simp only [results, hres]
        go_simp
        try rfl
      unfold CompPost
      rw [H.out]
      exact ⟨(G2.out.alloc _ _).drewN _, rfl⟩
end Go.Proofs.Ytnlfndhgdeapeaa
namespace Go.Proofs.Ytnlfndhgdeapeaa
open Go.RowKit

def EnFr (R : Nat) (tv : Value) (s : Int) (u : Nat → Value) : Act := { tmps := #[.pointer (some ⟨R, 0, none⟩), tv, .int .i64 s, undef, undef, undef, .slice none 0 0, u 7, u 8, u 9, u 10, u 11, u 12, u 13, u 14, u 15, u 16, u 17, u 18, u 19, u 20, u 21, u 22, u 23, u 24, u 25, u 26, u 27, u 28, u 29, u 30, u 31, u 32, u 33, u 34, u 35, u 36, u 37, u 38, u 39, u 40, u 41, u 42, u 43, u 44, u 45, u 46, u 47, u 48, u 49, u 50, u 51, u 52, u 53, u 54, u 55, u 56, u 57, u 58, u 59, u 60, u 61, u 62, u 63, u 64, u 65, u 66, u 67, u 68, u 69, u 70, u 71, u 72, u 73, u 74, u 75, u 76, u 77, u 78, u 79, u 80, u 81, u 82, u 83, u 84, u 85, u 86, u 87, u 88, u 89, u 90, u 91, u 92], defers := [] }
def enU (x7 x8 x9 x10 x11 x12 x13 x14 x15 x16 x17 x18 x19 x20 x21 x22 x23 x24 x25 x26 x27 x28 x29 x30 x31 x32 x33 x34 x35 x36 x37 x38 x39 x40 x41 x42 x43 x44 x45 x46 x47 x48 x49 x50 x51 x52 x53 x54 x55 x56 x57 x58 x59 x60 x61 x62 x63 x64 x65 x66 x67 x68 x69 x70 x71 x72 x73 x74 x75 x76 x77 x78 x79 x80 x81 x82 x83 x84 x85 x86 x87 x88 x89 x90 x91 x92 : Value) (k : Nat) : Value := (#[x7, x8, x9, x10, x11, x12, x13, x14, x15, x16, x17, x18, x19, x20, x21, x22, x23, x24, x25, x26, x27, x28, x29, x30, x31, x32, x33, x34, x35, x36, x37, x38, x39, x40, x41, x42, x43, x44, x45, x46, x47, x48, x49, x50, x51, x52, x53, x54, x55, x56, x57, x58, x59, x60, x61, x62, x63, x64, x65, x66, x67, x68, x69, x70, x71, x72, x73, x74, x75, x76, x77, x78, x79, x80, x81, x82, x83, x84, x85, x86, x87, x88, x89, x90, x91, x92] : Array Value).getD (k - 7) undef
set_option maxRecDepth 100000 in
theorem enFr_mk (R : Nat) (tv : Value) (s : Int) (x7 x8 x9 x10 x11 x12 x13 x14 x15 x16 x17 x18 x19 x20 x21 x22 x23 x24 x25 x26 x27 x28 x29 x30 x31 x32 x33 x34 x35 x36 x37 x38 x39 x40 x41 x42 x43 x44 x45 x46 x47 x48 x49 x50 x51 x52 x53 x54 x55 x56 x57 x58 x59 x60 x61 x62 x63 x64 x65 x66 x67 x68 x69 x70 x71 x72 x73 x74 x75 x76 x77 x78 x79 x80 x81 x82 x83 x84 x85 x86 x87 x88 x89 x90 x91 x92 : Value) : ({ tmps := #[.pointer (some ⟨R, 0, none⟩), tv, .int .i64 s, undef, undef, undef, .slice none 0 0, x7, x8, x9, x10, x11, x12, x13, x14, x15, x16, x17, x18, x19, x20, x21, x22, x23, x24, x25, x26, x27, x28, x29, x30, x31, x32, x33, x34, x35, x36, x37, x38, x39, x40, x41, x42, x43, x44, x45, x46, x47, x48, x49, x50, x51, x52, x53, x54, x55, x56, x57, x58, x59, x60, x61, x62, x63, x64, x65, x66, x67, x68, x69, x70, x71, x72, x73, x74, x75, x76, x77, x78, x79, x80, x81, x82, x83, x84, x85, x86, x87, x88, x89, x90, x91, x92], defers := [] } : Act) = EnFr R tv s (enU x7 x8 x9 x10 x11 x12 x13 x14 x15 x16 x17 x18 x19 x20 x21 x22 x23 x24 x25 x26 x27 x28 x29 x30 x31 x32 x33 x34 x35 x36 x37 x38 x39 x40 x41 x42 x43 x44 x45 x46 x47 x48 x49 x50 x51 x52 x53 x54 x55 x56 x57 x58 x59 x60 x61 x62 x63 x64 x65 x66 x67 x68 x69 x70 x71 x72 x73 x74 x75 x76 x77 x78 x79 x80 x81 x82 x83 x84 x85 x86 x87 x88 x89 x90 x91 x92) := rfl

/-- what holds at a label with so much fuel left: Q: what is come to -/
structure EnAt (B R eb : Nat) (S : List St) (T : Nat) (sv lv0 tv0 : Value) (w : World) (Q : List Nat × List Nat) (f : Nat) (cur : Option Nat) (E L set : List Nat) (lv tv : Value) (W : World) : Prop where
  st : EnSt B R eb W S T E L set sv lv tv
  ch : EnStep R eb w lv0 tv0 W lv tv
  fu : fuelOf T E L cur < f
  q : runF S T f E L set cur = Q
  cu : ∀ s, cur = some s → s < S.length
  la : ∀ x ∈ L, x < S.length
  c1 : L.length + unent T E ≤ S.length
  c2 : set.length + unent T E ≤ S.length
def KE (B R eb : Nat) (S : List St) (T : Nat) (sv lv0 tv0 : Value) (w : World) (Q : List Nat × List Nat) (f l : Nat) (a : Act) (W : World) : Prop :=
  ∃ (E L set : List Nat) (lv tv : Value) (s : Nat) (u : Nat → Value), a = EnFr R tv s u ∧ ((l = 1 ∧ EnAt B R eb S T sv lv0 tv0 w Q f (some s) E L set lv tv W) ∨ (l = 0 ∧ EnAt B R eb S T sv lv0 tv0 w Q f none E L set lv tv W))
set_option maxRecDepth 100000 in
theorem ke_1 {B R eb : Nat} {S : List St} {T : Nat} {sv lv0 tv0 : Value} {w : World} {Q : List Nat × List Nat} {f g : Nat} {E L set : List Nat} {lv tv : Value} {W : World} (s : Nat) {s' : Int} {x7 x8 x9 x10 x11 x12 x13 x14 x15 x16 x17 x18 x19 x20 x21 x22 x23 x24 x25 x26 x27 x28 x29 x30 x31 x32 x33 x34 x35 x36 x37 x38 x39 x40 x41 x42 x43 x44 x45 x46 x47 x48 x49 x50 x51 x52 x53 x54 x55 x56 x57 x58 x59 x60 x61 x62 x63 x64 x65 x66 x67 x68 x69 x70 x71 x72 x73 x74 x75 x76 x77 x78 x79 x80 x81 x82 x83 x84 x85 x86 x87 x88 x89 x90 x91 x92 : Value} (hs : s' = s) (hf : f < g) (h : EnAt B R eb S T sv lv0 tv0 w Q f (some s) E L set lv tv W) :
    ∃ f', f' < g ∧ KE B R eb S T sv lv0 tv0 w Q f' 1 { tmps := #[.pointer (some ⟨R, 0, none⟩), tv, .int .i64 s', undef, undef, undef, .slice none 0 0, x7, x8, x9, x10, x11, x12, x13, x14, x15, x16, x17, x18, x19, x20, x21, x22, x23, x24, x25, x26, x27, x28, x29, x30, x31, x32, x33, x34, x35, x36, x37, x38, x39, x40, x41, x42, x43, x44, x45, x46, x47, x48, x49, x50, x51, x52, x53, x54, x55, x56, x57, x58, x59, x60, x61, x62, x63, x64, x65, x66, x67, x68, x69, x70, x71, x72, x73, x74, x75, x76, x77, x78, x79, x80, x81, x82, x83, x84, x85, x86, x87, x88, x89, x90, x91, x92], defers := [] } W := by
  subst hs
  rw [enFr_mk]
  exact ⟨f, hf, E, L, set, lv, tv, s, _, rfl, .inl ⟨rfl, h⟩⟩
set_option maxRecDepth 100000 in
theorem ke_0 {B R eb : Nat} {S : List St} {T : Nat} {sv lv0 tv0 : Value} {w : World} {Q : List Nat × List Nat} {f g : Nat} {E L set : List Nat} {lv tv : Value} {W : World} (s : Nat) {s' : Int} {x7 x8 x9 x10 x11 x12 x13 x14 x15 x16 x17 x18 x19 x20 x21 x22 x23 x24 x25 x26 x27 x28 x29 x30 x31 x32 x33 x34 x35 x36 x37 x38 x39 x40 x41 x42 x43 x44 x45 x46 x47 x48 x49 x50 x51 x52 x53 x54 x55 x56 x57 x58 x59 x60 x61 x62 x63 x64 x65 x66 x67 x68 x69 x70 x71 x72 x73 x74 x75 x76 x77 x78 x79 x80 x81 x82 x83 x84 x85 x86 x87 x88 x89 x90 x91 x92 : Value} (hs : s' = s) (hf : f < g) (h : EnAt B R eb S T sv lv0 tv0 w Q f none E L set lv tv W) :
    ∃ f', f' < g ∧ KE B R eb S T sv lv0 tv0 w Q f' 0 { tmps := #[.pointer (some ⟨R, 0, none⟩), tv, .int .i64 s', undef, undef, undef, .slice none 0 0, x7, x8, x9, x10, x11, x12, x13, x14, x15, x16, x17, x18, x19, x20, x21, x22, x23, x24, x25, x26, x27, x28, x29, x30, x31, x32, x33, x34, x35, x36, x37, x38, x39, x40, x41, x42, x43, x44, x45, x46, x47, x48, x49, x50, x51, x52, x53, x54, x55, x56, x57, x58, x59, x60, x61, x62, x63, x64, x65, x66, x67, x68, x69, x70, x71, x72, x73, x74, x75, x76, x77, x78, x79, x80, x81, x82, x83, x84, x85, x86, x87, x88, x89, x90, x91, x92], defers := [] } W := by
  subst hs
  rw [enFr_mk]
  exact ⟨f, hf, E, L, set, lv, tv, s, _, rfl, .inr ⟨rfl, h⟩⟩
set_option maxRecDepth 100000 in
theorem ke_fall {P : Program} {Q' : Exit → Act → World → Prop} {r : Code} {B R eb : Nat} {S : List St} {T : Nat} {sv lv0 tv0 : Value} {w : World} {Q : List Nat × List Nat} {f g l : Nat}
    (p : ∀ f g a w', f ≤ g → KE B R eb S T sv lv0 tv0 w Q f l a w' → r.wp P (jumps (fun l' a' w' => ∃ f', f' < g ∧ KE B R eb S T sv lv0 tv0 w Q f' l' a' w') Q') a w')
    {E L set : List Nat} {lv tv : Value} {W : World} (s : Nat) {s' : Int} {x7 x8 x9 x10 x11 x12 x13 x14 x15 x16 x17 x18 x19 x20 x21 x22 x23 x24 x25 x26 x27 x28 x29 x30 x31 x32 x33 x34 x35 x36 x37 x38 x39 x40 x41 x42 x43 x44 x45 x46 x47 x48 x49 x50 x51 x52 x53 x54 x55 x56 x57 x58 x59 x60 x61 x62 x63 x64 x65 x66 x67 x68 x69 x70 x71 x72 x73 x74 x75 x76 x77 x78 x79 x80 x81 x82 x83 x84 x85 x86 x87 x88 x89 x90 x91 x92 : Value} (hs : s' = s) (hf : f ≤ g) (h : (l = 1 ∧ EnAt B R eb S T sv lv0 tv0 w Q f (some s) E L set lv tv W) ∨ (l = 0 ∧ EnAt B R eb S T sv lv0 tv0 w Q f none E L set lv tv W)) :
    r.wp P (jumps (fun l' a' w' => ∃ f', f' < g ∧ KE B R eb S T sv lv0 tv0 w Q f' l' a' w') Q') { tmps := #[.pointer (some ⟨R, 0, none⟩), tv, .int .i64 s', undef, undef, undef, .slice none 0 0, x7, x8, x9, x10, x11, x12, x13, x14, x15, x16, x17, x18, x19, x20, x21, x22, x23, x24, x25, x26, x27, x28, x29, x30, x31, x32, x33, x34, x35, x36, x37, x38, x39, x40, x41, x42, x43, x44, x45, x46, x47, x48, x49, x50, x51, x52, x53, x54, x55, x56, x57, x58, x59, x60, x61, x62, x63, x64, x65, x66, x67, x68, x69, x70, x71, x72, x73, x74, x75, x76, x77, x78, x79, x80, x81, x82, x83, x84, x85, x86, x87, x88, x89, x90, x91, x92], defers := [] } W := by
  subst hs
  rw [enFr_mk]
  exact p f g _ _ hf ⟨E, L, set, lv, tv, s, _, rfl, h⟩
end Go.Proofs.Ytnlfndhgdeapeaa
