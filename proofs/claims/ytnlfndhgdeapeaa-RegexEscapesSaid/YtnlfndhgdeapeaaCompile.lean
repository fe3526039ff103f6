/- Compile. -/
import Derived.Test.YtnlfndhgdeapeaaBuild
import Derived.Test.YtnlfndhgdeapeaaPattern
import Derived.Test.YtnlfndhgdeapeaaDeep
import Derived.Test.YtnlfndhgdeapeaaTree
namespace Go.Proofs.Ytnlfndhgdeapeaa
open Go.RowKit
set_option maxRecDepth 100000
set_option maxHeartbeats 4000000

/-- the whole text as a pattern -/
def readS (s : List UInt8) : Bool × Nd × Nat := patS s (s.length + 1) 0
/-- Compile's answer: the states; or the place and the error -/
def compS (s : List UInt8) : (List St × Nat) ⊕ (Nat × Nat) :=
  if 4096 < s.length then .inr (0, 6)
  else match tdS s 0 0 false with
    | some k => .inr (k, 6)
    | none => if (readS s).1 && decide (s.length ≤ (readS s).2.2) then .inl (buildS (readS s).2.1) else .inr ((readS s).2.2, 2)
def CompPost (r : (List St × Nat) ⊕ (Nat × Nat)) (w : World) (e : Ending) (w' : World) : Prop :=
  Gr w w' ∧ match r with
  | .inl r => ∃ P, e = .returned (.tuple #[.pointer (some ⟨P, 0, none⟩), .int .i64 0, .int .i64 0]) ∧ ProgAt w' P r
  | .inr (k, c) => e = .returned (.tuple #[.pointer none, .int .i64 k, .int .i64 c])
theorem compile_any (s : ByteArray) (hs : s.size ≤ 1000000) (w : World) :
    Calls Try.prog 8 #[.string s] w (CompPost (compS s.data.toList) w) := by
  have hlen : s.data.toList.length = s.size := by simp
  have hres : Try.f8.results = #[.tmp 2, .tmp 3, .tmp 4] := by kernel_rfl
  have CT := Lib.hid (fun W => tooDeep_any s W hs)
  by_cases hl : 4096 < s.size
  · have H : Hid (compS s.data.toList = .inr (0, 6)) := Lib.hid (by unfold compS; rw [hlen, if_pos hl])
    have n1 : (4096 : Int) < (s.size : Int) := by omega
    clear hlen CT
    go_enter Try.func8, Try.ntmps8
    go_wp2
    refine bodyPost_ret (v := .tuple #[.pointer none, .int .i64 0, .int .i64 6]) ?_ rfl ?_
    · simp only [results, hres]
      go_simp
      try rfl
    unfold CompPost
    rw [H.out]
    exact ⟨Gr.refl w, rfl⟩
  cases htd : tdS s.data.toList 0 0 false with
  | some k =>
    have H : Hid (compS s.data.toList = .inr (k, 6)) := Lib.hid (by unfold compS; rw [hlen, if_neg hl, htd])
    rw [htd] at CT
    have n1 : ¬ (4096 : Int) < (s.size : Int) := by omega
    clear hlen htd
    go_enter Try.func8, Try.ntmps8
    go_wp2_with fail
    refine (CT.out _).mono ?_
    rintro e w1 ⟨rfl, hg⟩
    have HG := Lib.hid hg
    clear hg CT
    unfold tdV
    go_wp2
    refine bodyPost_ret (v := .tuple #[.pointer none, .int .i64 k, .int .i64 6]) ?_ rfl ?_
    · simp only [results, hres]
      go_simp
      try rfl
    unfold CompPost
    rw [H.out]
    exact ⟨HG.out, rfl⟩
  | none =>
    rw [htd] at CT
    have n1 : ¬ (4096 : Int) < (s.size : Int) := by omega
    have CP := Lib.hid (fun W b (h : Rd W b s 0) => pattern_any b s hs (s.size + 1) 0 (Nat.zero_le _) (by omega) W h)
    have hple := patS_le s.data.toList (s.size + 1) 0 (Nat.zero_le _)
    have hrm := pat_room (s := s.data.toList) (d := s.size + 1) (k := 0) (by rw [hlen]; omega) (Nat.zero_le _)
    have H0 : Hid (compS s.data.toList = if (readS s.data.toList).1 && decide (s.size ≤ (readS s.data.toList).2.2) then .inl (buildS (readS s.data.toList).2.1) else .inr ((readS s.data.toList).2.2, 2)) := Lib.hid (by unfold compS; rw [hlen, if_neg hl, htd])
    unfold readS at H0
    rw [hlen] at hple H0
    obtain ⟨r, hr⟩ : ∃ r, patS s.data.toList (s.size + 1) 0 = r := ⟨_, rfl⟩
    rw [hr] at CP hple hrm H0
    obtain ⟨ok, n, k⟩ := r
    simp only at hple hrm
    have HRM := Lib.hid hrm
    clear hlen htd hr hrm
    go_enter Try.func8, Try.ntmps8
    go_wp2_with fail
    refine (CT.out _).mono ?_
    rintro e w1 ⟨rfl, hg⟩
    have HG := Lib.hid hg
    clear hg CT
    unfold tdV
    go_wp2_with fail
    refine (CP.out _ _ (heap_alloc_new w1 _)).mono ?_
    rintro e w2 ⟨hr2, ho2, v, rfl, hv, hv0⟩
    obtain ⟨kk, u0, u1, u2, u3, m1, cc1, A1, rfl⟩ := read_form hv hv0
    have HV := Lib.hid hv
    have G2 : Hid (Gr w w2) := Lib.hid (Gr.only (HG.out.alloc _ _) ho2 HG.out.size)
    clear hv hv0 ho2 CP HG
    have hr := hr2.facts
    obtain ⟨c0, c1, -, -⟩ := hr
    have ga : Gr w2 (w2.alloc (.cells #[.int .i64 kk, .int .u64 u0, .int .u64 u1, .int .u64 u2, .int .u64 u3, .slice A1 m1 cc1] 57)) := (Gr.refl w2).alloc _ _
    have d0 := ga.cell c0
    have d1 := ga.cell c1
    have CB := Lib.hid (fun W (q : Gr w2 W) X (hX : ∀ c, X c → c < w2.heap.size) (hn : NodeV w2 X n (.agg #[.int .i64 kk, .int .u64 u0, .int .u64 u1, .int .u64 u2, .int .u64 u3, .slice A1 m1 cc1])) (hw : Wf n) (hb : 1 + bd n ≤ 1000000000000) => build_any n _ X W (fun c hc => Nat.lt_of_lt_of_le (hX c hc) q.size) (hn.gr q) hw hb)
    clear hr2
    cases ok
    · have H : Hid (compS s.data.toList = .inr (k, 2)) := H0
      clear H0 HV HRM CB
      go_wp2_with fail
      go_quiet (fail)
      go_wp2
      refine bodyPost_ret (v := .tuple #[.pointer none, .int .i64 k, .int .i64 2]) ?_ rfl ?_
      · simp only [results, hres]
        go_simp
        try rfl
      unfold CompPost
      rw [H.out]
      exact ⟨(G2.out.alloc _ _).drewN _, rfl⟩
    by_cases hk : s.size ≤ k
    · have H : Hid (compS s.data.toList = .inl (buildS n)) := Lib.hid (by rw [H0.out]; simp [hk])
      have n2 : ¬ (k : Int) < (s.size : Int) := by omega
      obtain ⟨X, hX, hn⟩ := HV.out rfl
      have C := Lib.hid (fun W q => CB.out W q X (fun c hc => (hX c hc).2) hn (HRM.out rfl).1 (HRM.out rfl).2)
      clear H0 HV HRM CB hX hn
      go_wp2_with fail
      refine (C.out _ ga).mono ?_
      rintro e w3 ⟨P, rfl, hP, g3⟩
      have HF := Lib.hid (show CompPost (compS s.data.toList) w (.returned (.tuple #[.pointer (some ⟨P, 0, none⟩), .int .i64 0, .int .i64 0])) w3 by
        unfold CompPost
        rw [H.out]
        exact ⟨(G2.out.trans ga).trans g3, P, rfl, hP⟩)
      clear hP g3 C
      go_wp2
      refine bodyPost_ret (v := .tuple #[.pointer (some ⟨P, 0, none⟩), .int .i64 0, .int .i64 0]) ?_ rfl ?_
      · simp only [results, hres]
        go_simp
        try rfl
      exact HF.out
    · have H : Hid (compS s.data.toList = .inr (k, 2)) := Lib.hid (by rw [H0.out]; simp [hk])
      have n2 : (k : Int) < (s.size : Int) := by omega
      clear H0 HV HRM CB
      go_wp2_with fail
      go_quiet (fail)
      go_wp2
      refine bodyPost_ret (v := .tuple #[.pointer none, .int .i64 k, .int .i64 2]) ?_ rfl ?_
      · simp only [results, hres]
        go_simp
        try rfl
      unfold CompPost
      rw [H.out]
      exact ⟨(G2.out.alloc _ _).drewN _, rfl⟩
end Go.Proofs.Ytnlfndhgdeapeaa
