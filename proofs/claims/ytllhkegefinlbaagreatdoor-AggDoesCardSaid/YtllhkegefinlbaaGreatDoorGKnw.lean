/- Named, Name; few; known. -/
import Derived.Test.YtllhkegefinlbaaGreatDoorGAgg
import Derived.Test.YtllhkegefinlbaaGreatDoorPKnown
namespace Go.Proofs.YtllhkegefinlbaaGreatDoor.Pt
open Go.RowKit Go.Sort
set_option maxRecDepth 100000
set_option maxHeartbeats 4000000
attribute [local irreducible] wpQuiet

/-- the operations' names -/
def nmsL : List ByteArray := [⟨#[]⟩, ⟨#[115, 117, 109]⟩, ⟨#[99, 111, 117, 110, 116]⟩, ⟨#[109, 105, 110]⟩, ⟨#[109, 97, 120]⟩, ⟨#[97, 118, 103]⟩, ⟨#[116, 111, 112, 107]⟩, ⟨#[98, 111, 116, 116, 111, 109, 107]⟩, ⟨#[103, 114, 111, 117, 112]⟩]
def aggNm (i : Nat) : ByteArray := nmsL.getD i eB
structure Nmz (w : World) : Prop where
  c : ∀ i, i < 9 → w.cell? ⟨0, i, none⟩ = some (.string (aggNm i))
theorem Nmz.gv {w w' : World} (h : Nmz w) (g : Gr w w') : Nmz w' := ⟨fun i hi => g.cell (h.c i hi)⟩
/-- which name it is -/
def fndN (s : ByteArray) (n : Nat) : Option Nat := (List.range n).find? fun i => (aggNm (i + 1)).toList == s.toList
def nmdI (s : ByteArray) : Int := match fndN s 8 with | some i => (i : Int) + 1 | none => 0
def nmdB (s : ByteArray) : Bool := (fndN s 8).isSome
theorem fndN_s (s : ByteArray) (n : Nat) : fndN s (n + 1) = (fndN s n).or (if (aggNm (n + 1)).toList == s.toList then some n else none) := by
  unfold fndN
  rw [List.range_succ, List.find?_append]
  congr 1
  rw [List.find?_cons, List.find?_nil]
  cases ((aggNm (n + 1)).toList == s.toList) <;> rfl
theorem fndN_ge (s : ByteArray) {n m i : Nat} (h : fndN s n = some i) (hm : n ≤ m) : fndN s m = some i := by
  induction m with
  | zero => obtain rfl : n = 0 := by omega
            exact h
  | succ m ih =>
    by_cases e : n = m + 1
    · subst e; exact h
    · rw [fndN_s, ih (by omega)]; rfl
theorem named_any (s : ByteArray) (w : World) (hn : Nmz w) :
    Calls Tryz.prog 13 #[.string s] w fun e w' => e = .returned (.tuple #[.int .i64 (nmdI s), .bool (nmdB s)]) ∧ Gr w w' := by
  have HN := Lib.hid hn
  clear hn
  go_enter Tryz.func13, Tryz.ntmps13
  go_wp2
  go_loopw [4] (fun i wr => ∃ k : Nat, k ≤ 8 ∧ i = .int .i64 ((k : Int) + 1) ∧ Hid (fndN s k = none) ∧ Gr w wr) (fun i _ => 9 - (intOf i).toNat)
  case atStart => exact ⟨0, Nat.zero_le _, rfl, Lib.hid rfl, Gr.refl _⟩
  case round =>
    obtain ⟨k, hk, rfl, HF, hg⟩ := hrel
    by_cases hlt : k < 8
    · have c1 := (HN.out.gv hg).c (k + 1) (by omega)
      have HS := Lib.hid (fndN_s s k)
      have hle : (k : Int) + 1 ≤ 8 := by omega
      have f0 : (0 : Int) ≤ (k : Int) + 1 := by omega
      have f1 : (k : Int) + 1 < 9 := by omega
      have f2 : ((k : Int) + 1).toNat = k + 1 := by omega
      obtain ⟨m, hm⟩ : ∃ m, aggNm (k + 1) = m := ⟨_, rfl⟩
      rw [hm] at c1 HS
      clear hm
      cases e1 : (m.toList == s.toList)
      · have HN2 : Hid (fndN s (k + 1) = none) := Lib.hid (by rw [HS.out, HF.out, e1]; rfl)
        go_wp2
        go_roundw
        case rel => exact ⟨k + 1, by omega, by go_num, HN2, hg⟩
        case measure => simp [intOf]; omega
      · have HN2 : Hid (fndN s 8 = some k) := Lib.hid (fndN_ge s (n := k + 1) (by rw [HS.out, HF.out, e1]; rfl) (by omega))
        go_wp2
        go_ret2
        exact ⟨by unfold nmdI nmdB; rw [HN2.out]; rfl, hg⟩
    · obtain rfl : k = 8 := by omega
      go_wp2
      go_ret2
      exact ⟨by unfold nmdI nmdB; rw [HF.out]; rfl, hg⟩

/-! few -/
def fewG (ns : List ByteArray) : Bool := decide (ns.length ≤ 40) && ns.all fun s => decide (s.size ≤ 300)
theorem few10_any (N : Option Addr) (ns : List ByteArray) (d : Nat) (how : Int) (w : World) (h : StrsAt w N ns) (hl : ns.length ≤ maxLen) (hz : ∀ s ∈ ns, s.size ≤ maxLen) :
    Calls Tryz.prog 6 #[.agg #[.int .i64 how, .slice N ns.length d]] w fun e w' => e = .returned (.bool (fewG ns)) ∧ Gr w w' := by
  have HS := Lib.hid h; have HZ := Lib.hid hz
  unfold maxLen at hl
  obtain ⟨W1, hW1, g1, hb1⟩ := fresh w #[.int .i64 how, .slice N ns.length d] 24
  have HW1 := Lib.hid hW1; have HG1 := Lib.hid g1
  have a1 := hb1 1 (.slice N ns.length d) rfl
  obtain ⟨P, hP⟩ : ∃ P, w.heap.size = P := ⟨_, rfl⟩
  rw [hP] at a1
  have HP := Lib.hid hP
  clear h hz hW1 g1 hb1 hP
  have HLT : Hid (fewG ns = (decide (ns.length ≤ 40) && ns.all fun s => decide (s.size ≤ 300))) := Lib.hid rfl
  obtain ⟨b, hb⟩ : ∃ b, fewG ns = b := ⟨_, rfl⟩
  rw [hb] at HLT ⊢
  clear hb
  go_enter Tryz.func6, Tryz.ntmps6
  go_upto_region 1 with fail
  rw [HW1.out, HP.out]
  go_wp2
  go_loopw [3] (fun i wr => ∃ k : Nat, k ≤ ns.length ∧ k ≤ 41 ∧ i = .int .i64 k ∧ Hid ((ns.take k).all (fun s => decide (s.size ≤ 300)) = true) ∧ Gr W1 wr) (fun i _ => ns.length - (intOf i).toNat)
  case atStart => exact ⟨0, Nat.zero_le _, Nat.zero_le _, rfl, Lib.hid rfl, Gr.refl _⟩
  case round =>
    obtain ⟨k, hk, hk41, rfl, HU, hg⟩ := hrel
    have a1' := hg.cell a1
    by_cases hlt : k < ns.length
    · by_cases h40 : k ≤ 40
      · obtain ⟨b', o, rfl, c1⟩ := ((HS.out.gr HG1.out).gr hg).at_ hlt
        have hsz := HZ.out _ (List.getElem_mem hlt)
        have HTK := Lib.hid (List.take_succ_eq_append_getElem hlt)
        have HMM := Lib.hid (List.getElem_mem hlt)
        obtain ⟨s, hs⟩ : ∃ s, ns[k] = s := ⟨_, rfl⟩
        rw [hs] at c1 hsz HTK HMM
        have n1 : (k : Int) < (ns.length : Int) := by omega
        have n2 : (k : Int) ≤ 40 := by omega
        unfold maxLen at hsz
        clear hs
        by_cases h3 : 300 < s.size
        · have HN : Hid (b = false) := Lib.hid (by
            rw [HLT.out]
            have : (ns.all fun s => decide (s.size ≤ 300)) = false := List.all_eq_false.2 ⟨s, HMM.out, by simp; omega⟩
            rw [this, Bool.and_false])
          go_wp2
          go_ret
          exact ⟨by rw [HN.out]; rfl, HG1.out.trans hg⟩
        · have HN : Hid ((ns.take (k + 1)).all (fun s => decide (s.size ≤ 300)) = true) := Lib.hid (by rw [HTK.out, List.all_append, HU.out]; simp; omega)
          go_wp2
          go_roundw
          case rel => exact ⟨k + 1, by omega, by omega, by go_num, HN, hg⟩
          case measure => simp [intOf]; omega
      · have HN : Hid (b = false) := Lib.hid (by rw [HLT.out, decide_eq_false (by omega)]; rfl)
        have n1 : (k : Int) < (ns.length : Int) := by omega
        have n2 : ¬ (k : Int) ≤ 40 := by omega
        have n3 : ¬ (ns.length : Int) ≤ 40 := by omega
        go_wp2
        go_ret
        exact ⟨by rw [HN.out]; simp, HG1.out.trans hg⟩
    · obtain rfl : k = ns.length := by omega
      have HN : Hid (b = decide (ns.length ≤ 40)) := Lib.hid (by have := HU.out; rw [List.take_length] at this; rw [HLT.out, this, Bool.and_true])
      go_wp2
      go_ret
      exact ⟨by rw [HN.out]; simp; omega, HG1.out.trans hg⟩

/-! known -/
def s2 : ByteArray := ⟨#[50]⟩
def kA0 : List Pt := [([(sA, s1), (sB, s1)], 4611686018427387904), ([(sA, s1), (sB, s2)], 4613937818241073152)]
theorem k_nor10 : norE kA0 = 0 ∧ norV kA0 = kA0 := by decide +kernel
theorem k_sum : agV 1 1 [sA] 0 kA0 = [([(sA, s1)], 4617315517961601024)] ∧ agE 1 1 [sA] 0 kA0 = 0 := by decide +kernel
theorem k_top : agV 6 0 [] 4607182418800017408 kA0 = [([(sA, s1), (sB, s2)], 4613937818241073152)] ∧ agE 6 0 [] 4607182418800017408 kA0 = 0 := by decide +kernel
theorem k_smA : SmP kA0 := ⟨by decide, fun p hp => by
  simp only [kA0, List.mem_cons, List.not_mem_nil, or_false] at hp
  rcases hp with rfl | rfl <;> exact ⟨by decide, fun x hx => by
    simp only [List.mem_cons, List.not_mem_nil, or_false] at hx
    unfold maxLen
    rcases hx with rfl | rfl <;> decide⟩⟩
theorem k_okA : okP kA0 = true := by decide +kernel
theorem k_bdA : ∀ p ∈ kA0, p.2 < 2 ^ 64 := by decide
theorem lab_two (W : World) (g : Nat) (a b c d : ByteArray) (h1 : W.cell? ⟨g, 0, none⟩ = some (.string a)) (h2 : W.cell? ⟨g, 1, none⟩ = some (.string b)) (h3 : W.cell? ⟨g, 2, none⟩ = some (.string c)) (h4 : W.cell? ⟨g, 3, none⟩ = some (.string d)) : LabsAt W (some ⟨g, 0, none⟩) [(a, b), (c, d)] := fun _ => ⟨g, 0, rfl, fun i x hx => by
  match i, hx with
  | 0, hx =>
    obtain rfl : (a, b) = x := by simpa using hx
    exact ⟨h1, h2⟩
  | 1, hx =>
    obtain rfl : (c, d) = x := by simpa using hx
    exact ⟨h3, h4⟩
  | i + 2, hx => simp at hx⟩
theorem known10_any (w : World) (ht : Fv.Tab w) (hn : Nmz w) (hk : Kn w) :
    Calls Tryz.prog 4 #[] w fun e w' => e = .returned (.bool true) ∧ Gr w w' := by
  obtain ⟨W1, hW1, g1, hb1⟩ := fresh w #[.string ⟨#[97]⟩, .string ⟨#[49]⟩, .string ⟨#[98]⟩, .string ⟨#[49]⟩] 42
  obtain ⟨W2, hW2, g2, hb2⟩ := fresh W1 #[.string ⟨#[97]⟩, .string ⟨#[49]⟩, .string ⟨#[98]⟩, .string ⟨#[50]⟩] 42
  have z1 : W1.heap.size = w.heap.size + 1 := by rw [← hW1]; simp
  have z2 : W2.heap.size = w.heap.size + 1 + 1 := by rw [← hW2]; simp [z1]
  obtain ⟨W3, hW3, g3, hb3⟩ := fresh W2 #[.slice (some ⟨w.heap.size, 0, none⟩) 2 2, .float .f64 4611686018427387904, .slice (some ⟨w.heap.size + 1, 0, none⟩) 2 2, .float .f64 4613937818241073152] 45
  have hp : PtsAt W3 (some ⟨w.heap.size + 1 + 1, 0, none⟩) kA0 := by
    refine ⟨[(⟨some ⟨w.heap.size, 0, none⟩, 2, 2⟩, 4611686018427387904), (⟨some ⟨w.heap.size + 1, 0, none⟩, 2, 2⟩, 4613937818241073152)], fun _ => ⟨w.heap.size + 1 + 1, 0, rfl, fun i x hx u v hu => ?_⟩, rfl, fun k c p hc hp => ?_⟩
    · rw [z2] at hb3
      match i, hx with
      | 0, hx =>
        obtain rfl : _ = x := by simpa using hx
        simp only [encT, Sl.v] at hu
        injection hu with e1 e2
        injection e2 with e2
        subst e1; subst e2
        exact ⟨hb3 0 _ rfl, hb3 1 _ rfl⟩
      | 1, hx =>
        obtain rfl : _ = x := by simpa using hx
        simp only [encT, Sl.v] at hu
        injection hu with e1 e2
        injection e2 with e2
        subst e1; subst e2
        exact ⟨hb3 2 _ rfl, hb3 3 _ rfl⟩
      | i + 2, hx => simp at hx
    · match k, hc, hp with
      | 0, hc, hp =>
        obtain rfl : _ = c := by simpa using hc
        obtain rfl : _ = p := by simpa [kA0] using hp
        exact ⟨rfl, rfl, lab_two W3 _ sA s1 sB s1 (g3.cell (g2.cell (hb1 0 _ rfl))) (g3.cell (g2.cell (hb1 1 _ rfl))) (g3.cell (g2.cell (hb1 2 _ rfl))) (g3.cell (g2.cell (hb1 3 _ rfl)))⟩
      | 1, hc, hp =>
        obtain rfl : _ = c := by simpa using hc
        obtain rfl : _ = p := by simpa [kA0] using hp
        rw [z1] at hb2
        exact ⟨rfl, rfl, lab_two W3 _ sA s1 sB s2 (g3.cell (hb2 0 _ rfl)) (g3.cell (hb2 1 _ rfl)) (g3.cell (hb2 2 _ rfl)) (g3.cell (hb2 3 _ rfl))⟩
      | k + 2, hc, hp => simp at hc
  have CN := normal_any (some ⟨w.heap.size + 1 + 1, 0, none⟩) kA0 2 W3 hp k_smA (((ht.gv g1).gv g2).gv g3)
  rw [k_nor10.1, k_nor10.2] at CN
  have CN := Lib.hid CN
  have HT := Lib.hid ht; have HN := Lib.hid hn; have HK := Lib.hid hk
  have HW1 := Lib.hid hW1; have HW2 := Lib.hid hW2; have HW3 := Lib.hid hW3
  have G3 := Lib.hid ((g1.trans g2).trans g3)
  have f1 : (FloatKind.f64.format.order 4617315517961601024 4617315517961601024 == some .eq) = true := by decide +kernel
  have f2 : (FloatKind.f64.format.order 4613937818241073152 4613937818241073152 == some .eq) = true := by decide +kernel
  clear hp ht hn hk hW1 hW2 hW3 g1 g2 g3 hb1 hb2 hb3 z1 z2
  go_enter Tryz.func4, Tryz.ntmps4
  go_wp2_with fail
  rw [HW1.out, HW2.out, HW3.out]
  refine CN.out.mono ?_
  rintro e w4 ⟨A4, c4, rfl, hp4, h1, h2, g4⟩
  have HP4 := Lib.hid hp4
  have HG4 := Lib.hid (G3.out.trans g4)
  obtain ⟨W5, hW5, g5, hb5⟩ := fresh w4 #[.string ⟨#[97]⟩] 9
  have HS5 : Hid (StrsAt W5 (some ⟨w4.heap.size, 0, none⟩) [sA]) := Lib.hid (fun _ => ⟨w4.heap.size, 0, rfl, fun i x hx => by
    match i, hx with
    | 0, hx =>
      obtain rfl : sA = x := by simpa using hx
      exact hb5 0 _ rfl⟩)
  have C1 := agg_any 1 1 0 A4 (some ⟨w4.heap.size, 0, none⟩) kA0 c4 1 [sA] W5 (hp4.gr g5) k_smA k_okA HS5.out (Nat.le_refl _) (by unfold maxLen; decide) (fun s hs => by rw [List.mem_singleton] at hs; subst hs; unfold maxLen; decide) (by decide) ((HT.out.gv HG4.out).gv g5) (HK.out.gr (HG4.out.trans g5)) k_bdA
  rw [k_sum.1, k_sum.2] at C1
  have C1 := Lib.hid C1
  have HW5 := Lib.hid hW5; have HG5 := Lib.hid (HG4.out.trans g5); have HP5 := Lib.hid (hp4.gr g5)
  clear hp4 h1 h2 g4 g5 hb5 hW5 CN
  go_wp2_with fail
  rw [HW5.out]
  refine C1.out.mono ?_
  rintro e w6 ⟨A6, c6, rfl, hp6, h1, h2, g6⟩
  have HG6 := Lib.hid (HG5.out.trans g6)
  have HP6 := Lib.hid hp6
  have C2 := agg_any 6 0 4607182418800017408 A4 none kA0 c4 0 [] w6 (HP5.out.gr g6) k_smA k_okA (StrsAt.none_ _ _) (Nat.le_refl _) (by unfold maxLen; decide) (fun s hs => by simp at hs) (by decide) (HT.out.gv HG6.out) (HK.out.gr HG6.out) k_bdA
  rw [k_top.1, k_top.2] at C2
  have C2 := Lib.hid C2
  clear hp6 h1 h2 g6 C1
  go_wp2_with fail
  refine C2.out.mono ?_
  rintro e w7 ⟨A7, c7, rfl, hp7, h1, h2, g7⟩
  have HG7 := Lib.hid (HG6.out.trans g7)
  have CD := named_any ⟨#[116, 111, 112, 107]⟩ w7 (HN.out.gv HG7.out)
  have en : nmdI ⟨#[116, 111, 112, 107]⟩ = 6 ∧ nmdB ⟨#[116, 111, 112, 107]⟩ = true := by decide +kernel
  rw [en.1, en.2] at CD
  have CD := Lib.hid CD
  have HP6' := Lib.hid (HP6.out.gr g7); have HP7 := Lib.hid hp7
  clear hp7 h1 h2 g7 C2 en
  go_wp2_with fail
  refine CD.out.mono ?_
  rintro e w8 ⟨rfl, g8⟩
  obtain ⟨b4, o4, q4, m4, rfl, -, e4, -⟩ := (HP6'.out.gr g8).cell (k := 0) (by decide)
  obtain ⟨b5, o5, q5, m5, rfl, -, e5, -⟩ := (HP7.out.gr g8).cell (k := 0) (by decide)
  simp only [Nat.zero_mul, Nat.add_zero] at e4 e5
  have e4' : w8.cell? ⟨b4, o4 + 1, none⟩ = some (.float .f64 4617315517961601024) := e4
  have e5' : w8.cell? ⟨b5, o5 + 1, none⟩ = some (.float .f64 4613937818241073152) := e5
  have HG8 := Lib.hid (HG7.out.trans g8)
  clear e4 e5 CD g8
  go_wp2_with (go_at_call 14; refine (takes_any _ _).mono ?_; rintro e w' ⟨rfl, rfl⟩)
  go_ret
  exact ⟨rfl, HG8.out⟩
end Go.Proofs.YtllhkegefinlbaaGreatDoor.Pt
