/- The walk of LabelsKeys. -/
import Derived.Test.YtegbenbhiadnbaaDoorKnown
import Derived.Test.YtegbenbhiadnbaaDoorBack
import Derived.Test.YtegbenbhiadnbaaDoorLawParts
namespace Go.Proofs.YtegbenbhiadnbaaDoor
open Go.RowKit Go.Sort
set_option maxRecDepth 100000
set_option maxHeartbeats 4000000

theorem szK_few {l : List Lb} (h : fewP l) : szK l ≤ 200000 := by
  obtain ⟨h1, h2⟩ := h
  have key : ∀ l : List Lb, (∀ x ∈ l, x.1.size ≤ 400 ∧ x.2.size ≤ 2000) → szK l ≤ 2450 * l.length := by
    intro l
    induction l with
    | nil => intro _; simp [szK]
    | cons x r ih =>
      intro h
      have g1 := ih fun y hy => h y (List.mem_cons_of_mem _ hy)
      have g2 := h x List.mem_cons_self
      have h3 : szK (x :: r) = x.1.size + x.2.size + 50 + szK r := rfl
      rw [List.length_cons]
      omega
  have := key l h2
  omega
theorem cmpLs_three : ∀ (a b : List Lb), cmpLs a b = -1 ∨ cmpLs a b = 0 ∨ cmpLs a b = 1
  | [], [] => by simp [cmpLs]
  | [], _ :: _ => by simp [cmpLs]
  | _ :: _, [] => by simp [cmpLs]
  | x :: r, y :: s => by
    have ih := cmpLs_three r s
    have h : cmpL x y = -1 ∨ cmpL x y = 0 ∨ cmpL x y = 1 := by
      unfold cmpL
      split
      · simp
      · split <;> simp
    unfold cmpLs
    split
    · exact ih
    · exact h
theorem key_size (l : List Lb) : (⟨(keyL l).toArray⟩ : ByteArray).size = (keyL l).length := by simp [ByteArray.size]
/-- what both readings of any key tell is the same -/
def TwoPost (w : World) (e1 : Value) (v1 : Int) (e2 : Value) (v2 : Int) : Prop :=
  ∃ A B l c d, e1 = .slice A (l : List Lb).length c ∧ e2 = .slice B l.length d ∧ v1 = v2 ∧ (v1 = 0 ∨ v1 = 2) ∧ LabsAt w A l ∧ LabsAt w B l ∧ l.length ≤ 32
theorem back_two {s : ByteArray} {w0 w1 w2 w3 : World} {e1 e2 : Ending} (h1 : BackPost s w0 e1 w1) (h2 : BackPost s w2 e2 w3) (g : Gr w1 w3) :
    ∃ x1 v1 x2 v2, e1 = .returned (.tuple #[x1, .int .i64 v1]) ∧ e2 = .returned (.tuple #[x2, .int .i64 v2]) ∧ TwoPost w3 x1 v1 x2 v2 := by
  obtain ⟨-, h1⟩ := h1
  obtain ⟨-, h2⟩ := h2
  rcases h1 with ⟨A, l, c, rfl, l1, r1, k1⟩ | ⟨rfl, n1⟩
  · rcases h2 with ⟨B, m, d, rfl, l2, r2, k2⟩ | ⟨rfl, n2⟩
    · obtain rfl := keyL_inj (k1.trans k2.symm)
      exact ⟨_, _, _, _, rfl, rfl, A, B, l, c, d, rfl, rfl, rfl, .inl rfl, l1.gr g, l2, r1.1⟩
    · exact absurd k1 (n2 l r1)
  · rcases h2 with ⟨B, m, d, rfl, l2, r2, k2⟩ | ⟨rfl, n2⟩
    · exact absurd k2 (n1 m r2)
    · exact ⟨_, _, _, _, rfl, rfl, none, none, [], 0, 0, rfl, rfl, rfl, .inr rfl, LabsAt.none_ _ _, LabsAt.none_ _ _, by simp⟩

theorem lawKeys_any (A B : Option Addr) (a b : List Lb) (c d : Nat) (key : ByteArray) (w : World) (ha : LabsAt w A a) (hb : LabsAt w B b) (wa : Wd a) (wb : Wd b) (la : a.length ≤ 80) (lb : b.length ≤ 80) (hkl : key.size ≤ maxLen) (hE : Env w) :
    Calls Tryd.prog 4 #[.slice A a.length c, .slice B b.length d, .string key] w fun e w' => e = .returned (.bool true) ∧ Gr w w' := by
  have CKN := Lib.hid (known_any _ hE.k)
  have CFA := Lib.hid (fun W (g : Gr w W) => few_any A a c W (ha.gr g) wa (by omega))
  have CFB := Lib.hid (fun W (g : Gr w W) => few_any B b d W (hb.gr g) wb (by omega))
  unfold maxLen at hkl
  by_cases hfa : fewP a
  case neg =>
    rw [decide_eq_false hfa] at CFA
    clear hfa
    go_enter Tryd.func4, Tryd.ntmps4
    go_wp2_with fail
    refine CKN.out.mono ?_
    rintro e w1 ⟨rfl, g1⟩
    go_wp2_with fail
    refine (CFA.out _ g1).mono ?_
    rintro e w2 ⟨rfl, rfl⟩
    go_wp2
    go_ret
    exact ⟨rfl, g1⟩
  rw [decide_eq_true hfa] at CFA
  by_cases hfb : fewP b
  case neg =>
    rw [decide_eq_false hfb] at CFB
    clear hfb
    go_enter Tryd.func4, Tryd.ntmps4
    go_wp2_with fail
    refine CKN.out.mono ?_
    rintro e w1 ⟨rfl, g1⟩
    go_wp2_with fail
    refine (CFA.out _ g1).mono ?_
    rintro e w2 ⟨rfl, rfl⟩
    go_wp2_with fail
    refine (CFB.out _ g1).mono ?_
    rintro e w3 ⟨rfl, rfl⟩
    go_wp2
    go_ret
    exact ⟨rfl, g1⟩
  rw [decide_eq_true hfb] at CFB
  by_cases hk : key.size ≤ 32768
  case neg =>
    have hk' : ¬ (key.size : Int) ≤ 32768 := by omega
    go_enter Tryd.func4, Tryd.ntmps4
    go_wp2_with fail
    refine CKN.out.mono ?_
    rintro e w1 ⟨rfl, g1⟩
    go_wp2_with fail
    refine (CFA.out _ g1).mono ?_
    rintro e w2 ⟨rfl, rfl⟩
    go_wp2_with fail
    refine (CFB.out _ g1).mono ?_
    rintro e w3 ⟨rfl, rfl⟩
    go_wp2
    go_ret
    exact ⟨rfl, g1⟩
  have hk' : (key.size : Int) ≤ 32768 := by omega
  have sza := szK_few hfa
  have szb := szK_few hfb
  have kla := keyL_len a fun x hx => by have := hfa.2 x hx; omega
  have klb := keyL_len b fun x hx => by have := hfb.2 x hx; omega
  have CB1 := Lib.hid (fun W (g : Gr w W) => back_any key W (by omega) (hE.gr g))
  have CB2 := Lib.hid (fun W => rBack_any key W (by omega))
  have CRA := Lib.hid (fun W (g : Gr w W) => rRight_any A a c W (ha.gr g) wa (by omega))
  have CRB := Lib.hid (fun W (g : Gr w W) => rRight_any B b d W (hb.gr g) wb (by omega))
  have CKA := Lib.hid (fun W (g : Gr w W) => key_any A a c W (ha.gr g) (by omega) (by omega) (hE.k.gr g))
  have CKB := Lib.hid (fun W (g : Gr w W) => key_any B b d W (hb.gr g) (by omega) (by omega) (hE.k.gr g))
  have CRKA := Lib.hid (fun W (g : Gr w W) => rKey_any A a c W (ha.gr g) (by omega) (by omega))
  have CB3 := Lib.hid (fun W (g : Gr w W) => back_any ⟨(keyL a).toArray⟩ W (by rw [key_size]; omega) (hE.gr g))
  have CC1 := Lib.hid (fun W (g : Gr w W) => pCompare_any A B a b c d W (ha.gr g) (hb.gr g) (by omega) (by omega))
  have CC2 := Lib.hid (fun W (g : Gr w W) => rCompare_any A B a b c d W (ha.gr g) (hb.gr g) (by omega) (by omega))
  have CC3 := Lib.hid (fun W (g : Gr w W) => pCompare_any B A b a d c W (hb.gr g) (ha.gr g) (by omega) (by omega))
  have HA := Lib.hid ha
  have hmir := cmpLs_mirror a b
  have hthree := cmpLs_three a b
  have hzero := cmpLs_0_iff a b
  have HKI : Hid (∀ l, keyL l = keyL a → l = a) := Lib.hid fun l h => keyL_inj h
  have HKE : Hid (((keyL a == keyL b) = true ∧ cmpLs a b = 0) ∨ ((keyL a == keyL b) = false ∧ cmpLs a b ≠ 0)) := Lib.hid (by
    have := key_cmp a b
    rw [decide_eq_decide] at this
    by_cases e : keyL a = keyL b
    · exact .inl ⟨by simp [e], this.1 e⟩
    · exact .inr ⟨by simpa using e, fun h => e (this.2 h)⟩)
  obtain ⟨KA, hKA⟩ : ∃ KA, keyL a = KA := ⟨_, rfl⟩
  obtain ⟨KB, hKB⟩ : ∃ KB, keyL b = KB := ⟨_, rfl⟩
  obtain ⟨cc, hcc⟩ : ∃ cc, cmpLs a b = cc := ⟨_, rfl⟩
  obtain ⟨cm, hcm⟩ : ∃ cm, cmpLs b a = cm := ⟨_, rfl⟩
  obtain ⟨ra, hra⟩ : ∃ ra, rightB a = ra := ⟨_, rfl⟩
  obtain ⟨rb, hrb⟩ : ∃ rb, rightB b = rb := ⟨_, rfl⟩
  rw [hKA] at CKA CRKA CB3 HKI HKE
  rw [hKB] at CKB HKE
  rw [hcc] at CC1 CC2 hmir hthree HKE
  rw [hcm] at CC3 hmir
  rw [hra] at CRA
  rw [hrb] at CRB
  have HRA : Hid (ra = true → rightP a ∧ keyL a = KA) := Lib.hid fun h => ⟨rightB_t.1 (hra.trans h), hKA⟩
  clear hKA hKB hcc hcm hra hrb ha hb wa wb hfa hfb hE hzero sza szb kla klb
  go_enter Tryd.func4, Tryd.ntmps4
  go_wp2_with fail
  refine CKN.out.mono ?_
  rintro e w1 ⟨rfl, g1⟩
  go_wp2_with fail
  refine (CFA.out _ g1).mono ?_
  rintro e w2 ⟨rfl, rfl⟩
  go_wp2_with fail
  refine (CFB.out _ g1).mono ?_
  rintro e w3 ⟨rfl, rfl⟩
  have G1 := Lib.hid g1
  clear g1
  go_wp2_with fail
  refine (CB1.out _ G1.out).mono ?_
  intro e w4 hp4
  have HP4 := Lib.hid hp4
  have G4 := Lib.hid (G1.out.trans hp4.1)
  have hf4 : ∃ x1 v1, e = .returned (.tuple #[x1, .int .i64 v1]) := by
    obtain ⟨-, h⟩ := hp4
    rcases h with ⟨_, _, _, h, -⟩ | ⟨h, -⟩ <;> exact ⟨_, _, h⟩
  clear hp4
  obtain ⟨x1, v1, rfl⟩ := hf4
  go_wp2_with fail
  refine (CB2.out _).mono ?_
  intro e w5 hp5
  have G5 := Lib.hid (G4.out.trans hp5.1)
  obtain ⟨x1', v1', x2, v2, he1, rfl, A1, B1, l1, c1, d1, h1, h2, h3, h4, h5, h6, h7⟩ := back_two HP4.out hp5 hp5.1
  injection he1 with he1
  injection he1 with he1
  simp only [Array.mk.injEq, List.cons.injEq, Value.int.injEq, true_and, and_true] at he1
  obtain ⟨rfl, rfl⟩ := he1
  subst h1 h2 h3
  have CS := Lib.hid (same_self A1 B1 l1 c1 d1 w5 h5 h6 (by omega))
  clear hp5 HP4 h5 h6
  rcases h4 with rfl | rfl
  all_goals
    go_wp2_with fail
    refine CS.out.mono ?_
    rintro e w6 ⟨rfl, g6⟩
    have G6 := Lib.hid (G5.out.trans g6)
    clear g6
    cases ra
    · go_wp2_with fail
      refine (CRA.out _ G6.out).mono ?_
      rintro e w7 ⟨rfl, g7⟩
      go_wp2
      go_ret
      exact ⟨rfl, G6.out.trans g7⟩
    go_wp2_with fail
    refine (CRA.out _ G6.out).mono ?_
    rintro e w7 ⟨rfl, g7⟩
    have G7 := Lib.hid (G6.out.trans g7)
    clear g7
    cases rb
    · go_wp2_with fail
      refine (CRB.out _ G7.out).mono ?_
      rintro e w8 ⟨rfl, g8⟩
      go_wp2
      go_ret
      exact ⟨rfl, G7.out.trans g8⟩
    go_wp2_with fail
    refine (CRB.out _ G7.out).mono ?_
    rintro e w8 ⟨rfl, g8⟩
    have G8 := Lib.hid (G7.out.trans g8)
    clear g8
    go_wp2_with fail
    refine (CKA.out _ G8.out).mono ?_
    rintro e w9 ⟨rfl, g9⟩
    have G9 := Lib.hid (G8.out.trans g9)
    clear g9
    go_wp2_with fail
    refine (CB3.out _ G9.out).mono ?_
    rintro e w10 ⟨g10, hp⟩
    have G10 := Lib.hid (G9.out.trans g10)
    clear g10
    rw [data_mk] at hp
    rcases hp with ⟨A10, l10, c10, rfl, h10, -, hk10⟩ | ⟨-, hn⟩
    case inr => exact absurd (HRA.out (by simp)).2 (hn a (HRA.out (by simp)).1)
    obtain rfl := HKI.out _ hk10
    have HL10 := Lib.hid h10
    clear h10 hk10
    go_wp2_with fail
    refine (CC1.out _ G10.out).mono ?_
    rintro e w11 ⟨rfl, g11⟩
    have G11 := Lib.hid (G10.out.trans g11)
    have HL11 := Lib.hid (HL10.out.gr g11)
    clear g11 HL10
    go_wp2_with fail
    refine (CRKA.out _ G11.out).mono ?_
    rintro e w12 ⟨rfl, g12⟩
    have G12 := Lib.hid (G11.out.trans g12)
    have CS2 := Lib.hid (same_self A10 A _ c10 c w12 (HL11.out.gr g12) (HA.out.gr G12.out) (by omega))
    clear g12 HL11
    go_wp2_with fail
    refine CS2.out.mono ?_
    rintro e w13 ⟨rfl, g13⟩
    have G13 := Lib.hid (G12.out.trans g13)
    clear g13 CS2
    go_wp2_with fail
    refine (CC2.out _ G13.out).mono ?_
    rintro e w14 ⟨rfl, g14⟩
    have G14 := Lib.hid (G13.out.trans g14)
    clear g14
    go_wp2_with fail
    refine (CC3.out _ G14.out).mono ?_
    rintro e w15 ⟨rfl, g15⟩
    have G15 := Lib.hid (G14.out.trans g15)
    clear g15
    subst hmir
    rcases hthree with rfl | rfl | rfl
    all_goals
      rcases HKE.out with ⟨hq, hz⟩ | ⟨hq, hz⟩
      all_goals
        first
          | (exfalso; revert hz; decide)
          | (clear hz
             go_wp2_with fail
             refine (CKB.out _ G15.out).mono ?_
             rintro e w16 ⟨rfl, g16⟩
             go_wp2
             go_ret
             exact ⟨rfl, G15.out.trans g16⟩)
theorem lawKeys_big1 (A B : Option Addr) (n c m d : Nat) (key : ByteArray) (w : World) (h : 80 < n) (hn : n ≤ maxLen) (hE : Env w) :
    Calls Tryd.prog 4 #[.slice A n c, .slice B m d, .string key] w fun e w' => e = .returned (.bool true) ∧ Gr w w' := by
  have CKN := Lib.hid (known_any _ hE.k)
  clear hE
  go_enter Tryd.func4, Tryd.ntmps4
  go_wp2_with fail
  refine CKN.out.mono ?_
  rintro e w1 ⟨rfl, g1⟩
  go_wp2_with fail
  refine (few_big _ _ _ _ h hn).mono ?_
  rintro e w2 ⟨rfl, rfl⟩
  go_wp2
  go_ret
  exact ⟨rfl, g1⟩
theorem lawKeys_big2 (A B : Option Addr) (a : List Lb) (c m d : Nat) (key : ByteArray) (w : World) (ha : LabsAt w A a) (wa : Wd a) (la : a.length ≤ 80) (h : 80 < m) (hn : m ≤ maxLen) (hE : Env w) :
    Calls Tryd.prog 4 #[.slice A a.length c, .slice B m d, .string key] w fun e w' => e = .returned (.bool true) ∧ Gr w w' := by
  have CKN := Lib.hid (known_any _ hE.k)
  have CFA := Lib.hid (fun W (g : Gr w W) => few_any A a c W (ha.gr g) wa (by omega))
  clear hE ha wa
  obtain ⟨fb, hfb⟩ : ∃ fb, decide (fewP a) = fb := ⟨_, rfl⟩
  rw [hfb] at CFA
  clear hfb
  cases fb
  · go_enter Tryd.func4, Tryd.ntmps4
    go_wp2_with fail
    refine CKN.out.mono ?_
    rintro e w1 ⟨rfl, g1⟩
    go_wp2_with fail
    refine (CFA.out _ g1).mono ?_
    rintro e w2 ⟨rfl, rfl⟩
    go_wp2
    go_ret
    exact ⟨rfl, g1⟩
  · go_enter Tryd.func4, Tryd.ntmps4
    go_wp2_with fail
    refine CKN.out.mono ?_
    rintro e w1 ⟨rfl, g1⟩
    go_wp2_with fail
    refine (CFA.out _ g1).mono ?_
    rintro e w2 ⟨rfl, rfl⟩
    go_wp2_with fail
    refine (few_big _ _ _ _ h hn).mono ?_
    rintro e w3 ⟨rfl, rfl⟩
    go_wp2
    go_ret
    exact ⟨rfl, g1⟩
theorem walkKeys (A B : Option Addr) (n c m d : Nat) (key : ByteArray) (w : World) (h : n ≤ 80 → ∃ l : List Lb, l.length = n ∧ LabsAt w A l ∧ Wd l) (hn : n ≤ maxLen) (g : m ≤ 80 → ∃ l : List Lb, l.length = m ∧ LabsAt w B l ∧ Wd l) (hm : m ≤ maxLen) (hk : key.size ≤ maxLen) (hE : Env w) :
    Calls Tryd.prog 4 #[.slice A n c, .slice B m d, .string key] w fun e w' => e = .returned (.bool true) ∧ Gr w w' := by
  by_cases h80 : n ≤ 80
  · obtain ⟨a, rfl, ha, wa⟩ := h h80
    by_cases m80 : m ≤ 80
    · obtain ⟨b, rfl, hb, wb⟩ := g m80
      exact lawKeys_any A B a b c d key w ha hb wa wb h80 m80 hk hE
    · exact lawKeys_big2 A B a c m d key w ha wa h80 (by omega) hm hE
  · exact lawKeys_big1 A B n c m d key w (by omega) hn hE
end Go.Proofs.YtegbenbhiadnbaaDoor
