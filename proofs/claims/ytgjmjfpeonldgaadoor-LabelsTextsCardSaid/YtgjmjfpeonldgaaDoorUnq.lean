/- Unquote, the program's. -/
import Derived.Test.YtgjmjfpeonldgaaDoorSpell
import Derived.Deep.LoopGhost
namespace Go.Proofs.YtgjmjfpeonldgaaDoor
open Go.RowKit Go.Sort
set_option maxRecDepth 100000
set_option maxHeartbeats 4000000

theorem idx_hex : ∀ c : Fin 256, Lib.indexByte [48, 49, 50, 51, 52, 53, 54, 55, 56, 57, 97, 98, 99, 100, 101, 102] (UInt8.ofNat c.val) = hexV c.val := by decide +kernel
theorem hexIdx_any (n : Nat) (h : n < 256) (w : World) :
    Calls Tryd.prog 75 #[.string ⟨#[48, 49, 50, 51, 52, 53, 54, 55, 56, 57, 97, 98, 99, 100, 101, 102]⟩, .int .u8 n] w fun e w' => e = .returned (.int .i64 (hexV n)) ∧ w = w' := by
  refine (Tryd.strings_IndexByte ⟨#[48, 49, 50, 51, 52, 53, 54, 55, 56, 57, 97, 98, 99, 100, 101, 102]⟩ (n : Int) w).mono fun e w' ⟨he, hw⟩ => ⟨?_, hw.symm⟩
  rw [he]
  have := idx_hex ⟨n, h⟩
  simp only at this
  rw [← this]
  congr 2
theorem or_hex : ∀ a b : Fin 17, bits .or .i64 (((a.val : Int) - 1) * 16) ((b.val : Int) - 1) = if a.val = 0 ∨ b.val = 0 then bits .or .i64 (((a.val : Int) - 1) * 16) ((b.val : Int) - 1) else 16 * ((a.val : Int) - 1) + ((b.val : Int) - 1) := by decide +kernel
theorem or_neg : ∀ a b : Fin 17, (a.val = 0 ∨ b.val = 0) → bits .or .i64 (((a.val : Int) - 1) * 16) ((b.val : Int) - 1) < 0 := by decide +kernel
theorem hexV_bd (n : Nat) : -1 ≤ hexV n ∧ hexV n ≤ 15 := by 
  unfold hexV
  split
  · omega
  · split <;> omega
def spV (o : Option (UInt8 × Nat)) : Value := match o with | some (c, n) => .tuple #[.int .u8 (c.toNat : Int), .int .i64 n] | none => .tuple #[.int .u8 0, .int .i64 0]
theorem spelled_any (s : ByteArray) (w : World) (h0 : 0 < s.size) (hs : s.size ≤ maxLen) :
    Calls Tryd.prog 61 #[.string s] w fun e w' => e = .returned (spV (spellL s.data.toList)) ∧ Gr w w' := by
  unfold maxLen at hs
  have hd0 : s.data.toList = s.data.toList.drop 0 := rfl
  rw [hd0]
  clear hd0
  have p0 := s[0].toNat_lt
  obtain ⟨n0, hn0⟩ : ∃ n, s[0].toNat = n := ⟨_, rfl⟩
  have f1 : (0 : Int) < (s.size : Int) := by omega
  by_cases h34 : n0 = 34
  · have H := Lib.hid (sp_no s 0 h0 (.inl (by rw [hn0]; exact h34)))
    subst h34
    go_enter Tryd.func61, Tryd.ntmps61
    go_wp2
    go_ret2
    exact ⟨by rw [H.out]; rfl, Gr.refl _⟩
  have h34' : ((n0 : Int) == 34) = false := by simp; omega
  cases hp : prnI n0
  · have H := Lib.hid (sp_no s 0 h0 (.inr (by rw [hn0]; exact hp)))
    go_enter Tryd.func61, Tryd.ntmps61
    go_wp2_with (go_at_call 73; refine (isPrinted_any _ _).mono ?_; rintro e w' ⟨rfl, rfl⟩)
    go_ret2
    exact ⟨by rw [H.out]; rfl, Gr.refl _⟩
  by_cases h92 : n0 = 92
  case neg =>
    have H := Lib.hid (sp_1 s 0 h0 (by rw [hn0, hp]; simp; exact h34) (by rw [hn0]; exact h92))
    have h92' : ((n0 : Int) == 92) = false := by simp; omega
    have HN := Lib.hid hn0
    clear h34 h92
    go_enter Tryd.func61, Tryd.ntmps61
    go_wp2_with (go_at_call 73; refine (isPrinted_any _ _).mono ?_; rintro e w' ⟨rfl, rfl⟩)
    go_ret2
    exact ⟨by rw [H.out]; simp only [spV, HN.out]; rfl, Gr.refl _⟩
  subst h92
  clear h34 h34'
  have hp' : prnI 92 = true := by decide
  by_cases hs1 : s.size ≤ 1
  · have H := Lib.hid (sp_e1 s 0 h0 hn0 (by omega))
    have d1 : decide ((1 : Int) < (s.size : Int)) = false := by simp; omega
    have d3 : decide ((3 : Int) < (s.size : Int)) = false := by simp; omega
    clear hs1
    go_enter Tryd.func61, Tryd.ntmps61
    go_wp2_with (go_at_call 73; refine (isPrinted_any _ _).mono ?_; rintro e w' ⟨rfl, rfl⟩)
    go_ret2
    exact ⟨by rw [H.out]; rfl, Gr.refl _⟩
  have hs1' : 1 < s.size := by omega
  have p1 := s[1].toNat_lt
  obtain ⟨n1, hn1⟩ : ∃ n, s[1].toNat = n := ⟨_, rfl⟩
  by_cases hb : n1 = 92 ∨ n1 = 34
  · have H := Lib.hid (sp_2 s 0 hs1' hn0 (by rw [hn1]; exact hb))
    have HN := Lib.hid hn1
    rcases hb with rfl | rfl
    all_goals
      go_enter Tryd.func61, Tryd.ntmps61
      go_wp2_with (go_at_call 73; refine (isPrinted_any _ _).mono ?_; rintro e w' ⟨rfl, rfl⟩)
      go_ret2
      exact ⟨by rw [H.out]; simp only [spV, HN.out]; rfl, Gr.refl _⟩
  have b1 : ((n1 : Int) == 92) = false := by simp; omega
  have b2 : ((n1 : Int) == 34) = false := by simp; omega
  by_cases hx : s.size ≤ 3 ∨ n1 ≠ 120
  · have H := Lib.hid (sp_ex s 0 hs1' hn0 (by rw [hn1]; exact hb) (by rw [hn1]; exact hx))
    clear hb
    rcases hx with hx | hx
    · have d3 : decide ((3 : Int) < (s.size : Int)) = false := by simp; omega
      clear hx hs1
      go_enter Tryd.func61, Tryd.ntmps61
      go_wp2_with (go_at_call 73; refine (isPrinted_any _ _).mono ?_; rintro e w' ⟨rfl, rfl⟩)
      go_ret2
      exact ⟨by rw [H.out]; rfl, Gr.refl _⟩
    · have b3 : ((n1 : Int) == 120) = false := by simp; omega
      cases d3 : decide ((3 : Int) < (s.size : Int))
      all_goals
        clear hx hs1
        go_enter Tryd.func61, Tryd.ntmps61
        go_wp2_with (go_at_call 73; refine (isPrinted_any _ _).mono ?_; rintro e w' ⟨rfl, rfl⟩)
        go_ret2
        exact ⟨by rw [H.out]; rfl, Gr.refl _⟩
  have hs3 : 3 < s.size := by omega
  obtain rfl : n1 = 120 := by omega
  clear hb hx b1 b2
  have hs2 : 2 < s.size := Nat.lt_of_succ_lt hs3
  have p2 := (s[2]'hs2).toNat_lt
  have p3 := (s[3]'hs3).toNat_lt
  have H := sp_h s 0 hs3 hn0 hn1
  simp only [Nat.zero_add] at H
  unfold hexB at H
  obtain ⟨n2, hn2⟩ : ∃ n, (s[2]'hs2).toNat = n := ⟨_, rfl⟩
  obtain ⟨n3, hn3⟩ : ∃ n, (s[3]'hs3).toNat = n := ⟨_, rfl⟩
  rw [hn2, hn3] at H
  have C2 := Lib.hid (fun W => hexIdx_any n2 (by omega) W)
  have C3 := Lib.hid (fun W => hexIdx_any n3 (by omega) W)
  have b2 := hexV_bd n2
  have b3 := hexV_bd n3
  obtain ⟨x, hx⟩ : ∃ x, hexV n2 = x := ⟨_, rfl⟩
  obtain ⟨y, hy⟩ : ∃ y, hexV n3 = y := ⟨_, rfl⟩
  rw [hx] at H C2 b2
  rw [hy] at H C3 b3
  clear hx hy
  have HH := Lib.hid H
  clear H
  have hor : 0 ≤ x → 0 ≤ y → bits .or .i64 (x * 16) y = 16 * x + y := fun h1 h2 => by
    have h := or_hex ⟨(x + 1).toNat, by omega⟩ ⟨(y + 1).toNat, by omega⟩
    simp only at h
    rw [show (((x + 1).toNat : Nat) : Int) - 1 = x by omega, show (((y + 1).toNat : Nat) : Int) - 1 = y by omega, if_neg (by omega)] at h
    exact h
  have hneg : (x < 0 ∨ y < 0) → bits .or .i64 (x * 16) y < 0 := fun h1 => by
    have h := or_neg ⟨(x + 1).toNat, by omega⟩ ⟨(y + 1).toNat, by omega⟩ (by simp only; omega)
    simp only at h
    rw [show (((x + 1).toNat : Nat) : Int) - 1 = x by omega, show (((y + 1).toNat : Nat) : Int) - 1 = y by omega] at h
    exact h
  obtain ⟨z, hz⟩ : ∃ z, bits .or .i64 (x * 16) y = z := ⟨_, rfl⟩
  rw [hz] at hor hneg
  have HOR := Lib.hid hor
  have HNG := Lib.hid hneg
  have f3 : (3 : Int) < (s.size : Int) := by omega
  have X0 := Lib.hid b2
  have Y0 := Lib.hid b3
  have g0 : ¬ (x * 16 < -16) := by omega
  have g1 : x * 16 ≤ 240 := by omega
  clear hor hneg b2 b3 hs1 p0 p1 p2 p3 f3
  have d1 : decide ((1 : Int) < (s.size : Int)) = true := by simp; omega
  have d3 : decide ((3 : Int) < (s.size : Int)) = true := by simp; omega
  go_enter Tryd.func61, Tryd.ntmps61
  go_wp2_with (go_at_call 73; refine (isPrinted_any _ _).mono ?_; rintro e w' ⟨rfl, rfl⟩)
  go_quiet ((go_at_call 75; first | exact quiet_left (C2.out _) | exact quiet_left (C3.out _)))
  by_cases hn : x < 0 ∨ y < 0
  · have hz0 := HNG.out hn
    have H2 : Hid (spV (spellL (s.data.toList.drop 0)) = spV none) := Lib.hid (by rw [HH.out, if_pos hn]; rfl)
    go_wp2
    go_ret2
    exact ⟨by have := H2.out; simp only [List.drop_zero] at this; rw [this]; rfl, ⟨below_drewN (Below.refl _ _) _⟩⟩
  · have hx0 : 0 ≤ x := by omega
    have hy0 : 0 ≤ y := by omega
    have hzz := HOR.out hx0 hy0
    have xb := X0.out
    have yb := Y0.out
    obtain ⟨m, hm⟩ : ∃ m : Nat, z = (m : Int) := ⟨z.toNat, by omega⟩
    have hm2 : m < 256 := by omega
    have HE : Hid (16 * x + y = (m : Int)) := Lib.hid (by omega)
    subst hm
    have HHN := Lib.hid hn
    clear hzz xb yb hx0 hy0 HOR HNG hn X0 Y0
    cases hpm : prnI (m : Int)
    · have H2 : Hid (spV (spellL (s.data.toList.drop 0)) = .tuple #[.int .u8 (m : Int), .int .i64 4]) := Lib.hid (by
        rw [HH.out, if_neg HHN.out, HE.out, hpm]
        have hU : (UInt8.ofNat m).toNat = m := by simp; omega
        show spV (some (UInt8.ofNat m, 4)) = _
        simp only [spV, hU]; rfl)
      go_wp2_with (go_at_call 73; refine (isPrinted_any _ _).mono ?_; rintro e w' ⟨rfl, rfl⟩)
      go_ret2
      exact ⟨by rw [H2.out]; rfl, ⟨below_drewN (Below.refl _ _) _⟩⟩
    · have H2 : Hid (spV (spellL (s.data.toList.drop 0)) = spV none) := Lib.hid (by rw [HH.out, if_neg HHN.out, HE.out, hpm]; rfl)
      go_wp2_with (go_at_call 73; refine (isPrinted_any _ _).mono ?_; rintro e w' ⟨rfl, rfl⟩)
      go_ret2
      exact ⟨by rw [H2.out]; rfl, ⟨below_drewN (Below.refl _ _) _⟩⟩

/-! Unquote -/
def uqV (o : Option (List UInt8 × Nat)) : Value := match o with | some (l, n) => .tuple #[.string ⟨l.toArray⟩, .int .i64 n, .int .i64 0] | none => .tuple #[.string ⟨#[]⟩, .int .i64 0, .int .i64 2]
theorem unq_no (s : ByteArray) (h : s.size = 0 ∨ ∃ h : 0 < s.size, s[0].toNat ≠ 34) : unquoteL s.data.toList = none := by
  unfold unquoteL
  rw [if_neg]
  intro g
  rcases h with h | ⟨h, h2⟩
  · rw [List.eq_nil_of_length_eq_zero (l := s.data.toList) (by simpa using h)] at g
    simp at g
  · rw [← List.drop_zero (l := s.data.toList), dk s 0 h] at g
    exact h2 (by simpa using g)
theorem unq_yes (s : ByteArray) (h0 : 0 < s.size) (h : s[0].toNat = 34) : unquoteL s.data.toList = unqL (s.size + 1) (s.data.toList.drop 1) [] 1 := by
  unfold unquoteL
  rw [if_pos, show s.data.toList.length = s.size by simp]
  rw [← List.drop_zero (l := s.data.toList), dk s 0 h0]
  simp [h]
theorem ext_one (s : ByteArray) (h0 : 0 < s.size) : ((s.extract 0 1).toList == [34]) = decide (s[0].toNat = 34) := by
  have e : (s.extract 0 1).toList = [s[0]] := by
    rw [ByteArray.toList_eq]
    have := dk s 0 h0
    rw [List.drop_zero] at this
    obtain ⟨r, hr⟩ : ∃ r, s.data.toList = s[0] :: r := ⟨_, this⟩
    clear this
    generalize s[0] = c at hr ⊢
    simp [ByteArray.data_extract, Array.toList_extract, hr]
  rw [e, Bool.eq_iff_iff]
  simp only [beq_iff_eq, decide_eq_true_eq, List.cons.injEq, and_true]
  exact ⟨fun h => by rw [h]; rfl, fun h => by rw [toNat_eq h]; rfl⟩
theorem spell_bd (s : ByteArray) (k : Nat) {c : UInt8} {n : Nat} (h : spellL (s.data.toList.drop k) = some (c, n)) : 1 ≤ n ∧ k + n ≤ s.size := by
  have key : ∀ l : List UInt8, spellL l = some (c, n) → 1 ≤ n ∧ n ≤ l.length := by
    intro l hl
    unfold spellL at hl
    repeat' split at hl
    all_goals first
      | (injection hl with hl; injection hl with h1 h2; subst h2; simp; done)
      | (exfalso; cases hl; done)
      | (simp only [Option.map_eq_some_iff] at hl; obtain ⟨a, _, e⟩ := hl; injection e with e1 e2; subst e2; simp)
  have := key _ h
  rw [List.length_drop, show s.data.toList.length = s.size by simp] at this
  omega
theorem ext_drop (s : ByteArray) (k : Nat) : (s.extract k s.size).data.toList = s.data.toList.drop k := by
  simp [ByteArray.data_extract, Array.toList_extract]
  exact List.take_of_length_le (by simp)
theorem unquote_any (s : ByteArray) (w : World) (hs : s.size ≤ 68719476736) :
    Calls Tryd.prog 35 #[.string s] w fun e w' => e = .returned (uqV (unquoteL s.data.toList)) ∧ Gr w w' := by
  by_cases h0 : s.size = 0
  · have HN := Lib.hid (unq_no s (.inl h0))
    obtain rfl : s = ⟨#[]⟩ := by
      cases s with
      | mk d => exact congrArg _ (Array.eq_empty_of_size_eq_zero h0)
    clear h0 hs
    go_enter Tryd.func35, Tryd.ntmps35
    go_wp2
    go_step3
    go_wp2
    rw [Exit.noGoto_ret]
    go_ret3
    exact ⟨by rw [HN.out]; rfl, Gr.refl _⟩
  have hpos : 0 < s.size := by omega
  have hx := ext_one s hpos
  by_cases h34 : s[0].toNat = 34
  case neg =>
    have HN := Lib.hid (unq_no s (.inr ⟨hpos, h34⟩))
    rw [decide_eq_false h34] at hx
    clear h34
    go_enter Tryd.func35, Tryd.ntmps35
    go_wp2
    go_step3
    go_wp2
    rw [Exit.noGoto_ret]
    go_ret3
    exact ⟨by rw [HN.out]; rfl, Gr.refl _⟩
  have HU := Lib.hid (unq_yes s hpos h34)
  rw [decide_eq_true h34] at hx
  clear h34
  go_enter Tryd.func35, Tryd.ntmps35
  go_wp2
  go_step3
  go_wp2
  go_step3
  go_wp2
  go_loopg [5, 6] s.size (fun g v i wr => ∃ (k : Nat) (acc : List UInt8), 1 ≤ k ∧ k ≤ s.size ∧ i = .int .i64 k ∧ s.size ≤ k + g ∧ acc.length ≤ k ∧ Hid (OwnB wr w.heap.size v acc) ∧ Hid (unquoteL s.data.toList = unqL (g + 1) (s.data.toList.drop k) acc k) ∧ Bk w.heap.size w wr)
  case atStart => exact ⟨1, [], Nat.le_refl _, by omega, rfl, by omega, by simp, OwnB.nil _ _, HU, Bk.refl _ _⟩
  case round =>
    obtain ⟨k, acc, hk1, hk, rfl, hkg, hal, HO, HQ, hg⟩ := hrel
    obtain ⟨wo, rfl⟩ : ∃ wo : World, wo = wr := ⟨_, rfl⟩
    by_cases hlt : k < s.size
    · go_wp2_with fail
      refine (spelled_any (s.extract k s.size) _ (by simp; omega) (by simp; unfold maxLen; omega)).mono ?_
      rintro e w1 ⟨he, hg1⟩
      rw [ext_drop s k] at he
      have HO1 := Lib.hid (HO.out.gr hg1)
      have HB1 := Lib.hid (hg.trans (Bk.of_gr hg1 hg.b.size))
      cases hsp : spellL (s.data.toList.drop k) with
      | none => 
        rw [hsp] at he
        simp only [spV] at he
        subst he
        have HN := Lib.hid (unq_none s k (f := gk) (acc := acc) hlt hsp)
        clear hsp
        by_cases h34 : s[k].toNat = 34
        · have HV : Hid (uqV (unquoteL s.data.toList) = .tuple #[.string ⟨acc.toArray⟩, .int .i64 ((k + 1 : Nat) : Int), .int .i64 0]) := Lib.hid (by rw [HQ.out, HN.out, if_pos h34]; rfl)
          have hcv := conv_own HO1.out
          go_wp2
          rw [Exit.noGoto_ret]
          go_ret3
          exact ⟨by rw [HV.out]; rfl, HB1.out.gr⟩
        · have HV : Hid (uqV (unquoteL s.data.toList) = .tuple #[.string ⟨#[]⟩, .int .i64 0, .int .i64 2]) := Lib.hid (by rw [HQ.out, HN.out, if_neg h34]; rfl)
          obtain ⟨q, hq⟩ : ∃ q, s[k].toNat = q := ⟨_, rfl⟩
          have h34' : ((q : Int) == 34) = false := by simp; omega
          clear h34
          go_wp2
          rw [Exit.noGoto_ret]
          go_ret3
          exact ⟨by rw [HV.out]; rfl, HB1.out.gr⟩
      | some cn =>
        obtain ⟨c, n⟩ := cn
        rw [hsp] at he
        simp only [spV] at he
        subst he
        have HS := Lib.hid (unq_some s k (f := gk) (acc := acc) hsp)
        have hb := spell_bd s k hsp
        clear hsp
        have hn0 : (0 : Int) < (n : Int) := by omega
        clear hx
        have hB : w.heap.size ≤ w1.heap.size := by have := HB1.out.b.size; omega
        go_wp2_with (at_builtin; refine wpList_appB rfl rfl (.tmp 26) (.tmp 28) (by rfl) (by rfl) (B := w.heap.size) (l := acc) (m := [c]) (HO1.out.alloc _) (readsB_new _ _ [c] 1 rfl (by rfl)) (by simp) (by simp; omega) (by simp; omega) ?_; intro v2 W2 hown2 hbk2)
        have HB2 := Lib.hid ((HB1.out.trans ((Bk.refl _ _).alloc hB _ _)).trans hbk2)
        have HO2 := Lib.hid hown2
        clear hown2 hbk2
        cases gk with
        | zero => omega
        | succ gk =>
          go_roundg gk
          case measure => omega
          case rel => exact ⟨k + n, acc ++ [c], by omega, by omega, by go_num, by omega, by simp; omega, HO2, Lib.hid (by rw [HQ.out, HS.out]), HB2.out⟩
    · obtain rfl : k = s.size := by omega
      have HE := Lib.hid (unq_end s s.size (f := gk) (acc := acc) (Nat.le_refl _))
      go_wp2
      try rw [Exit.noGoto_ret]
      go_ret3
      exact ⟨by rw [HQ.out, HE.out]; rfl, hg.gr⟩
end Go.Proofs.YtgjmjfpeonldgaaDoor
