/- Texts of letters, as the reference's reader meets them. No program in it. -/
import Derived.Test.YtnlfndhgdeapeaaRq
import Derived.Test.YtnlfndhgdeapeaaEscT
import Derived.Test.YtnlfndhgdeapeaaLit
import Derived.Test.YtnlfndhgdeapeaaRcomp
import Derived.Test.YtnlfndhgdeapeaaRc
import Derived.Test.YtnlfndhgdeapeaaEsc
namespace Go.Proofs.Ytnlfndhgdeapeaa
open Go.RowKit
set_option maxRecDepth 100000
set_option maxHeartbeats 1000000

theorem letter_head {s : List UInt8} {k : Nat} (h : (letterS s spL bsL k).1 = true) : ∃ c, s[k]? = some c ∧ (c = 92 ∨ amongB spL c = false) := by
  unfold letterS at h
  cases hst : isAt s k 92
  · rw [hst] at h
    simp only [Bool.false_eq_true, if_false] at h
    cases e : s[k]? with
    | none => rw [e] at h; cases h
    | some c =>
      rw [e] at h
      simp only at h
      refine ⟨c, rfl, .inr ?_⟩
      cases e2 : amongB spL c
      · rfl
      · rw [e2] at h; simp at h
  · exact ⟨92, of_decide_eq_true hst, .inl rfl⟩
theorem letter_piece {s : List UInt8} {br : Nat → Bool × Nd × Nat} {k : Nat} (h : (letterS s spL bsL k).1 = true) : goesOn s k = true ∧ (atomS s br k).1 = true ∧ (atomS s br k).2.2 = (letterS s spL bsL k).2.2 := by
  obtain ⟨c, h0, hc⟩ := letter_head h
  refine ⟨?_, ?_⟩
  · rw [goes_of h0, decide_eq_false (calm_ne hc (by decide) (by decide)), decide_eq_false (calm_ne hc (by decide) (by decide))]
    rfl
  · unfold atomS
    rw [at_of h0, at_of h0, at_of h0, decide_eq_false (calm_ne hc (by decide) (by decide)), decide_eq_false (calm_ne hc (by decide) (by decide)), decide_eq_false (calm_ne hc (by decide) (by decide)), h]
    exact ⟨rfl, rfl⟩
/-- at a stroke an atom is a letter, or none -/
theorem stroke_piece {s : List UInt8} {br : Nat → Bool × Nd × Nat} {k : Nat} (h0 : s[k]? = some 92) : goesOn s k = true ∧ (pieceS s br k).1 = (letterS s spL bsL k).1 := by
  refine ⟨by rw [goes_of h0]; rfl, ?_⟩
  rw [(pieceS_at s br k).1]
  unfold atomS
  rw [at_of h0, at_of h0, at_of h0]
  cases e : (letterS s spL bsL k).1
  · rfl
  · rfl
theorem no_sign {s : List UInt8} {k : Nat} (h : k = s.length ∨ (letterS s spL bsL k).1 = true) : isAt s k 42 = false ∧ isAt s k 43 = false ∧ isAt s k 63 = false := by
  rcases h with rfl | h
  · exact ⟨at_none (List.getElem?_eq_none (Nat.le_refl _)) _, at_none (List.getElem?_eq_none (Nat.le_refl _)) _, at_none (List.getElem?_eq_none (Nat.le_refl _)) _⟩
  · obtain ⟨c, h0, hc⟩ := letter_head h
    rw [at_of h0, at_of h0, at_of h0]
    exact ⟨decide_eq_false (calm_ne hc (by decide) (by decide)), decide_eq_false (calm_ne hc (by decide) (by decide)), decide_eq_false (calm_ne hc (by decide) (by decide))⟩
/-- where letters go on there is another one, or the end -/
theorem litF_on {s : List UInt8} {f k : Nat} {out t : List UInt8} (hk : k ≤ s.length) (h : litF s (f + 1) k out = some t) : k = s.length ∨ (letterS s spL bsL k).1 = true := by
  rw [litF_s] at h
  by_cases hlt : k < s.length
  · rw [if_pos hlt] at h
    cases e : (letterS s spL bsL k).1
    · rw [e] at h; simp at h
    · exact .inr rfl
  · exact .inl (by omega)
theorem lit_pieces {s : List UInt8} {br : Nat → Bool × Nd × Nat} : ∀ (f k : Nat) (out t : List UInt8) (F : Nat) (acc : List Nd), litF s f k out = some t → k ≤ s.length → s.length < k + F → s.length < k + f → (piecesF s br F k acc).1 = true ∧ (piecesF s br F k acc).2.2 = s.length
  | 0, k, out, t, F, acc, h, _, _, _ => by unfold litF at h; cases h
  | f + 1, k, out, t, F, acc, h, hk, hF, hf => by
    obtain ⟨F, rfl⟩ : ∃ g, F = g + 1 := ⟨F - 1, by omega⟩
    rw [litF_s] at h
    by_cases hlt : k < s.length
    · rw [if_pos hlt] at h
      cases e : (letterS s spL bsL k).1
      · rw [e] at h; simp at h
      · rw [e] at h
        simp only [if_true] at h
        have hle := letterS_le s spL bsL k hk
        have hon := letter_on e
        obtain ⟨h1, h2, h3⟩ := letter_piece (br := br) e
        obtain ⟨f', rfl⟩ : ∃ g, f = g + 1 := ⟨f - 1, by omega⟩
        obtain ⟨n1, n2, n3⟩ := no_sign (litF_on hle.1 h)
        have hp := pieceS_at s br k
        rw [h3, n1, n2, n3] at hp
        rw [piecesF_s, h1, if_pos rfl, hp.1, h2, if_pos rfl, hp.2 h2]
        exact lit_pieces (f' + 1) _ _ t F _ h hle.1 (by simp only [Bool.or_false, Bool.false_eq_true, if_false]; omega) (by simp only [Bool.or_false, Bool.false_eq_true, if_false]; omega)
    · obtain rfl : k = s.length := by omega
      rw [piecesF_s, goes_end]
      exact ⟨rfl, rfl⟩
theorem lit_reads {s t : List UInt8} (h : literalS s = some t) (br : Nat → Bool × Nd × Nat) : (altF s br (s.length + 1) 0 []).1 = true ∧ (altF s br (s.length + 1) 0 []).2.2 = s.length := by
  obtain ⟨h1, h2⟩ := lit_pieces (br := br) (s.length + 1) 0 [] t (s.length + 1) [] h (Nat.zero_le _) (by omega) (by omega)
  rw [altF_s, h1, if_pos rfl, h2, at_none (List.getElem?_eq_none (Nat.le_refl _))]
  exact ⟨rfl, rfl⟩
theorem esc_lit (s : List UInt8) : ∀ (r pre out : List UInt8) (f : Nat), escS s = pre ++ escS r → (escS r).length < f → litF (escS s) f pre.length out = some (out ++ r)
  | [], pre, out, f, ht, hf => by
    obtain ⟨f, rfl⟩ : ∃ g, f = g + 1 := ⟨f - 1, by omega⟩
    have e : pre.length = (escS s).length := by rw [ht]; simp [escS]
    rw [litF_s, if_neg (by omega)]
    simp
  | c :: r, pre, out, f, ht, hf => by
    obtain ⟨f, rfl⟩ : ∃ g, f = g + 1 := ⟨f - 1, by omega⟩
    rw [escS_cons] at ht hf
    have hl := esc_letter ht
    have h1 : 1 ≤ (escB c).length := by unfold escB; split <;> simp
    rw [List.length_append] at hf
    rw [litF_s, if_pos (by rw [ht]; simp; omega), hl]
    simp only [if_true]
    have := esc_lit s r (pre ++ escB c) (out ++ [c]) f (by rw [ht]; simp) (by omega)
    rw [List.length_append] at this
    rw [this]
    simp
theorem lit_esc (s : List UInt8) : literalS (escS s) = some s := by
  unfold literalS
  have := esc_lit s s [] [] ((escS s).length + 1) rfl (by omega)
  simpa using this
end Go.Proofs.Ytnlfndhgdeapeaa
/- Letters, as the reference's Literal goes through them. No program's walk in it. -/
namespace Go.Proofs.Ytnlfndhgdeapeaa
open Go.RowKit
set_option maxRecDepth 100000
set_option maxHeartbeats 1000000

/-- at k the reference goes on reading pieces, or stands at a sign that is no stroke -/
def LitInv (s : List UInt8) (br : Nat → Bool × Nd × Nat) (k : Nat) : Prop :=
  (∃ (F : Nat) (acc : List Nd), (piecesF s br F k acc).1 = true) ∨ (∃ c, s[k]? = some c ∧ amongB spL c = true ∧ c ≠ 92)
theorem lit_stop {s : List UInt8} {k : Nat} {c : UInt8} (h0 : s[k]? = some c) (h1 : amongB spL c = true) (h2 : c ≠ 92) : (letterS s spL bsL k).1 = false := by
  unfold letterS
  rw [at_of h0, decide_eq_false h2]
  simp only [Bool.false_eq_true, if_false]
  rw [h0]
  simp [h1]
theorem lit_plain {s : List UInt8} {k : Nat} {c : UInt8} (h0 : s[k]? = some c) (h1 : amongB spL c = false) : letterS s spL bsL k = (true, c, k + 1) := by
  have h2 : c ≠ 92 := by
    rintro rfl
    exact absurd h1 (by decide)
  unfold letterS
  rw [at_of h0, decide_eq_false h2]
  simp only [Bool.false_eq_true, if_false]
  rw [h0]
  simp [h1]
theorem lit_next {s : List UInt8} {br : Nat → Bool × Nd × Nat} {k : Nat} (h : LitInv s br k) (e : (letterS s spL bsL k).1 = true) : LitInv s br (letterS s spL bsL k).2.2 := by
  rcases h with ⟨F, acc, h⟩ | ⟨c, h0, h1, h2⟩
  · cases F with
    | zero => unfold piecesF at h; cases h
    | succ F =>
      obtain ⟨h1, h2, h3⟩ := letter_piece (br := br) e
      have hp := pieceS_at s br k
      rw [piecesF_s, h1, if_pos rfl, hp.1, h2, if_pos rfl, hp.2 h2, h3] at h
      by_cases hs : (isAt s (letterS s spL bsL k).2.2 42 || isAt s (letterS s spL bsL k).2.2 43 || isAt s (letterS s spL bsL k).2.2 63) = true
      · right
        simp only [Bool.or_eq_true] at hs
        rcases hs with (hs | hs) | hs
        · exact ⟨42, of_decide_eq_true hs, by decide, by decide⟩
        · exact ⟨43, of_decide_eq_true hs, by decide, by decide⟩
        · exact ⟨63, of_decide_eq_true hs, by decide, by decide⟩
      · rw [if_neg hs] at h
        exact .inl ⟨_, _, h⟩
  · rw [lit_stop h0 h1 h2] at e
    cases e
theorem lit_stroke {s : List UInt8} {br : Nat → Bool × Nd × Nat} {k : Nat} (h : LitInv s br k) (h0 : s[k]? = some 92) : ∃ c, s[k + 1]? = some c ∧ letterS s spL bsL k = (true, c, k + 2) := by
  have e : (letterS s spL bsL k).1 = true := by
    rcases h with ⟨F, acc, h⟩ | ⟨c, h1, -, h2⟩
    · cases F with
      | zero => unfold piecesF at h; cases h
      | succ F =>
        obtain ⟨h1, h2⟩ := stroke_piece (br := br) h0
        rw [piecesF_s, h1, if_pos rfl, h2] at h
        cases e : (letterS s spL bsL k).1
        · rw [e] at h; simp at h
        · rfl
    · rw [h0] at h1
      exact absurd (Option.some.inj h1).symm h2
  unfold letterS at e ⊢
  rw [at_of h0, decide_eq_true rfl] at e ⊢
  simp only [if_true] at e ⊢
  cases h1 : s[k + 1]? with
  | none => rw [h1] at e; simp at e
  | some c =>
    rw [h1] at e
    refine ⟨c, rfl, ?_⟩
    simp only at e ⊢
    by_cases hc : amongB bsL c = true
    · rw [if_pos hc]
    · rw [if_neg hc] at e; cases e
theorem patS_alt (s : List UInt8) (n k : Nat) : (patS s (n + 1) k).1 = (altF s (patS s n) (s.length + 1) k []).1 ∧ (patS s (n + 1) k).2.2 = (altF s (patS s n) (s.length + 1) k []).2.2 := ⟨rfl, rfl⟩
theorem lit_start {s : List UInt8} (h : rOK s = true) : LitInv s (patS s 40) 0 := by
  unfold rOK at h
  simp only [Bool.and_eq_true] at h
  have h1 := h.1
  rw [(patS_alt s 40 0).1, altF_s] at h1
  refine .inl ⟨s.length + 1, [], ?_⟩
  cases e : (piecesF s (patS s 40) (s.length + 1) 0 []).1
  · rw [e] at h1; simp at h1
  · rfl
theorem lit_none {s : List UInt8} (h : rOK s = false) : literalS s = none := by
  cases e : literalS s with
  | none => rfl
  | some t =>
    obtain ⟨h1, h2⟩ := lit_reads e (patS s 40)
    unfold rOK at h
    rw [(patS_alt s 40 0).1, (patS_alt s 40 0).2, h1, h2] at h
    simp at h
end Go.Proofs.Ytnlfndhgdeapeaa
/- special, Escape: the reference's. -/
namespace Go.Proofs.Ytnlfndhgdeapeaa
open Go.RowKit
set_option maxRecDepth 100000
set_option maxHeartbeats 2000000

theorem rSpecial_any (c : UInt8) (w : World) : Calls Try.prog 27 #[.int .u8 c.toNat] w fun e w' => e = .returned (.bool (amongB spL c)) ∧ w = w' := by
  have C1 := Lib.hid (rAmong_any c ⟨#[92, 46, 91, 93, 40, 41, 124, 42, 43, 63]⟩ w (by decide))
  go_enter Try.func27, Try.ntmps27
  go_wp2_with fail
  refine C1.out.mono ?_
  rintro e w1 ⟨rfl, rfl⟩
  go_wp2
  go_ret
  exact ⟨rfl, rfl⟩
theorem rEscape_any (s : ByteArray) (w : World) (hs : s.size ≤ 1000000) :
    Calls Try.prog 11 #[.string s] w fun e w' => e = .returned (.string ⟨(escS s.data.toList).toArray⟩) ∧ Gr w w' := by
  have hlen : s.data.toList.length = s.size := by simp
  have HL := Lib.hid hlen
  clear hlen
  go_enter Try.func11, Try.ntmps11
  go_wp2
  go_loopw [3, 4] (fun v i wr => ∃ k : Nat, k ≤ s.size ∧ i = .int .i64 k ∧ Hid (OwnB wr w.heap.size v (escS (s.data.toList.take k))) ∧ Hid (Gr w wr)) (fun _ i _ => s.size - (intOf i).toNat)
  case atStart => exact ⟨0, Nat.zero_le _, rfl, OwnB.nil _ _, Gr.refl _⟩
  case round =>
    obtain ⟨k, hk, rfl, HO, HG⟩ := hrel
    have hgs := HG.out.size
    by_cases hlt : k < s.size
    · have hst := escS_step (s := s.data.toList) (k := k) (by rw [HL.out]; exact hlt)
      have ge : s.data.toList[k]'(by rw [HL.out]; exact hlt) = s[k] := rfl
      rw [ge] at hst
      have hl := escS_len (s.data.toList.take k)
      have hl2 : (s.data.toList.take k).length ≤ s.size := by rw [List.length_take, HL.out]; omega
      obtain ⟨c, hc⟩ : ∃ c, s[k] = c := ⟨_, rfl⟩
      rw [hc] at hst
      have n3 : (k : Int) < (s.size : Int) := by omega
      obtain ⟨a, ha⟩ : ∃ a, amongB spL c = a := ⟨_, rfl⟩
      have C2 : Hid (∀ W, Calls Try.prog 27 #[.int .u8 c.toNat] W fun e w' => e = .returned (.bool a) ∧ W = w') := Lib.hid (by rw [← ha]; exact rSpecial_any c)
      have HST := Lib.hid hst
      obtain ⟨cur, hcur⟩ : ∃ cur, escS (s.data.toList.take k) = cur := ⟨_, rfl⟩
      rw [hcur] at HO HST hl
      unfold escB at HST
      rw [ha] at HST
      clear hst ha hcur ge
      cases a
      · have HST2 : Hid (escS (s.data.toList.take (k + 1)) = cur ++ [c]) := Lib.hid (by rw [HST.out]; rfl)
        go_wp2_with fail
        refine (C2.out _).mono ?_
        rintro e w1 ⟨rfl, rfl⟩
        go_wp2_with (at_builtin; refine wpList_appB rfl rfl (.tmp 18) (.tmp 22) (by rfl) (by rfl) (B := w.heap.size) (l := cur) (m := [c]) (HO.out.alloc _) (readsB_new _ _ [c] 1 rfl (by rfl)) (by simp) (by simp; omega) (by simp; omega) ?_; intro v2 W2 hown2 hbk2)
        go_roundw
        case rel => exact ⟨k + 1, by omega, by go_num, Lib.hid (by rw [HST2.out]; exact hown2), Lib.hid ⟨((HG.out.alloc _ _).b).trans (hbk2.b.mono (Nat.le_refl _))⟩⟩
        case measure => simp [intOf]; omega
      · have HST2 : Hid (escS (s.data.toList.take (k + 1)) = cur ++ [92] ++ [c]) := Lib.hid (by rw [HST.out]; simp)
        go_wp2_with fail
        refine (C2.out _).mono ?_
        rintro e w1 ⟨rfl, rfl⟩
        go_wp2_with (first
          | (have tok := hown2; clear tok; at_builtin; refine wpList_appB rfl rfl (.tmp 18) (.tmp 22) (by rfl) (by rfl) (B := w.heap.size) (l := cur ++ [92]) (m := [c]) (hown2.alloc _) (readsB_new _ _ [c] 1 rfl (by rfl)) (by simp) (by simp; omega) (by have := hbk2.b.size; simp at this ⊢; omega) ?_; intro v3 W3 hown3 hbk3)
          | (at_builtin; refine wpList_appB rfl rfl (.tmp 15) (.tmp 16) (by rfl) (by rfl) (B := w.heap.size) (l := cur) (m := [92]) (HO.out.alloc _) (readsB_new _ _ [92] 1 rfl (by rfl)) (by simp) (by simp; omega) (by simp; omega) ?_; intro v2 W2 hown2 hbk2))
        go_roundw
        case rel => exact ⟨k + 1, by omega, by go_num, Lib.hid (by rw [HST2.out]; exact hown3), Lib.hid ⟨((((HG.out.alloc _ _).b).trans hbk2.b).alloc (by have := hbk2.b.size; simp at this; omega) _).trans hbk3.b⟩⟩
        case measure => simp [intOf]; omega
    · obtain rfl : k = s.size := by omega
      have HE : Hid (OwnB wr w.heap.size u3 (escS s.data.toList)) := Lib.hid (by have := HO.out; rwa [List.take_of_length_le (by rw [HL.out]; exact Nat.le_refl _)] at this)
      have hcv := conv_own HE.out
      clear HO
      go_wp2
      go_ret
      exact ⟨rfl, HG.out⟩
end Go.Proofs.Ytnlfndhgdeapeaa
/- The reference's Literal. -/
namespace Go.Proofs.Ytnlfndhgdeapeaa
open Go.RowKit
set_option maxRecDepth 100000
set_option maxHeartbeats 4000000

theorem rLiteral_any (s : ByteArray) (w : World) (hs : s.size ≤ 4096) :
    Calls Try.prog 10 #[.string s] w fun e w' => e = .returned (litV (literalS s.data.toList)) ∧ Gr w w' := by
  have hlen : s.data.toList.length = s.size := by simp
  have HL := Lib.hid hlen
  clear hlen
  have CC := Lib.hid (fun W => rCompile_any s W (by omega))
  cases hok : rOK s.data.toList
  · have HN : Hid (literalS s.data.toList = none) := Lib.hid (lit_none hok)
    have HK := Lib.hid hok
    clear hok
    go_enter Try.func10, Try.ntmps10
    go_wp2_with fail
    refine (CC.out _).mono ?_
    rintro e w1 ⟨cs, place, e, rfl, z1, z2, he, g1⟩
    have h1 : (e != 0) = true := by
      have : e ≠ 0 := fun h => by have := (he.1 h).2; rw [HK.out] at this; cases this
      simpa using this
    clear he
    go_wp2_with (first
      | (refine allocA w1.heap.size rfl rfl rfl ?_; intro W2 hb2 hg2 hs2)
      | (refine storeA (.tmp 4) (.tmp 13) w1.heap.size ⟨rfl, rfl⟩ rfl rfl rfl hb2 z1 z2 ?_; intro W3 hb3 ho3 hs3))
    go_ret2
    exact ⟨by rw [HN.out]; rfl, (g1.trans hg2).only ho3 (g1.size)⟩
  · have HI := Lib.hid (lit_start hok)
    have HK := Lib.hid hok
    clear hok
    obtain ⟨br, hbr⟩ : ∃ br, patS s.data.toList 40 = br := ⟨_, rfl⟩
    rw [hbr] at HI
    clear hbr
    go_enter Try.func10, Try.ntmps10
    go_wp2_with fail
    refine (CC.out _).mono ?_
    rintro e w1 ⟨cs, place, e, rfl, z1, z2, he, g1⟩
    obtain rfl : e = 0 := he.2 ⟨hs, HK.out⟩
    clear he
    go_wp2_with (first
      | (refine allocA w1.heap.size rfl rfl rfl ?_; intro W2 hb2 hg2 hs2)
      | (refine storeA (.tmp 4) (.tmp 13) w1.heap.size ⟨rfl, rfl⟩ rfl rfl rfl hb2 z1 z2 ?_; intro W3 hb3 ho3 hs3))
    have HG3 := Lib.hid ((g1.trans hg2).only ho3 (g1.size))
    clear g1 hg2 ho3 hb2 hb3 hs2 hs3 CC HK
    go_loopw [7, 8] (fun v i wr => ∃ (k g : Nat) (out : List UInt8), k ≤ s.size ∧ i = .int .i64 k ∧ s.size < k + g ∧ out.length ≤ k ∧ Hid (OwnB wr w.heap.size v out) ∧ Hid (literalS s.data.toList = litF s.data.toList g k out) ∧ Hid (k < s.size → LitInv s.data.toList br k) ∧ Hid (Gr w wr)) (fun _ i _ => s.size - (intOf i).toNat)
    case atStart => exact ⟨0, s.size + 1, [], Nat.zero_le _, rfl, by omega, Nat.le_refl _, OwnB.nil _ _, Lib.hid (by unfold literalS; rw [HL.out]), Lib.hid (fun _ => HI.out), HG3⟩
    case round =>
      obtain ⟨k, g, out, hk, rfl, hkg, hol, HO, HE, HV, HG⟩ := hrel
      have hgs := HG.out.size
      by_cases hlt : k < s.size
      · have h0 : s.data.toList[k]? = some s[k] := by
          rw [List.getElem?_eq_getElem (by rw [HL.out]; exact hlt)]; rfl
        have hv := HV.out hlt
        obtain ⟨g, rfl⟩ : ∃ f, g = f + 1 := ⟨g - 1, by omega⟩
        have hF := HE.out
        rw [litF_s, if_pos (by rw [HL.out]; exact hlt)] at hF
        have n3 : (k : Int) < (s.size : Int) := by omega
        obtain ⟨c, hc⟩ : ∃ c, s[k] = c := ⟨_, rfl⟩
        rw [hc] at h0
        by_cases h92 : c = 92
        · obtain ⟨d, h1, h2⟩ := lit_stroke hv (by rw [h0, h92])
          have hk1 : k + 1 < s.size := by have := (List.getElem?_eq_some_iff.1 h1).1; rwa [HL.out] at this
          have hd : s[k + 1] = d := by
            rw [List.getElem?_eq_getElem (by rw [HL.out]; exact hk1)] at h1
            exact Option.some.inj h1
          have hn := lit_next hv (by rw [h2])
          rw [h2] at hF hn
          have HF := Lib.hid hF
          have HN := Lib.hid hn
          have b1 : ((c.toNat : Int) == 92) = true := by rw [h92]; rfl
          have n4 : (k : Int) + 1 < (s.size : Int) := by omega
          have n5 : (0 : Int) ≤ (k : Int) + 1 := by omega
          clear h0 hF hn h1 h2 hv h92 HE HV
          go_wp2_with (at_builtin; refine wpList_appB rfl rfl (.tmp 36) (.tmp 38) (by rfl) (by rfl) (B := w.heap.size) (l := out) (m := [d]) (HO.out.alloc _) (readsB_new _ _ [d] 1 rfl (by rfl)) (by simp) (by simp; omega) (by simp; omega) ?_; intro v2 W2 hown2 hbk2)
          go_roundw
          case rel => exact ⟨k + 2, g, out ++ [d], by omega, by go_num, by omega, by simp; omega, Lib.hid hown2, HF, Lib.hid (fun _ => HN.out), Lib.hid ⟨((HG.out.alloc _ _).b).trans (hbk2.b.mono (Nat.le_refl _))⟩⟩
          case measure => simp [intOf]; omega
        · have b1 : ((c.toNat : Int) == 92) = false := by
            rw [beq_eq_false_iff_ne]
            intro h
            exact h92 (by apply UInt8.toNat_inj.1; show c.toNat = 92; omega)
          obtain ⟨a, ha⟩ : ∃ a, amongB spL c = a := ⟨_, rfl⟩
          have C2 : Hid (∀ W, Calls Try.prog 27 #[.int .u8 c.toNat] W fun e w' => e = .returned (.bool a) ∧ W = w') := Lib.hid (by rw [← ha]; exact rSpecial_any c)
          cases a
          · have hp := lit_plain h0 ha
            have hn := lit_next hv (by rw [hp])
            rw [hp] at hF hn
            have HF := Lib.hid hF
            have HN := Lib.hid hn
            clear h0 hF hn hp hv h92 HE HV ha
            go_wp2_with fail
            refine (C2.out _).mono ?_
            rintro e w1 ⟨rfl, rfl⟩
            go_wp2_with (at_builtin; refine wpList_appB rfl rfl (.tmp 36) (.tmp 38) (by rfl) (by rfl) (B := w.heap.size) (l := out) (m := [c]) (HO.out.alloc _) (readsB_new _ _ [c] 1 rfl (by rfl)) (by simp) (by simp; omega) (by simp; omega) ?_; intro v2 W2 hown2 hbk2)
            go_roundw
            case rel => exact ⟨k + 1, g, out ++ [c], by omega, by go_num, by omega, by simp; omega, Lib.hid hown2, HF, Lib.hid (fun _ => HN.out), Lib.hid ⟨((HG.out.alloc _ _).b).trans (hbk2.b.mono (Nat.le_refl _))⟩⟩
            case measure => simp [intOf]; omega
          · rw [lit_stop h0 ha h92] at hF
            have HF : Hid (literalS s.data.toList = none) := Lib.hid (by rw [hF]; rfl)
            clear h0 hF hv h92 HE HV ha
            go_wp2_with fail
            refine (C2.out _).mono ?_
            rintro e w1 ⟨rfl, rfl⟩
            go_wp2
            go_ret2
            exact ⟨by rw [HF.out]; rfl, HG.out⟩
      · obtain rfl : k = s.size := by omega
        obtain ⟨g, rfl⟩ : ∃ f, g = f + 1 := ⟨g - 1, by omega⟩
        have hF := HE.out
        rw [litF_s, if_neg (by rw [HL.out]; omega)] at hF
        have HF := Lib.hid hF
        have hcv := conv_own HO.out
        clear hF HE HV HO
        go_wp2
        go_ret2
        exact ⟨by rw [HF.out]; rfl, HG.out⟩
end Go.Proofs.Ytnlfndhgdeapeaa
