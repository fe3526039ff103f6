/- The walk of LabelsTexts. -/
import Derived.Test.YtgjmjfpeonldgaaDoorKnown
import Derived.Test.YtgjmjfpeonldgaaDoorRight
import Derived.Test.YtgjmjfpeonldgaaDoorRefUnq
import Derived.Test.YtgjmjfpeonldgaaDoorRefText
namespace Go.Proofs.YtgjmjfpeonldgaaDoor
open Go.RowKit Go.Sort
set_option maxRecDepth 100000
set_option maxHeartbeats 8000000

theorem szT_few {l : List Lb} (h : fewP l) : szT l ≤ 137438953472 := by
  obtain ⟨h1, h2⟩ := h
  have key : ∀ l : List Lb, (∀ x ∈ l, x.1.size ≤ 400 ∧ x.2.size ≤ 2000) → szT l ≤ 8404 * l.length := by
    intro l
    induction l with
    | nil => intro _; simp [szT]
    | cons x r ih =>
      intro h
      have g1 := ih fun y hy => h y (List.mem_cons_of_mem _ hy)
      have g2 := h x List.mem_cons_self
      have h3 : szT (x :: r) = x.1.size + 4 * x.2.size + 4 + szT r := rfl
      rw [List.length_cons]
      omega
  have := key l h2
  omega
theorem lit_size (l : List UInt8) : (⟨l.toArray⟩ : ByteArray).size = l.length := by show l.toArray.size = _; simp
theorem uqV_form (o : Option (List UInt8 × Nat)) : ∃ y n e, uqV o = .tuple #[.string y, .int .i64 n, .int .i64 e] := by
  cases o with
  | none => exact ⟨_, _, _, rfl⟩
  | some x => exact ⟨_, _, _, rfl⟩
theorem uqV_quote (s more : ByteArray) : uqV (unquoteL ((⟨(quoteL s.data.toList).toArray⟩ ++ more : ByteArray).data.toList)) = .tuple #[.string s, .int .i64 ((quoteL s.data.toList).length : Int), .int .i64 0] := by
  rw [show (⟨(quoteL s.data.toList).toArray⟩ ++ more : ByteArray).data.toList = quoteL s.data.toList ++ more.data.toList by simp [ByteArray.data_append], unquote_quote]
  show Value.tuple #[.string ⟨s.data.toList.toArray⟩, _, _] = _
  rw [← str_eta s]
theorem lawTexts_long (A : Option Addr) (n c : Nat) (s more : ByteArray) (w : World) (h : 2000 < s.size ∨ 2000 < more.size) (hk : Kn w) :
    Calls Tryd.prog 6 #[.string s, .string more, .slice A n c] w fun e w' => e = .returned (.bool true) ∧ Gr w w' := by
  have CKN := Lib.hid (known_any w hk)
  clear hk
  have key : decide ((2000 : Int) < (s.size : Int)) = true ∨ (decide ((2000 : Int) < (s.size : Int)) = false ∧ decide ((2000 : Int) < (more.size : Int)) = true) := by simp; omega
  clear h
  rcases key with h | ⟨h1, h2⟩
  all_goals
    go_enter Tryd.func6, Tryd.ntmps6
    go_wp2_with fail
    refine CKN.out.mono ?_
    rintro e w1 ⟨rfl, g1⟩
    go_wp2
    go_ret
    exact ⟨rfl, g1⟩
theorem lawTexts_not (A : Option Addr) (n c : Nat) (s more : ByteArray) (w : World) (h1 : s.size ≤ 2000) (h2 : more.size ≤ 2000) (hF : ∀ W, Gr w W → Calls Tryd.prog 9 #[.slice A n c] W fun e w' => e = .returned (.bool false) ∧ W = w') (hk : Kn w) :
    Calls Tryd.prog 6 #[.string s, .string more, .slice A n c] w fun e w' => e = .returned (.bool true) ∧ Gr w w' := by
  have CKN := Lib.hid (known_any w hk)
  have CF := Lib.hid hF
  clear hk hF
  have d1 : decide ((2000 : Int) < (s.size : Int)) = false := by simp; omega
  have d2 : decide ((2000 : Int) < (more.size : Int)) = false := by simp; omega
  clear h1 h2
  go_enter Tryd.func6, Tryd.ntmps6
  go_wp2_with fail
  refine CKN.out.mono ?_
  rintro e w1 ⟨rfl, g1⟩
  go_wp2_with (go_at_call 9; refine (CF.out _ g1).mono ?_; rintro e w2 ⟨rfl, rfl⟩)
  go_ret
  exact ⟨rfl, g1⟩
theorem lawTexts_any (A : Option Addr) (l : List Lb) (c : Nat) (s more : ByteArray) (w : World) (h : LabsAt w A l) (hw : Wd l) (hf : fewP l) (h1 : s.size ≤ 2000) (h2 : more.size ≤ 2000) (hk : Kn w) :
    Calls Tryd.prog 6 #[.string s, .string more, .slice A l.length c] w fun e w' => e = .returned (.bool true) ∧ Gr w w' := by
  have hl : l.length ≤ 80 := hf.1
  have hsz := szT_few hf
  have CKN := Lib.hid (known_any w hk)
  have CF := Lib.hid (fun W (g : Gr w W) => few_any A l c W (h.gr g) hw (by omega))
  rw [decide_eq_true hf] at CF
  have CR := Lib.hid (fun W (g : Gr w W) => rRight_any A l c W (h.gr g) hw (by omega))
  have CT := Lib.hid (fun W (g : Gr w W) => text_any A l c W (h.gr g) (by omega) hsz)
  have CTR := Lib.hid (fun W (g : Gr w W) => rText_any A l c W (h.gr g) (by omega) hsz)
  have hql := quoteL_len s.data.toList
  rw [show s.data.toList.length = s.size by simp] at hql
  have CQ := Lib.hid (fun W => quote_any s W (by omega))
  have CQR := Lib.hid (fun W => rQuote_any s W (by omega))
  have CU := Lib.hid (fun W => unquote_any (⟨(quoteL s.data.toList).toArray⟩ ++ more) W (by rw [ByteArray.size_append, lit_size]; omega))
  rw [uqV_quote] at CU
  have CV := Lib.hid (fun W => unquote_any s W (by omega))
  have CVR := Lib.hid (fun W => rUnquote_any s W (by omega))
  obtain ⟨y, n, ev, hy⟩ := uqV_form (unquoteL s.data.toList)
  rw [hy] at CV CVR
  obtain ⟨Q, hQ⟩ : ∃ Q, quoteL s.data.toList = Q := ⟨_, rfl⟩
  rw [hQ] at CQ CQR CU hql
  obtain ⟨T, hT⟩ : ∃ T, textL l = T := ⟨_, rfl⟩
  rw [hT] at CT CTR
  obtain ⟨rb, hrb⟩ : ∃ rb, rightB l = rb := ⟨_, rfl⟩
  rw [hrb] at CR
  have d1 : decide ((2000 : Int) < (s.size : Int)) = false := by simp; omega
  have d2 : decide ((2000 : Int) < (more.size : Int)) = false := by simp; omega
  have hz1 : ¬ 9223372036854775807 < Q.length + more.size := by omega
  clear h hw hf hk hy hQ hT hrb hsz h1 h2 hql
  go_enter Tryd.func6, Tryd.ntmps6
  go_wp2_with fail
  refine CKN.out.mono ?_
  rintro e w1 ⟨rfl, g1⟩
  go_wp2_with (go_at_call 9; refine (CF.out _ g1).mono ?_; rintro e w2 ⟨rfl, rfl⟩)
  refine (CQ.out _).mono ?_
  rintro e w3 ⟨rfl, g3⟩
  go_wp2_with fail
  refine (CU.out _).mono ?_
  rintro e w4 ⟨rfl, g4⟩
  go_wp2_with fail
  refine (CV.out _).mono ?_
  rintro e w5 ⟨rfl, g5⟩
  go_wp2_with fail
  refine (CVR.out _).mono ?_
  rintro e w6 ⟨rfl, g6⟩
  go_wp2_with fail
  refine (CQR.out _).mono ?_
  rintro e w7 ⟨rfl, g7⟩
  have G7 := Lib.hid (((((g1.trans g3).trans g4).trans g5).trans g6).trans g7)
  clear g1 g3 g4 g5 g6 g7
  go_wp2_with fail
  refine (CR.out _ G7.out).mono ?_
  rintro e w8 ⟨rfl, g8⟩
  have G8 := Lib.hid (G7.out.trans g8)
  clear g8
  cases rb
  · go_wp2
    go_ret
    exact ⟨rfl, G8.out⟩
  · go_wp2_with (first | (go_at_call 38; refine (CT.out _ G8.out).mono ?_; rintro e w9 ⟨rfl, g9⟩) | (go_at_call 39; refine (CTR.out _ (G8.out.trans g9)).mono ?_; rintro e w10 ⟨rfl, g10⟩))
    go_ret
    exact ⟨rfl, (G8.out.trans g9).trans g10⟩
theorem walkTexts (A : Option Addr) (n c : Nat) (s more : ByteArray) (w : World) (h : n ≤ 80 → ∃ l : List Lb, l.length = n ∧ LabsAt w A l ∧ Wd l) (hn : n ≤ maxLen) (hk : Kn w) :
    Calls Tryd.prog 6 #[.string s, .string more, .slice A n c] w fun e w' => e = .returned (.bool true) ∧ Gr w w' := by
  by_cases h1 : 2000 < s.size ∨ 2000 < more.size
  · exact lawTexts_long A n c s more w h1 hk
  have hs : s.size ≤ 2000 := by omega
  have hm : more.size ≤ 2000 := by omega
  by_cases h80 : n ≤ 80
  · obtain ⟨l, rfl, hl, hw⟩ := h h80
    by_cases hf : fewP l
    · exact lawTexts_any A l c s more w hl hw hf hs hm hk
    · refine lawTexts_not A _ c s more w hs hm (fun W g => ?_) hk
      have := few_any A l c W (hl.gr g) hw (by omega)
      rwa [decide_eq_false hf] at this
  · exact lawTexts_not A n c s more w hs hm (fun W _ => few_big _ _ _ _ (by omega) hn) hk
end Go.Proofs.YtgjmjfpeonldgaaDoor
