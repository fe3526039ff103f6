/- What comes in, read. -/
import Derived.Test.YtnlfndhgdeapeaaMNew
import Derived.Test.YtnlfndhgdeapeaaRcomp
import Derived.Test.YtnlfndhgdeapeaaMKnown
import Derived.Test.YtnlfndhgdeapeaaGr
import Derived.Test.YtnlfndhgdeapeaaRows
import Derived.ChangeSame
import Derived.WideShapes
import Derived.ProofKit
import Derived.LaidMore
import Derived.LaidSub
import Derived.Lay
import Derived.OpenShut
import Derived.Lib.LaidTab
import Derived.Lib.SmallJoins
import Derived.Deep.Slices
import Derived.Deep.Strs
namespace Go.Proofs.Ytnlfndhgdeapeaa
open Go.RowKit
set_option maxRecDepth 100000
set_option maxHeartbeats 2000000

/-- may a matcher be, by the reference's reader -/
def rchkM (m : Mt) : Bool := !(signL m.k).isEmpty && nameB m.n && decide (m.v.size ≤ 256) && (!hasP m.k || rOK m.v.data.toList)
def rchkL (l : List Mt) : Bool := decide (l.length ≤ 32) && l.all rchkM
theorem sign_empty (k : Int) : ((signL k).isEmpty = true) ↔ (k < 1 ∨ 4 < k) := by
  rcases kind_cases k with rfl | rfl | rfl | rfl | h
  · decide
  · decide
  · decide
  · decide
  · have h1 := beq_eq_false_iff_ne.1 h.1
    have h2 := beq_eq_false_iff_ne.1 h.2.1
    have h3 := beq_eq_false_iff_ne.1 h.2.2.1
    have h4 := beq_eq_false_iff_ne.1 h.2.2.2.1
    rw [h.2.2.2.2.1]
    simp
    omega
def RChkPost (b : Bool) (w : World) (e : Ending) (w' : World) : Prop := ∃ x : Int, e = .returned (.int .i64 x) ∧ (x = 0 ↔ b = true) ∧ Gr w w'
theorem rcheck_any (A : Option Addr) (l : List Mt) (c : Nat) (w : World) (h : MatsAt w A l) (hw : Wm l) (hl : l.length ≤ 1099511627776) :
    Calls Try.prog 17 #[.slice A l.length c] w (RChkPost (rchkL l) w) := by
  have HL := Lib.hid h
  have HW := Lib.hid hw
  clear h hw
  by_cases h32 : 32 < l.length
  · have HN : Hid (rchkL l = false) := Lib.hid (by unfold rchkL; rw [decide_eq_false (by omega)]; rfl)
    have n1 : (32 : Int) < (l.length : Int) := by omega
    go_enter Try.func17, Try.ntmps17
    go_wp2
    go_ret
    exact ⟨1, rfl, by rw [HN.out]; simp, Gr.refl w⟩
  · have H0 : Hid (rchkL l = l.all rchkM) := Lib.hid (by unfold rchkL; rw [decide_eq_true (by omega)]; rfl)
    have n1 : ¬ (32 : Int) < (l.length : Int) := by omega
    go_enter Try.func17, Try.ntmps17
    go_wp2
    go_loopw [3] (fun i wr => ∃ k : Nat, k ≤ l.length ∧ i = .int .i64 k ∧ Hid (rchkL l = (l.drop k).all rchkM) ∧ Gr w wr) (fun i _ => l.length - (intOf i).toNat)
    case atStart => exact ⟨0, Nat.zero_le _, rfl, Lib.hid (by rw [H0.out]; rfl), Gr.refl _⟩
    case round =>
      obtain ⟨k, hk, rfl, HR, hg⟩ := hrel
      by_cases hlt : k < l.length
      · obtain ⟨b, o, rfl, c1, c2, c3, -⟩ := (HL.out.gr hg).at_ hlt
        have HS : Hid ((l.drop k).all rchkM = (rchkM l[k] && (l.drop (k + 1)).all rchkM)) := Lib.hid (by rw [List.drop_eq_getElem_cons hlt, List.all_cons])
        have hm := HW.out l[k] (List.getElem_mem hlt)
        obtain ⟨⟨mk, mn, mv⟩, hx⟩ : ∃ x, l[k] = x := ⟨_, rfl⟩
        rw [hx] at c1 c2 c3 HS hm
        simp only at hm
        have CN := Lib.hid (fun W => rName_any mn W hm.1)
        have hms := hm.2
        unfold maxLen at hms
        clear hx hm
        by_cases hs : mk < 1 ∨ 4 < mk
        · have HN : Hid (rchkL l = false) := Lib.hid (by rw [HR.out, HS.out]; unfold rchkM; rw [(sign_empty mk).2 hs]; rfl)
          have key : mk < 1 ∨ (¬ mk < 1 ∧ 4 < mk) := by omega
          rcases key with h1 | ⟨h1, h2⟩
          all_goals
            go_wp2
            go_ret
            exact ⟨1, rfl, by rw [HN.out]; simp, by go_simp; exact hg.alloc _ _⟩
        · have hse : (signL mk).isEmpty = false := by
            rw [← Bool.not_eq_true, sign_empty]
            exact hs
          have h1 : ¬ mk < 1 := by omega
          have h2 : ¬ 4 < mk := by omega
          clear hs
          cases hnb : nameB mn
          · have HN : Hid (rchkL l = false) := Lib.hid (by rw [HR.out, HS.out]; unfold rchkM; rw [hnb, hse]; rfl)
            rw [hnb] at CN
            clear hnb hse
            go_wp2_with fail
            refine (CN.out _).mono ?_
            rintro e w1 ⟨rfl, rfl⟩
            go_wp2
            go_ret
            exact ⟨1, rfl, by rw [HN.out]; simp, by go_simp; exact hg.alloc _ _⟩
          · rw [hnb] at CN
            by_cases hbig : 256 < mv.size
            · have HN : Hid (rchkL l = false) := Lib.hid (by rw [HR.out, HS.out]; unfold rchkM; rw [hnb, hse, decide_eq_false (by simpa using hbig)]; rfl)
              have n2 : (256 : Int) < (mv.size : Int) := by omega
              clear hnb hse
              go_wp2_with fail
              refine (CN.out _).mono ?_
              rintro e w1 ⟨rfl, rfl⟩
              go_wp2
              go_ret
              exact ⟨1, rfl, by rw [HN.out]; simp, by go_simp; exact hg.alloc _ _⟩
            · have n2 : ¬ (256 : Int) < (mv.size : Int) := by omega
              have HM : Hid (rchkM ⟨mk, mn, mv⟩ = (!hasP mk || rOK mv.data.toList)) := Lib.hid (by unfold rchkM; rw [hnb, hse, decide_eq_true (by simpa using hbig)]; rfl)
              clear hnb hse
              by_cases h3 : mk < 3
              · have HN : Hid (rchkL l = (l.drop (k + 1)).all rchkM) := Lib.hid (by
                  rw [HR.out, HS.out, HM.out]
                  have : hasP mk = false := by unfold hasP; rw [decide_eq_false (by omega), decide_eq_false (by omega)]; rfl
                  rw [this]; rfl)
                have n3 : ¬ (3 : Int) ≤ mk := by omega
                go_wp2_with fail
                refine (CN.out _).mono ?_
                rintro e w1 ⟨rfl, rfl⟩
                go_wp2
                go_roundw
                case rel => exact ⟨k + 1, by omega, by go_num, HN, by go_simp; exact hg.alloc _ _⟩
                case measure => simp [intOf]; omega
              · have n3 : (3 : Int) ≤ mk := by omega
                have hpk : hasP mk = true := by
                  unfold hasP
                  rcases (by omega : mk = 3 ∨ mk = 4) with rfl | rfl <;> rfl
                have CC := Lib.hid (fun W => rCompile_any mv W (by omega))
                have HZ : Hid (mv.size ≤ 4096) := Lib.hid (by omega)
                have HM2 : Hid (rchkM ⟨mk, mn, mv⟩ = rOK mv.data.toList) := Lib.hid (by rw [HM.out, hpk]; rfl)
                clear hpk h3
                go_wp2_with fail
                refine (CN.out _).mono ?_
                rintro e w1 ⟨rfl, rfl⟩
                go_wp2_with fail
                refine (CC.out _).mono ?_
                rintro e w2 ⟨cs, place, e, rfl, z1, z2, he, g2⟩
                obtain ⟨N2, hN2⟩ : ∃ N, w2.heap.size = N := ⟨_, rfl⟩
                have HG2 : Hid (Gr w w2) := Lib.hid ((by first | exact (hg.alloc _ _).trans g2))
                have hgs := g2.size
                have HE := Lib.hid he
                clear he g2
                by_cases h0 : e = 0
                · subst h0
                  have HN : Hid (rchkL l = (l.drop (k + 1)).all rchkM) := Lib.hid (by rw [HR.out, HS.out, HM2.out, (HE.out.1 rfl).2]; rfl)
                  go_wp2_with (first
                    | (refine allocA w2.heap.size rfl rfl rfl ?_; intro W3 hb3 hg3 hs3)
                    | (refine storeA (.tmp 5) (.tmp 48) w2.heap.size ⟨rfl, rfl⟩ rfl rfl rfl hb3 z1 z2 ?_; intro W4 hb4 ho4 hs4))
                  go_roundw
                  case rel => exact ⟨k + 1, by omega, by go_num, HN, (HG2.out.trans hg3).only ho4 HG2.out.size⟩
                  case measure => simp [intOf]; omega
                · have hb : (e != 0) = true := by simpa using h0
                  have HN : Hid (rchkL l = false) := Lib.hid (by
                    rw [HR.out, HS.out, HM2.out]
                    cases e9 : rOK mv.data.toList
                    · rfl
                    · exact absurd (HE.out.2 ⟨HZ.out, e9⟩) h0)
                  have H0 := Lib.hid h0
                  clear h0
                  go_wp2_with (first
                    | (refine allocA w2.heap.size rfl rfl rfl ?_; intro W3 hb3 hg3 hs3)
                    | (refine storeA (.tmp 5) (.tmp 48) w2.heap.size ⟨rfl, rfl⟩ rfl rfl rfl hb3 z1 z2 ?_; intro W4 hb4 ho4 hs4))
                  go_ret
                  exact ⟨e, rfl, ⟨fun h => absurd h H0.out, fun h => by rw [HN.out] at h; cases h⟩, (HG2.out.trans hg3).only ho4 HG2.out.size⟩
      · obtain rfl : k = l.length := by omega
        have HN : Hid (rchkL l = true) := Lib.hid (by rw [HR.out, List.drop_length]; rfl)
        go_wp2
        go_ret
        exact ⟨0, rfl, by rw [HN.out]; simp, hg⟩
end Go.Proofs.Ytnlfndhgdeapeaa
namespace Go.Proofs.Ytnlfndhgdeapeaa
open Go.RowKit
set_option maxRecDepth 100000
set_option maxHeartbeats 1000000

theorem quoteL_inj {a b : List UInt8} (h : quoteL a = quoteL b) : a = b := by
  have h1 := unquote_quote a []
  have h2 := unquote_quote b []
  rw [List.append_nil] at h1 h2
  rw [h, h2] at h1
  simp only [Option.some.injEq, Prod.mk.injEq] at h1
  exact h1.1.symm
theorem split_eq (P : UInt8 → Bool) : ∀ (n m : List UInt8) (d e : UInt8) (r q : List UInt8), (∀ c ∈ n, P c = true) → (∀ c ∈ m, P c = true) → P d = false → P e = false → n ++ d :: r = m ++ e :: q → n = m ∧ d :: r = e :: q
  | [], [], d, e, r, q, _, _, _, _, h => ⟨rfl, by simpa using h⟩
  | [], y :: m, d, e, r, q, _, h2, h3, _, h => by
    simp only [List.nil_append, List.cons_append, List.cons.injEq] at h
    have := h2 y (List.mem_cons_self ..)
    rw [← h.1, h3] at this
    cases this
  | x :: n, [], d, e, r, q, h1, _, _, h4, h => by
    simp only [List.nil_append, List.cons_append, List.cons.injEq] at h
    have := h1 x (List.mem_cons_self ..)
    rw [h.1, h4] at this
    cases this
  | x :: n, y :: m, d, e, r, q, h1, h2, h3, h4, h => by
    simp only [List.cons_append, List.cons.injEq] at h
    obtain ⟨e1, e2⟩ := split_eq P n m d e r q (fun c hc => h1 c (List.mem_cons_of_mem _ hc)) (fun c hc => h2 c (List.mem_cons_of_mem _ hc)) h3 h4 h.2
    exact ⟨by rw [h.1, e1], e2⟩
theorem name_chars {n : List UInt8} (h : nameL n = true) : ∀ c ∈ n, (letB c || digB c) = true := by
  cases n with
  | nil => intro c hc; cases hc
  | cons x r =>
    unfold nameL at h
    simp only [Bool.and_eq_true] at h
    intro c hc
    rcases List.mem_cons.1 hc with rfl | hc
    · rw [h.1.2]; rfl
    · exact List.all_eq_true.1 h.2 c hc
theorem ba_ext {a b : ByteArray} (h : a.data.toList = b.data.toList) : a = b := by
  apply ByteArray.ext
  exact Array.toList_inj.1 h
theorem rchk_kind {m : Mt} (h : rchkM m = true) : (m.k = 1 ∨ m.k = 2 ∨ m.k = 3 ∨ m.k = 4) ∧ nameL m.n.data.toList = true := by
  unfold rchkM at h
  simp only [Bool.and_eq_true] at h
  refine ⟨?_, h.1.1.2⟩
  rcases kind_cases m.k with e | e | e | e | e
  · exact .inl e
  · exact .inr (.inl e)
  · exact .inr (.inr (.inl e))
  · exact .inr (.inr (.inr e))
  · have := h.1.1.1
    rw [e.2.2.2.2.1] at this
    cases this
theorem text_list {m : Mt} (h : m.k = 1 ∨ m.k = 2 ∨ m.k = 3 ∨ m.k = 4) : (textM m).data.toList = m.n.data.toList ++ (signL m.k ++ quoteL m.v.data.toList) := by
  unfold textM
  rw [if_neg (by rcases h with e | e | e | e <;> rw [e] <;> decide)]
  simp [ByteArray.data_append]
theorem sign_quote {j k : Int} {a b : List UInt8} (hj : j = 1 ∨ j = 2 ∨ j = 3 ∨ j = 4) (hk : k = 1 ∨ k = 2 ∨ k = 3 ∨ k = 4) (h : signL j ++ quoteL a = signL k ++ quoteL b) : j = k ∧ a = b := by
  unfold quoteL at h
  rcases hj with rfl | rfl | rfl | rfl <;> rcases hk with rfl | rfl | rfl | rfl
  all_goals first
    | (exact ⟨rfl, quoteL_inj (by unfold quoteL; exact List.append_cancel_left h)⟩)
    | (exfalso; simp [signL] at h)
theorem sign_head {k : Int} (h : k = 1 ∨ k = 2 ∨ k = 3 ∨ k = 4) (q : List UInt8) : ∃ d r, signL k ++ q = d :: r ∧ (letB d || digB d) = false := by
  rcases h with rfl | rfl | rfl | rfl
  · exact ⟨61, q, rfl, by decide⟩
  · exact ⟨33, 61 :: q, rfl, by decide⟩
  · exact ⟨61, 126 :: q, rfl, by decide⟩
  · exact ⟨33, 126 :: q, rfl, by decide⟩
theorem text_inj {a b : Mt} (ha : rchkM a = true) (hb : rchkM b = true) (h : textM a = textM b) : a.k = b.k ∧ a.n = b.n ∧ a.v = b.v := by
  obtain ⟨k1, n1⟩ := rchk_kind ha
  obtain ⟨k2, n2⟩ := rchk_kind hb
  have e := congrArg (fun x : ByteArray => x.data.toList) h
  rw [text_list k1, text_list k2] at e
  obtain ⟨d1, r1, e1, p1⟩ := sign_head k1 (quoteL a.v.data.toList)
  obtain ⟨d2, r2, e2, p2⟩ := sign_head k2 (quoteL b.v.data.toList)
  rw [e1, e2] at e
  obtain ⟨e3, e4⟩ := split_eq _ _ _ _ _ _ _ (name_chars n1) (name_chars n2) p1 p2 e
  rw [← e1, ← e2] at e4
  obtain ⟨e5, e6⟩ := sign_quote k1 k2 e4
  exact ⟨e5, ba_ext e3, ba_ext e6⟩
end Go.Proofs.Ytnlfndhgdeapeaa
namespace Go.Proofs.Ytnlfndhgdeapeaa
open Go.RowKit Go.Maps Go.WideMaps
set_option maxRecDepth 100000
set_option maxHeartbeats 4000000

theorem lawTx_any (a b : Mt) (w : World) (ha : a.n.size ≤ maxLen ∧ a.v.size ≤ maxLen) (hb : b.n.size ≤ maxLen ∧ b.v.size ≤ maxLen) :
    Calls Try.prog 4 #[a.val, b.val] w fun e w' => e = .returned (.bool true) ∧ Gr w w' := by
  have hwm : Wm [a, b] := by intro x hx; simp at hx; rcases hx with rfl | rfl <;> assumption
  have CK := Lib.hid (fun W => mknown_any W)
  have CF := Lib.hid (fun N W (h : W.heap[N]? = some (.cells ([a, b].flatMap encM).toArray 33 (0, 0))) => mfew_any (some ⟨N, 0, none⟩) [a, b] 2 W (mats_new h) hwm (show 2 ≤ maxLen by unfold maxLen; omega))
  have CR := Lib.hid (fun N W (h : W.heap[N]? = some (.cells ([a, b].flatMap encM).toArray 33 (0, 0))) => rcheck_any (some ⟨N, 0, none⟩) [a, b] 2 W (mats_new h) hwm (show 2 ≤ 1099511627776 by omega))
  have HA := Lib.hid (mfewB_ok (l := [a, b]))
  have TA := Lib.hid (fun W (h : a.n.size ≤ 1000000) (g : a.v.size ≤ 1000000) => mtext_any a W h g)
  have TB := Lib.hid (fun W (h : b.n.size ≤ 1000000) (g : b.v.size ≤ 1000000) => mtext_any b W h g)
  have RA := Lib.hid (fun W (h : a.n.size ≤ 1000000) (g : a.v.size ≤ 1000000) => rText_any a W h g)
  have RB := Lib.hid (fun W (h : b.n.size ≤ 1000000) (g : b.v.size ≤ 1000000) => rText_any b W h g)
  have HI : Hid (rchkL [a, b] = true → (((textM a).toList == (textM b).toList) = (a.k == b.k && a.n.toList == b.n.toList && a.v.toList == b.v.toList))) := Lib.hid (fun h => by
    unfold rchkL at h
    simp only [List.all_cons, List.all_nil, Bool.and_true, Bool.and_eq_true] at h
    rw [Bool.eq_iff_iff]
    simp only [beq_iff_eq, Bool.and_eq_true, Lib.toList_data]
    constructor
    · intro e
      obtain ⟨e1, e2, e3⟩ := text_inj h.2.1 h.2.2 (ba_ext e)
      rw [e1, e2, e3]
      exact ⟨⟨rfl, rfl⟩, rfl⟩
    · rintro ⟨⟨e1, e2⟩, e3⟩
      obtain ⟨k, n, v⟩ := a
      obtain ⟨k', n', v'⟩ := b
      simp only at e1 e2 e3
      rw [e1, ba_ext e2, ba_ext e3])
  obtain ⟨ak, an, av⟩ := a
  obtain ⟨bk, bn, bv⟩ := b
  obtain ⟨X, hX⟩ : ∃ X, textM ⟨ak, an, av⟩ = X := ⟨_, rfl⟩
  obtain ⟨Y, hY⟩ : ∃ Y, textM ⟨bk, bn, bv⟩ = Y := ⟨_, rfl⟩
  obtain ⟨fw, hf⟩ : ∃ f, mfewB [⟨ak, an, av⟩, ⟨bk, bn, bv⟩] = f := ⟨_, rfl⟩
  obtain ⟨rc, hr⟩ : ∃ f, rchkL [⟨ak, an, av⟩, ⟨bk, bn, bv⟩] = f := ⟨_, rfl⟩
  rw [hX] at TA RA HI
  rw [hY] at TB RB HI
  rw [hf] at CF HA
  rw [hr] at CR HI
  simp only at TA TB RA RB
  have CF2 : Hid (∀ N W, W.heap[N]? = some (.cells #[.int .i64 ak, .string an, .string av, .int .i64 bk, .string bn, .string bv] 33 (0, 0)) → Calls Try.prog 14 #[.slice (some ⟨N, 0, none⟩) 2 2] W fun e w' => e = .returned (.bool fw) ∧ W = w') := Lib.hid (fun N W h => CF.out N W h)
  have CR2 : Hid (∀ N W, W.heap[N]? = some (.cells #[.int .i64 ak, .string an, .string av, .int .i64 bk, .string bn, .string bv] 33 (0, 0)) → Calls Try.prog 17 #[.slice (some ⟨N, 0, none⟩) 2 2] W (RChkPost rc W)) := Lib.hid (fun N W h => CR.out N W h)
  clear hX hY hf hr CF CR hwm ha hb
  show Calls Try.prog 4 #[.agg #[.int .i64 ak, .string an, .string av], .agg #[.int .i64 bk, .string bn, .string bv]] w _
  cases fw
  · go_enter Try.func4, Try.ntmps4
    go_wp2_with fail
    refine (CK.out _).mono ?_
    rintro e w1 ⟨rfl, g1⟩
    have c0 := g1.cell (b := w.heap.size) (o := 0) (v := .int .i64 ak) (by go_simp)
    have c1 := g1.cell (b := w.heap.size) (o := 1) (v := .string an) (by go_simp)
    have c2 := g1.cell (b := w.heap.size) (o := 2) (v := .string av) (by go_simp)
    have d0 := g1.cell (b := w.heap.size + 1) (o := 0) (v := .int .i64 bk) (by go_simp)
    have d1 := g1.cell (b := w.heap.size + 1) (o := 1) (v := .string bn) (by go_simp)
    have d2 := g1.cell (b := w.heap.size + 1) (o := 2) (v := .string bv) (by go_simp)
    have G1 := Lib.hid ((((Gr.refl w).alloc _ _).alloc _ _).trans g1)
    clear g1
    go_wp2_with fail
    refine (CF2.out _ _ (heap_alloc_new w1 _)).mono ?_
    rintro e w2 ⟨rfl, rfl⟩
    go_wp2
    go_ret
    exact ⟨rfl, G1.out.alloc _ _⟩
  · obtain ⟨-, hs⟩ := HA.out rfl
    have h1 := hs _ (List.mem_cons_self ..)
    have h2 := hs _ (List.mem_cons_of_mem _ (List.mem_cons_self ..))
    simp only at h1 h2
    clear hs HA
    have TA2 := Lib.hid (fun W => TA.out W (by omega) (by omega))
    have TB2 := Lib.hid (fun W => TB.out W (by omega) (by omega))
    have RA2 := Lib.hid (fun W => RA.out W (by omega) (by omega))
    have RB2 := Lib.hid (fun W => RB.out W (by omega) (by omega))
    unfold Mt.val at TA2 TB2 RA2 RB2
    clear TA TB RA RB h1 h2
    go_enter Try.func4, Try.ntmps4
    go_wp2_with fail
    refine (CK.out _).mono ?_
    rintro e w1 ⟨rfl, g1⟩
    have c0 := g1.cell (b := w.heap.size) (o := 0) (v := .int .i64 ak) (by go_simp)
    have c1 := g1.cell (b := w.heap.size) (o := 1) (v := .string an) (by go_simp)
    have c2 := g1.cell (b := w.heap.size) (o := 2) (v := .string av) (by go_simp)
    have d0 := g1.cell (b := w.heap.size + 1) (o := 0) (v := .int .i64 bk) (by go_simp)
    have d1 := g1.cell (b := w.heap.size + 1) (o := 1) (v := .string bn) (by go_simp)
    have d2 := g1.cell (b := w.heap.size + 1) (o := 2) (v := .string bv) (by go_simp)
    have G1 := Lib.hid ((((Gr.refl w).alloc _ _).alloc _ _).trans g1)
    clear g1
    go_wp2_with fail
    refine (CF2.out _ _ (heap_alloc_new w1 _)).mono ?_
    rintro e w2 ⟨rfl, rfl⟩
    obtain ⟨V, hV⟩ : ∃ V, w1.alloc (.cells #[.int .i64 ak, .string an, .string av, .int .i64 bk, .string bn, .string bv] 33) = V := ⟨_, rfl⟩
    have kV : Gr w1 V := by rw [← hV]; exact (Gr.refl w1).alloc _ _
    have c0 := kV.cell c0
    have c1 := kV.cell c1
    have c2 := kV.cell c2
    have d0 := kV.cell d0
    have d1 := kV.cell d1
    have d2 := kV.cell d2
    have HkV := Lib.hid kV
    rw [hV]
    clear hV kV
    go_wp2_with fail
    refine (TA2.out _).mono ?_
    rintro e w3 ⟨rfl, g3⟩
    have k3 : Gr w1 w3 := HkV.out.trans g3
    have c0 := g3.cell c0
    have c1 := g3.cell c1
    have c2 := g3.cell c2
    have d0 := g3.cell d0
    have d1 := g3.cell d1
    have d2 := g3.cell d2
    have G3 := Lib.hid (G1.out.trans k3)
    clear k3 g3
    go_wp2_with fail
    refine (TB2.out _).mono ?_
    rintro e w4 ⟨rfl, g4⟩
    have c0 := g4.cell c0
    have c1 := g4.cell c1
    have c2 := g4.cell c2
    have d0 := g4.cell d0
    have d1 := g4.cell d1
    have d2 := g4.cell d2
    have G4 := Lib.hid (G3.out.trans g4)
    clear g4
    go_wp2_with fail
    refine (RA2.out _).mono ?_
    rintro e w5 ⟨rfl, g5⟩
    have c0 := g5.cell c0
    have c1 := g5.cell c1
    have c2 := g5.cell c2
    have d0 := g5.cell d0
    have d1 := g5.cell d1
    have d2 := g5.cell d2
    have G5 := Lib.hid (G4.out.trans g5)
    clear g5
    go_wp2_with fail
    refine (RB2.out _).mono ?_
    rintro e w6 ⟨rfl, g6⟩
    have c0 := g6.cell c0
    have c1 := g6.cell c1
    have c2 := g6.cell c2
    have d0 := g6.cell d0
    have d1 := g6.cell d1
    have d2 := g6.cell d2
    have G6 := Lib.hid (G5.out.trans g6)
    clear g6
    go_wp2_with fail
    refine (CR2.out _ _ (heap_alloc_new w6 _)).mono ?_
    rintro e w7 ⟨x, rfl, hx, g7⟩
    have k7 : Gr w6 w7 := ((Gr.refl w6).alloc _ _).trans g7
    have c0 := k7.cell c0
    have c1 := k7.cell c1
    have c2 := k7.cell c2
    have d0 := k7.cell d0
    have d1 := k7.cell d1
    have d2 := k7.cell d2
    have G7 := Lib.hid (G6.out.trans k7)
    clear k7 g7
    by_cases h0 : x = 0
    · have HI2 := Lib.hid (HI.out (hx.1 h0))
      subst h0
      clear hx HI
      go_wp2
      all_goals
        have h9 := HI2.out
        clear HI2
        go_ret
        refine ⟨?_, G7.out⟩
        simp_all
    · have hb : (x != 0) = true := by simpa using h0
      clear hx h0 HI
      go_wp2
      go_ret
      exact ⟨rfl, G7.out⟩
end Go.Proofs.Ytnlfndhgdeapeaa
namespace Go.Proofs.Ytnlfndhgdeapeaa
open Go.RowKit
theorem gr_below {w w' : World} (h : Gr w w') : Below w.heap.size w w' := h.b
end Go.Proofs.Ytnlfndhgdeapeaa
