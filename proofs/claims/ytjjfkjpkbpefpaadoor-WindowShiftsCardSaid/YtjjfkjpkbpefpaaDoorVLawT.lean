/- WindowShifts' walk. -/
import Derived.Test.YtjjfkjpkbpefpaaDoorVLawN
import Derived.Test.YtjjfkjpkbpefpaaDoorVSame
namespace Go.Proofs.YtjjfkjpkbpefpaaDoor.Vn
open Go.RowKit
set_option maxRecDepth 100000
set_option maxHeartbeats 8000000

/-- samples moved in time -/
def mvL (b : Int) (l : List Sm) : List Sm := l.map fun q => (q.1 + b, q.2)
theorem mv_len (b : Int) (l : List Sm) : (mvL b l).length = l.length := by unfold mvL; simp
theorem mv_s {b : Int} {l : List Sm} {k : Nat} {q : Sm} (h : l[k]? = some q) : mvL b (l.take (k + 1)) = mvL b (l.take k) ++ [(q.1 + b, q.2)] := by
  unfold mvL; rw [take_s h, List.map_append]; rfl
theorem mv_str (b f t : Int) (l : List Sm) : strL (mvL b l) (f + b) (t + b) = mvL b (strL l f t) := by
  unfold strL mvL
  rw [List.filter_map]
  congr 1
  congr 1
  funext q
  unfold strP
  simp only [Function.comp]
  congr 1
  · exact decide_eq_decide.2 (by omega)
  · exact decide_eq_decide.2 (by omega)
theorem mv_fn (fn b f t : Int) (l : List Sm) : fnP fn (mvL b l) (f + b) (t + b) = fnP fn l f t := by
  unfold fnP
  rw [mv_str]
  have e1 : vals (mvL b (strL l f t)) = vals (strL l f t) := by unfold vals mvL; simp
  have e2 : t + b - (f + b) = t - f := by omega
  have e3 : decide (f + b < t + b) = decide (f < t) := decide_eq_decide.2 (by omega)
  rw [e1, e2, e3]
theorem cut_fn (fn f t : Int) (l : List Sm) : fnP fn (strL l f t) f t = fnP fn l f t := by
  unfold fnP strL
  rw [List.filter_filter]
  simp
theorem mv_asc {b : Int} {l : List Sm} (h : AscT l) : AscT (mvL b l) := by
  unfold AscT mvL
  rw [List.pairwise_map]
  exact h.imp fun h => by omega
theorem mv_bd {b : Int} {l : List Sm} (h : ∀ q ∈ l, q.2 < 2 ^ 64) : ∀ q ∈ mvL b l, q.2 < 2 ^ 64 := by
  intro q hq
  unfold mvL at hq
  obtain ⟨p, hp, rfl⟩ := List.mem_map.1 hq
  exact h p hp
theorem cols2 (W : World) (ht : Tab W) (a : Nat) (o : Bool) :
    Calls Tryd.prog 25 #[.agg #[.slice (some ⟨W.heap.size, 0, none⟩) 2 2, .slice (some ⟨W.heap.size + 1, 0, none⟩) 2 2], .agg #[.slice (some ⟨W.heap.size + 2, 0, none⟩) 2 2, .slice (some ⟨W.heap.size + 3, 0, none⟩) 2 2]]
      ((((W.alloc (.cells #[.float .f64 a, .float .f64 a] 26)).alloc (.cells #[.bool o, .bool o] 4)).alloc (.cells #[.float .f64 a, .float .f64 a] 26)).alloc (.cells #[.bool o, .bool o] 4))
      fun e w' => e = .returned (.bool true) ∧ Gr W w' :=
  cols_any W ht [a, a] [a, a] [o, o] rfl (fun i x y hx hy => by
    rw [hx] at hy; cases hy
    unfold sameB; simp) (by simp) (by simp)
theorem walkShifts_none (A : Option Addr) (c : Nat) (l : List Sm) (f t by_ fn : Int) (w : World) (ht : Tab w) (hf : FTab w) (h : At2 encP w A l) (hm : l.length ≤ maxLen) (hno : ¬ rightP l ∨ f < -1099511627776 ∨ 1099511627776 < t ∨ 1099511627776 < f ∨ t < -1099511627776 ∨ by_ < -1099511627776 ∨ 1099511627776 < by_) :
    Calls Tryd.prog 7 #[.slice A l.length c, .int .i64 f, .int .i64 t, .int .i64 by_, .int .i64 fn] w fun e w' => e = .returned (.bool true) ∧ Gr w w' := by
  have CK := Lib.hid (known_any w ht hf)
  have CR := Lib.hid (fun W (g : Gr w W) => right_any A c l W (h.gr g) hm)
  unfold RightPost at CR
  by_cases hr : rightP l
  case neg =>
    have CR2 : Hid (∀ W, Gr w W → Calls Tryd.prog 10 #[.slice A l.length c] W fun e w' => e = .returned (.bool false) ∧ Gr W w') := Lib.hid fun W g => (CR.out W g).mono fun e w' ⟨b, he, hb, hg⟩ => ⟨by
      cases b
      · exact he
      · exact absurd (hb.1 rfl) hr, hg⟩
    clear CR h hm ht hf hno
    go_enter Tryd.func7, Tryd.ntmps7
    go_wp2_with (first
      | (go_at_call 9; refine CK.out.mono ?_; rintro e w1 ⟨rfl, g1⟩; have HG1 := Lib.hid g1; clear g1)
      | (go_at_call 10; refine (CR2.out _ HG1.out).mono ?_; rintro e w2 ⟨rfl, g2⟩; have HG2 := Lib.hid (HG1.out.trans g2); clear g2)
      | fail)
    go_ret
    exact ⟨rfl, HG2.out⟩
  have CR2 : Hid (∀ W, Gr w W → Calls Tryd.prog 10 #[.slice A l.length c] W fun e w' => e = .returned (.bool true) ∧ Gr W w') := Lib.hid fun W g => (CR.out W g).mono fun e w' ⟨b, he, hb, hg⟩ => ⟨by rw [he, hb.2 hr], hg⟩
  clear CR h hm ht hf
  by_cases h0 : f < -1099511627776
  case pos =>
    have q0 : decide (f < -1099511627776) = true := decide_eq_true h0
    clear hno hr
    go_enter Tryd.func7, Tryd.ntmps7
    go_wp2_with (first
      | (go_at_call 9; refine CK.out.mono ?_; rintro e w1 ⟨rfl, g1⟩; have HG1 := Lib.hid g1; clear g1)
      | (go_at_call 10; refine (CR2.out _ HG1.out).mono ?_; rintro e w2 ⟨rfl, g2⟩; have HG2 := Lib.hid (HG1.out.trans g2); clear g2)
      | fail)
    go_ret
    exact ⟨rfl, HG2.out⟩
  by_cases h1 : 1099511627776 < t
  case pos =>
    have q0 : decide (f < -1099511627776) = false := decide_eq_false h0
    have q1 : decide (t > 1099511627776) = true := decide_eq_true h1
    clear hno hr
    go_enter Tryd.func7, Tryd.ntmps7
    go_wp2_with (first
      | (go_at_call 9; refine CK.out.mono ?_; rintro e w1 ⟨rfl, g1⟩; have HG1 := Lib.hid g1; clear g1)
      | (go_at_call 10; refine (CR2.out _ HG1.out).mono ?_; rintro e w2 ⟨rfl, g2⟩; have HG2 := Lib.hid (HG1.out.trans g2); clear g2)
      | fail)
    go_ret
    exact ⟨rfl, HG2.out⟩
  by_cases h2 : 1099511627776 < f
  case pos =>
    have q0 : decide (f < -1099511627776) = false := decide_eq_false h0
    have q1 : decide (t > 1099511627776) = false := decide_eq_false h1
    have q2 : decide (f > 1099511627776) = true := decide_eq_true h2
    clear hno hr
    go_enter Tryd.func7, Tryd.ntmps7
    go_wp2_with (first
      | (go_at_call 9; refine CK.out.mono ?_; rintro e w1 ⟨rfl, g1⟩; have HG1 := Lib.hid g1; clear g1)
      | (go_at_call 10; refine (CR2.out _ HG1.out).mono ?_; rintro e w2 ⟨rfl, g2⟩; have HG2 := Lib.hid (HG1.out.trans g2); clear g2)
      | fail)
    go_ret
    exact ⟨rfl, HG2.out⟩
  by_cases h3 : t < -1099511627776
  case pos =>
    have q0 : decide (f < -1099511627776) = false := decide_eq_false h0
    have q1 : decide (t > 1099511627776) = false := decide_eq_false h1
    have q2 : decide (f > 1099511627776) = false := decide_eq_false h2
    have q3 : decide (t < -1099511627776) = true := decide_eq_true h3
    clear hno hr
    go_enter Tryd.func7, Tryd.ntmps7
    go_wp2_with (first
      | (go_at_call 9; refine CK.out.mono ?_; rintro e w1 ⟨rfl, g1⟩; have HG1 := Lib.hid g1; clear g1)
      | (go_at_call 10; refine (CR2.out _ HG1.out).mono ?_; rintro e w2 ⟨rfl, g2⟩; have HG2 := Lib.hid (HG1.out.trans g2); clear g2)
      | fail)
    go_ret
    exact ⟨rfl, HG2.out⟩
  by_cases h4 : by_ < -1099511627776
  case pos =>
    have q0 : decide (f < -1099511627776) = false := decide_eq_false h0
    have q1 : decide (t > 1099511627776) = false := decide_eq_false h1
    have q2 : decide (f > 1099511627776) = false := decide_eq_false h2
    have q3 : decide (t < -1099511627776) = false := decide_eq_false h3
    have q4 : decide (by_ < -1099511627776) = true := decide_eq_true h4
    clear hno hr
    go_enter Tryd.func7, Tryd.ntmps7
    go_wp2_with (first
      | (go_at_call 9; refine CK.out.mono ?_; rintro e w1 ⟨rfl, g1⟩; have HG1 := Lib.hid g1; clear g1)
      | (go_at_call 10; refine (CR2.out _ HG1.out).mono ?_; rintro e w2 ⟨rfl, g2⟩; have HG2 := Lib.hid (HG1.out.trans g2); clear g2)
      | fail)
    go_ret
    exact ⟨rfl, HG2.out⟩
  · have h5 : 1099511627776 < by_ := by
      rcases hno with g | g | g | g | g | g | g
      · exact absurd hr g
      all_goals first | exact g | exact absurd g (by assumption)
    have q0 : decide (f < -1099511627776) = false := decide_eq_false h0
    have q1 : decide (t > 1099511627776) = false := decide_eq_false h1
    have q2 : decide (f > 1099511627776) = false := decide_eq_false h2
    have q3 : decide (t < -1099511627776) = false := decide_eq_false h3
    have q4 : decide (by_ < -1099511627776) = false := decide_eq_false h4
    have q5 : decide (by_ > 1099511627776) = true := decide_eq_true h5
    clear hno hr
    go_enter Tryd.func7, Tryd.ntmps7
    go_wp2_with (first
      | (go_at_call 9; refine CK.out.mono ?_; rintro e w1 ⟨rfl, g1⟩; have HG1 := Lib.hid g1; clear g1)
      | (go_at_call 10; refine (CR2.out _ HG1.out).mono ?_; rintro e w2 ⟨rfl, g2⟩; have HG2 := Lib.hid (HG1.out.trans g2); clear g2)
      | fail)
    go_ret
    exact ⟨rfl, HG2.out⟩
theorem walkShifts_some (A : Option Addr) (c : Nat) (l : List Sm) (f t by_ fn : Int) (w : World) (h : SmpH w A c l) (hr : rightP l) (a1 : -1099511627776 ≤ f) (a2 : t ≤ 1099511627776) (a3 : f ≤ 1099511627776) (a4 : -1099511627776 ≤ t) (a5 : -1099511627776 ≤ by_) (a6 : by_ ≤ 1099511627776) :
    Calls Tryd.prog 7 #[.slice A l.length c, .int .i64 f, .int .i64 t, .int .i64 by_, .int .i64 fn] w fun e w' => e = .returned (.bool true) ∧ Gr w w' := by
  have CK := Lib.hid (known_any w h.ht h.hf)
  have hml : l.length ≤ maxLen := by have := h.hn; unfold maxLen; omega
  have CR2 : Hid (∀ W, Gr w W → Calls Tryd.prog 10 #[.slice A l.length c] W fun e w' => e = .returned (.bool true) ∧ Gr W w') := Lib.hid fun W g => (right_any A c l W (h.at_.gr g) hml).mono fun e w' ⟨b, he, hb, hg⟩ => ⟨by rw [he, hb.2 hr], hg⟩
  have q0 : decide (f < -1099511627776) = false := decide_eq_false (by omega)
  have q1 : decide (t > 1099511627776) = false := decide_eq_false (by omega)
  have q2 : decide (f > 1099511627776) = false := decide_eq_false (by omega)
  have q3 : decide (t < -1099511627776) = false := decide_eq_false (by omega)
  have q4 : decide (by_ < -1099511627776) = false := decide_eq_false (by omega)
  have q5 : decide (by_ > 1099511627776) = false := decide_eq_false (by omega)
  obtain ⟨P, hP⟩ : ∃ P : Nat, (fnP fn l f t).getD 0 = P := ⟨_, rfl⟩
  obtain ⟨Q, hQ⟩ : ∃ Q : Bool, (fnP fn l f t).isSome = Q := ⟨_, rfl⟩
  have HOP : optV (fnP fn l f t) = .tuple #[.float .f64 P, .bool Q] := by rw [← hP, ← hQ]; rfl
  have CF : Hid (∀ W, Gr w W → Calls Tryd.prog 12 #[.int .i64 fn, .slice A l.length c, .int .i64 f, .int .i64 t] W fun e w' => e = .returned (.tuple #[.float .f64 P, .bool Q]) ∧ Gr W w') := Lib.hid fun W gg => by
    have := Fn_any fn A c l f t W (h.gr gg) (by omega) (by omega)
    unfold FnPost at this
    rwa [HOP] at this
  have CF2 : Hid (∀ A' c' W, Gr w W → At2 encP W A' (mvL by_ l) → l.length ≤ c' → Calls Tryd.prog 12 #[.int .i64 fn, .slice A' l.length c', .int .i64 (f + by_), .int .i64 (t + by_)] W fun e w' => e = .returned (.tuple #[.float .f64 P, .bool Q]) ∧ Gr W w') := Lib.hid fun A' c' W gg hat hc => by
    have := Fn_any fn A' c' (mvL by_ l) (f + by_) (t + by_) W ⟨h.ht.gv gg, h.hf.gr gg, hat, by rw [mv_len]; exact hc, by rw [mv_len]; exact h.hn, mv_asc h.asc, mv_bd h.bd⟩ (by omega) (by omega)
    unfold FnPost at this
    rw [mv_fn, HOP, mv_len] at this
    exact this
  have CC := Lib.hid (fun W (g : Gr w W) => Cut_any A c l f t W (h.at_.gr g) h.asc (by have := h.hn; omega) h.hc)
  unfold CutP at CC
  have CF3 : Hid (∀ A' c' W, Gr w W → At2 encP W A' (strL l f t) → (strL l f t).length ≤ c' → Calls Tryd.prog 12 #[.int .i64 fn, .slice A' (strL l f t).length c', .int .i64 f, .int .i64 t] W fun e w' => e = .returned (.tuple #[.float .f64 P, .bool Q]) ∧ Gr W w') := Lib.hid fun A' c' W gg hat hc => by
    have := Fn_any fn A' c' (strL l f t) f t W ⟨h.ht.gv gg, h.hf.gr gg, hat, hc, by have := strL_len l f t; have := h.hn; omega, h.asc.filt _, fun q hq => h.bd q (List.mem_filter.1 hq).1⟩ (by omega) (by omega)
    unfold FnPost at this
    rw [cut_fn, HOP] at this
    exact this
  have CCO := Lib.hid (fun W (g : Gr w W) => cols2 W (h.ht.gv g) P Q)
  obtain ⟨L, hL⟩ : ∃ L, strL l f t = L := ⟨_, rfl⟩
  rw [hL] at CC CF3
  have HAT := Lib.hid (fun W (g : Gr w W) => h.at_.gr g)
  have HLN : Hid (l.length ≤ 200) := Lib.hid hr.1
  have HML : Hid (∀ k, (mvL by_ (l.take k)).length ≤ 200) := Lib.hid fun k => by rw [mv_len, List.length_take]; have := hr.1; omega
  have HME : Hid (mvL by_ (l.take l.length) = mvL by_ l ∧ (mvL by_ l).length = l.length) := Lib.hid ⟨by rw [List.take_length], mv_len _ _⟩
  clear hL HOP hP hQ hr hml h
  go_enter Tryd.func7, Tryd.ntmps7
  go_wp2_with (first
    | (go_at_call 9; refine CK.out.mono ?_; rintro e w1 ⟨rfl, g1⟩; have HG1 := Lib.hid g1; clear g1)
    | (go_at_call 10; refine (CR2.out _ HG1.out).mono ?_; rintro e w2 ⟨rfl, g2⟩; have HG2 := Lib.hid (HG1.out.trans g2); clear g2)
    | fail)
  go_loopw [11, 12] (fun v9 i9 wr => ∃ k : Nat, k ≤ l.length ∧ i9 = .int .i64 k ∧ Hid (OwnP wr w2.heap.size v9 (mvL by_ (l.take k))) ∧ Hid (Gr w2 wr)) (fun _ i9 _ => l.length - (intOf i9).toNat)
  case atStart => exact ⟨0, Nat.zero_le _, rfl, Lib.hid (by simpa [mvL] using Own2.nil _ _), Lib.hid (Gr.refl _)⟩
  case round =>
    obtain ⟨k, hk, rfl, HO, HG⟩ := hrel
    have HGW := Lib.hid (HG2.out.trans HG.out)
    by_cases hlt : k < l.length
    · obtain ⟨q, hq⟩ : ∃ q, l[k]? = some q := ⟨_, List.getElem?_eq_getElem hlt⟩
      obtain ⟨b, o, rfl, hcells⟩ := (HAT.out wr HGW.out) (by omega)
      obtain ⟨e1, e2⟩ := hcells k q hq _ _ rfl
      have HLS := Lib.hid (mv_s (b := by_) hq)
      have hml := HML.out k
      have hln := HLN.out
      obtain ⟨qt, qv⟩ := q
      simp only at e1 e2 HLS
      have m1 : (k : Int) < (l.length : Int) := by omega
      have m2 : (0 : Int) ≤ (k : Int) := by omega
      clear hq hcells
      by_cases hx1 : qt < -562949953421312
      case pos =>
        have p1 : decide (qt < -562949953421312) = true := decide_eq_true hx1
        clear hml
        go_wp2
        go_ret
        exact ⟨rfl, HGW.out⟩
      by_cases hx2 : 562949953421312 < qt
      case pos =>
        have p1 : decide (qt < -562949953421312) = false := decide_eq_false hx1
        have p2 : decide (qt > 562949953421312) = true := decide_eq_true hx2
        clear hml
        go_wp2
        go_ret
        exact ⟨rfl, HGW.out⟩
      have p1 : decide (qt < -562949953421312) = false := decide_eq_false hx1
      have p2 : decide (qt > 562949953421312) = false := decide_eq_false hx2
      have hw : IntKind.i64.wrap (qt + by_) = qt + by_ := by rw [IntKind.wrap_i64]; omega
      have HA : Hid (∀ W N, Gr wr W → At2 encP W (some ⟨N, 0, none⟩) [(qt + by_, qv)] → ∃ v' W', (Builtin.append_ #[22, 22] 22 #[u11, .slice (some ⟨N, 0, none⟩) 1 1]).run Tryd.prog W = .ok v' W' ∧ OwnP W' w2.heap.size v' (mvL by_ (l.take (k + 1))) ∧ Gr w2 W') := Lib.hid fun W N g hat => by
        have ho := Own2.gr HO.out g
        have gz := HG.out.trans g
        obtain ⟨v', W', h1, h2, h3, -⟩ := run_appP (c := 1) (m := [(qt + by_, qv)]) ho hat (by simp; omega) gz.size
        exact ⟨v', W', h1, by rw [HLS.out]; exact h2, gz.grown h3 (fun k hk => (ho.lt hk).1)⟩
      have HN1 : Hid (∀ W : World, At2 encP (W.alloc (.cells #[.int .i64 (qt + by_), .float .f64 qv] 34)) (some ⟨W.heap.size, 0, none⟩) [(qt + by_, qv)]) := Lib.hid fun W => at2_one (enc := encP) W (qt + by_, qv) _ _ rfl _
      have HN2 : Hid (∀ W : World, At2 encP (W.alloc (.cells #[.int .i64 (qt + by_), .float .f64 qv] 34)).drew (some ⟨W.heap.size, 0, none⟩) [(qt + by_, qv)]) := Lib.hid fun W => At2.gr (HN1.out W) (Gr.refl _).drew
      have HGA : Hid (∀ cs t, Gr wr (wr.alloc (.cells cs t)) ∧ Gr wr (wr.alloc (.cells cs t)).drew ∧ Gr wr (wr.drew.alloc (.cells cs t)) ∧ Gr wr (wr.drew.alloc (.cells cs t)).drew) := Lib.hid fun cs t => ⟨(Gr.refl _).alloc _ _, ((Gr.refl _).alloc _ _).drew, (Gr.refl _).drew.alloc _ _, ((Gr.refl _).drew.alloc _ _).drew⟩
      clear hx1 hx2 hml
      go_upto_region 11 with fail
      go_region_law (first
        | (refine step_app2 rfl (.tmp 68) (.tmp 82) (by rfl) (by rfl) (by rfl) (by rfl) (HA.out _ wr.heap.size (by first | exact (HGA.out _ _).1 | exact (HGA.out _ _).2.1 | exact (HGA.out _ _).2.2.1 | exact (HGA.out _ _).2.2.2) (by first | exact HN1.out wr | exact HN2.out wr | exact HN1.out wr.drew | exact HN2.out wr.drew)) ?_
           rintro v5 w5 ⟨ho5, hg5⟩
           have HO5 := Lib.hid ho5; have HG5 := Lib.hid hg5
           clear ho5 hg5)
        | fail)
      all_goals go_wp2
      all_goals go_roundw
      all_goals first
        | exact ⟨k + 1, by omega, by go_num, HO5, HG5⟩
        | (simp [intOf]; omega)
    · obtain rfl : k = l.length := by omega
      obtain ⟨A3, c3, rfl, hat3, hc3, -⟩ := HO.out.form (fun _ => rfl)
      rw [HME.out.1] at hat3 hc3
      rw [HME.out.1, HME.out.2]
      rw [HME.out.2] at hc3
      have C2 := Lib.hid (fun W (g : Gr wr W) => CF2.out A3 c3 W (HGW.out.trans g) (hat3.gr g) hc3)
      have m3 : ¬ (l.length : Int) < (l.length : Int) := by omega
      have C1 := Lib.hid (CF.out wr HGW.out)
      clear HO hat3 hc3
      go_wp2_with fail
      refine C1.out.mono ?_
      rintro e w4 ⟨rfl, g4⟩
      have CC2 := Lib.hid (C2.out w4 g4)
      have HG4 := Lib.hid (HGW.out.trans g4)
      clear g4
      go_wp2_with fail
      refine CC2.out.mono ?_
      rintro e w5 ⟨rfl, g5⟩
      have HG5 := Lib.hid (HG4.out.trans g5)
      have C6 := Lib.hid (CC.out w5 HG5.out)
      clear g5
      go_wp2_with fail
      refine C6.out.mono ?_
      rintro e w6 ⟨g6, A6, c6, rfl, h6, hc6⟩
      have HG6 := Lib.hid (HG5.out.trans g6)
      have C7 := Lib.hid (CF3.out A6 c6 w6 HG6.out h6 hc6)
      clear g6 h6 hc6
      go_wp2_with fail
      refine C7.out.mono ?_
      rintro e w7 ⟨rfl, g7⟩
      have HG7 := Lib.hid (HG6.out.trans g7)
      have C8 := Lib.hid (CCO.out w7 HG7.out)
      clear g7
      go_wp2_with (first | (go_at_call 25; refine C8.out.mono ?_; rintro e w8 ⟨rfl, g8⟩; have HG8 := Lib.hid (HG7.out.trans g8); clear g8) | fail)
      go_ret
      exact ⟨rfl, HG8.out⟩
theorem walkShifts (A : Option Addr) (c : Nat) (l : List Sm) (f t by_ fn : Int) (w : World) (ht : Tab w) (hf : FTab w) (h : At2 encP w A l) (hc : l.length ≤ c) (hm : l.length ≤ maxLen) (hb : ∀ q ∈ l, q.2 < 2 ^ 64) :
    Calls Tryd.prog 7 #[.slice A l.length c, .int .i64 f, .int .i64 t, .int .i64 by_, .int .i64 fn] w fun e w' => e = .returned (.bool true) ∧ Gr w w' := by
  by_cases hno : ¬ rightP l ∨ f < -1099511627776 ∨ 1099511627776 < t ∨ 1099511627776 < f ∨ t < -1099511627776 ∨ by_ < -1099511627776 ∨ 1099511627776 < by_
  · exact walkShifts_none A c l f t by_ fn w ht hf h hm hno
  · have hr : rightP l := Classical.byContradiction fun g => hno (.inl g)
    have hno2 : ¬ (f < -1099511627776 ∨ 1099511627776 < t ∨ 1099511627776 < f ∨ t < -1099511627776 ∨ by_ < -1099511627776 ∨ 1099511627776 < by_) := fun g => hno (.inr g)
    exact walkShifts_some A c l f t by_ fn w ⟨ht, hf, h, hc, by have := hr.1; omega, hr.asc, hb⟩ hr (by omega) (by omega) (by omega) (by omega) (by omega) (by omega)
end Go.Proofs.YtjjfkjpkbpefpaaDoor.Vn
