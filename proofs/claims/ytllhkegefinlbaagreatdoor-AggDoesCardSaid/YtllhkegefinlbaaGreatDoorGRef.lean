/- one, ahead, chosen, the reference's. -/
import Derived.Test.YtllhkegefinlbaaGreatDoorGAgM
import Derived.Test.YtllhkegefinlbaaGreatDoorPRNorm
import Derived.Test.YtllhkegefinlbaaGreatDoorGOut
namespace Go.Proofs.YtllhkegefinlbaaGreatDoor.Pt
open Go.RowKit Go.Sort Fv
set_option maxRecDepth 100000
set_option maxHeartbeats 8000000
attribute [local irreducible] wpQuiet

theorem rone_any (op : Int) (A : Option Addr) (cap x : Nat) (r : List Nat) (w : World) (h : FlL w A (x :: r)) (hn : r.length ≤ 1000) (hop : op = 1 ∨ op = 2 ∨ op = 3 ∨ op = 4 ∨ op = 5 ∨ op = 8) :
    Calls Tryz.prog 26 #[.int .i64 op, .slice A (r.length + 1) cap] w (CanPost (oneV op (x :: r)) w) := by
  have CS := Lib.hid (rsumL_any A cap (x :: r) w h (by simp; omega))
  have CE := Lib.hid (fun most => rleast_any most A cap x r w h (by omega))
  have HS : Hid (canon (sumL (x :: r)) = sumL (x :: r)) := Lib.hid (foldl_cn _ _ (canon_cn _))
  rw [show (x :: r).length = r.length + 1 from rfl] at CS
  have H1 : Hid (oneV 1 (x :: r) = sumL (x :: r)) := Lib.hid (by unfold oneV; rw [if_pos rfl])
  have H2 : Hid (oneV 2 (x :: r) = Wv.Flo.ofI ((r.length + 1 : Nat) : Int)) := Lib.hid (by unfold oneV; rw [if_neg (by decide)]; rw [if_pos rfl]; rw [List.length_cons])
  have H3 : Hid (oneV 3 (x :: r) = extL false (x :: r)) := Lib.hid (by unfold oneV; rw [if_neg (by decide)]; rw [if_neg (by decide)]; rw [if_pos rfl])
  have H4 : Hid (oneV 4 (x :: r) = extL true (x :: r)) := Lib.hid (by unfold oneV; rw [if_neg (by decide)]; rw [if_neg (by decide)]; rw [if_neg (by decide)]; rw [if_pos rfl])
  have H5 : Hid (oneV 5 (x :: r) = divC (sumL (x :: r)) (Wv.Flo.ofI ((r.length + 1 : Nat) : Int))) := Lib.hid (by unfold oneV; rw [if_neg (by decide)]; rw [if_neg (by decide)]; rw [if_neg (by decide)]; rw [if_neg (by decide)]; rw [if_pos rfl]; rw [List.length_cons])
  have H8 : Hid (oneV 8 (x :: r) = 4607182418800017408) := Lib.hid (by unfold oneV; rw [if_neg (by decide)]; rw [if_neg (by decide)]; rw [if_neg (by decide)]; rw [if_neg (by decide)]; rw [if_neg (by decide)]; rfl)
  obtain ⟨n, hnn⟩ : ∃ n, r.length + 1 = n := ⟨_, rfl⟩
  rw [hnn] at CS CE H2 H5 ⊢
  obtain ⟨s, hs⟩ : ∃ s, sumL (x :: r) = s := ⟨_, rfl⟩
  rw [hs] at CS HS H1 H5
  have hn' : n ≤ 1001 := by omega
  have hd : ∀ w, (binOp .quo 25 (.float .f64 s) (.float .f64 (floatOfInt FloatKind.f64 (n : Int)))).run Tryz.prog w = .ok (.float .f64 (divV w s (Wv.Flo.ofI n))) (w.drewN (divN s (Wv.Flo.ofI n))) := fun w => run_divF _ s (Wv.Flo.ofI n) w
  have e2 : floatOfInt FloatKind.f64 (n : Int) = Wv.Flo.ofI n := rfl
  have CEF := Lib.hid (CE.out false)
  have CET := Lib.hid (CE.out true)
  clear h hnn hs hn CE
  rcases hop with rfl | rfl | rfl | rfl | rfl | rfl
  · go_enter Tryz.func26, Tryz.ntmps26
    go_wp2_with fail
    refine CS.out.mono ?_
    rintro e w' ⟨rfl, q, rfl⟩
    go_wp2
    go_ret
    exact ⟨s, rfl, by rw [H1.out], (Gr.refl _).drewN _⟩
  · go_enter Tryz.func26, Tryz.ntmps26
    go_wp2
    go_ret
    exact ⟨_, rfl, by rw [H2.out, ← e2], Gr.refl _⟩
  · go_enter Tryz.func26, Tryz.ntmps26
    go_wp2_with fail
    refine CEF.out.mono ?_
    rintro e w' ⟨rfl, rfl⟩
    go_wp2
    go_ret
    exact ⟨_, rfl, by rw [H3.out], Gr.refl _⟩
  · go_enter Tryz.func26, Tryz.ntmps26
    go_wp2_with fail
    refine CET.out.mono ?_
    rintro e w' ⟨rfl, rfl⟩
    go_wp2
    go_ret
    exact ⟨_, rfl, by rw [H4.out], Gr.refl _⟩
  · go_enter Tryz.func26, Tryz.ntmps26
    go_wp2_with fail
    refine CS.out.mono ?_
    rintro e w' ⟨rfl, q, rfl⟩
    go_wp2
    go_ret
    exact ⟨_, rfl, by rw [H5.out, divV_c]; exact (canonO_cn _).symm, (Gr.refl _).drewN _⟩
  · go_enter Tryz.func26, Tryz.ntmps26
    go_wp2
    go_ret
    exact ⟨_, rfl, by rw [H8.out], Gr.refl _⟩
theorem nan_eq {a : Nat} {c : Bool} (h : nanB a = c) : (FloatKind.f64.format.order a a == some .eq) = !c := by
  have h' : (FloatKind.f64.format.order a a != some .eq) = c := h
  rw [← h']
  simp [bne]
theorem rahead_any (op : Int) (a b : Nat) (w : World) (ha : a < 2 ^ 64) (hb : b < 2 ^ 64) :
    Calls Tryz.prog 55 #[.int .i64 op, .float .f64 a, .float .f64 b] w fun e w' => e = .returned (.bool (decide (Gs.ordK (op == 6) a < Gs.ordK (op == 6) b))) ∧ w = w' := by
  have CAB := Lib.hid (rbefore_any a b w ha hb)
  have CBA := Lib.hid (rbefore_any b a w hb ha)
  cases ho : op == 6
  · have HF := Lib.hid (ordK_f a b ha hb)
    obtain ⟨v, hv⟩ : ∃ v, decide (Gs.ordK false a < Gs.ordK false b) = v := ⟨_, rfl⟩
    rw [hv] at HF ⊢
    obtain ⟨x, hx⟩ : ∃ x, befB a b = x := ⟨_, rfl⟩
    have hba : (nanB a || nanB b) = true → befB b a = (!nanB a && nanB b) := by
      intro h
      cases na : nanB a <;> cases nb : nanB b <;> simp_all [befB]
    rw [hx] at CAB
    cases na : nanB a
    · cases nb : nanB b
      · have hv2 : x = v := by have := HF.out; rw [na, nb, hx] at this; simpa using this
        subst hv2
        have q1 := nan_walk na
        have q2 := nan_walk nb
        clear hv hx hba HF na nb
        go_enter Tryz.func55, Tryz.ntmps55
        go_wp2_with fail
        refine CAB.out.mono ?_
        rintro e w' ⟨rfl, rfl⟩
        go_wp2
        go_ret
        exact ⟨rfl, rfl⟩
      · have hv2 : v = true := by have := HF.out; rw [na, nb, hba (by rw [nb]; simp), na, nb] at this; simpa using this.symm
        subst hv2
        have q1 := nan_walk na
        have q2 := nan_walk nb
        have q3 := nan_eq na
        clear hv hx hba HF na nb
        go_enter Tryz.func55, Tryz.ntmps55
        go_wp2
        go_ret
        exact ⟨by first | rfl | simp_all, rfl⟩
    · have hv2 : v = false := by have := HF.out; rw [na, Bool.true_or, if_pos rfl, hba (by rw [na]; simp), na] at this; simpa using this.symm
      subst hv2
      have q1 := nan_walk na
      have q3 := nan_eq na
      clear hv hx hba HF na
      go_enter Tryz.func55, Tryz.ntmps55
      go_wp2
      go_ret
      exact ⟨by first | rfl | simp_all, rfl⟩
  · have HF := Lib.hid (ordK_t a b ha hb)
    obtain ⟨v, hv⟩ : ∃ v, decide (Gs.ordK true a < Gs.ordK true b) = v := ⟨_, rfl⟩
    rw [hv] at HF ⊢
    rw [HF.out] at CBA
    clear hv
    go_enter Tryz.func55, Tryz.ntmps55
    go_wp2_with fail
    refine CBA.out.mono ?_
    rintro e w' ⟨rfl, rfl⟩
    go_wp2
    go_ret
    exact ⟨rfl, rfl⟩

/-! ### chosen -/
section
variable {α : Type} (k : α → Int)
def plK (l : List α) (x : α) : Nat := (l.takeWhile (fun q => decide (k q ≤ k x))).length
theorem plK_le (l : List α) (x : α) : plK k l x ≤ l.length := (List.takeWhile_sublist _).length_le
theorem plK_lt {l : List α} {x : α} {i : Nat} (h : i < plK k l x) {q : α} (hq : l[i]? = some q) : k q ≤ k x := by
  have h1 : (l.takeWhile (fun q => decide (k q ≤ k x)))[i]? = some q := by
    have e := List.takeWhile_append_dropWhile (p := fun q => decide (k q ≤ k x)) (l := l)
    rw [← e, List.getElem?_append_left h] at hq
    exact hq
  have h2 := List.all_eq_true.1 (List.all_takeWhile (l := l) (p := fun q => decide (k q ≤ k x))) q (List.mem_of_getElem? h1)
  simpa using h2
theorem plK_ge {l : List α} {x : α} {q : α} (hq : l[plK k l x]? = some q) : k x < k q := by
  have e := List.takeWhile_append_dropWhile (p := fun q => decide (k q ≤ k x)) (l := l)
  rw [← e] at hq
  unfold plK at hq
  rw [List.getElem?_append_right (by rw [e]; exact Nat.le_refl _)] at hq
  rw [e, Nat.sub_self] at hq
  cases hd : l.dropWhile (fun q => decide (k q ≤ k x)) with
  | nil => rw [hd] at hq; simp at hq
  | cons y r =>
    rw [hd] at hq
    obtain rfl : y = q := by simpa using hq
    have := List.head_dropWhile_not (fun q => decide (k q ≤ k x)) (l := l) (by rw [hd]; simp)
    simp only [hd, List.head_cons, decide_eq_false_iff_not] at this
    omega
theorem insK_pl (l : List α) (x : α) : insK k l x = l.take (plK k l x) ++ x :: l.drop (plK k l x) :=
  insK_place k (fun _ hi _ hq => plK_lt k hi hq) (fun _ hq => plK_ge k hq) (plK_le k _ _)
theorem plK_at {l : List α} {x : α} {n : Nat} (h1 : ∀ i, i < n → ∀ q, l[i]? = some q → k q ≤ k x) (h2 : ∀ q, l[n]? = some q → k x < k q) (hn : n ≤ l.length) : plK k l x = n := by
  have hp := plK_le k l x
  rcases Nat.lt_trichotomy (plK k l x) n with h | h | h
  · have hq := List.getElem?_eq_getElem (by omega : plK k l x < l.length)
    have a := plK_ge k hq
    have b := h1 _ h _ hq
    omega
  · exact h
  · have hq := List.getElem?_eq_getElem (by omega : n < l.length)
    have a := plK_lt k h hq
    have b := h2 _ hq
    omega
theorem srtK_take {l : List α} {i : Nat} (h : i < l.length) : srtK k (l.take (i + 1)) = insK k (srtK k (l.take i)) l[i] := by
  rw [List.take_succ_eq_append_getElem h, srtK_snoc]
end
end Go.Proofs.YtllhkegefinlbaaGreatDoor.Pt
