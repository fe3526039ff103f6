/- A set of matchers, its programs in a map; New. -/
import Derived.Test.YtnlfndhgdeapeaaLLabMath
import Derived.Test.YtnlfndhgdeapeaaLLabs
import Derived.Test.YtnlfndhgdeapeaaShelf
import Derived.Maps.Own
import Derived.Maps.OwnSet
import Derived.Maps.Views
import Derived.StringKeys
namespace Go.Proofs.Ytnlfndhgdeapeaa
open Go.RowKit
set_option maxRecDepth 100000
set_option maxHeartbeats 1000000

/-- a matcher: its kind, its name, its value -/
structure Mt where
  k : Int
  n : ByteArray
  v : ByteArray
def Mt.val (m : Mt) : Value := .agg #[.int .i64 m.k, .string m.n, .string m.v]
/-- a slice of matchers reads as a list -/
def MatsAt (W : World) (A : Option Addr) (l : List Mt) : Prop :=
  0 < l.length → ∃ b o, A = some ⟨b, o, none⟩ ∧ ∀ i x, l[i]? = some x → W.cell? ⟨b, o + i * 3, none⟩ = some (.int .i64 x.k) ∧ W.cell? ⟨b, o + i * 3 + 1, none⟩ = some (.string x.n) ∧ W.cell? ⟨b, o + i * 3 + 2, none⟩ = some (.string x.v)
theorem MatsAt.gr {W W' : World} {A : Option Addr} {l : List Mt} (h : MatsAt W A l) (g : Gr W W') : MatsAt W' A l := fun h0 => by
  obtain ⟨b, o, e, hc⟩ := h h0
  exact ⟨b, o, e, fun i x hx => ⟨g.cell (hc i x hx).1, g.cell (hc i x hx).2.1, g.cell (hc i x hx).2.2⟩⟩
theorem MatsAt.at_ {W : World} {A : Option Addr} {l : List Mt} (h : MatsAt W A l) {k : Nat} (hk : k < l.length) :
    ∃ b o, A = some ⟨b, o, none⟩ ∧ W.cell? ⟨b, o + k * 3, none⟩ = some (.int .i64 (l[k]).k) ∧ W.cell? ⟨b, o + k * 3 + 1, none⟩ = some (.string (l[k]).n) ∧ W.cell? ⟨b, o + k * 3 + 2, none⟩ = some (.string (l[k]).v) ∧ b < W.heap.size := by
  obtain ⟨b, o, e, hc⟩ := h (by omega)
  obtain ⟨h1, h2, h3⟩ := hc k l[k] (List.getElem?_eq_getElem hk)
  exact ⟨b, o, e, h1, h2, h3, World.block_lt_of_cell? W _ h1⟩
/-- how queries write a kind -/
def signL (k : Int) : List UInt8 := if k = 1 then [61] else if k = 2 then [33, 61] else if k = 3 then [61, 126] else if k = 4 then [33, 126] else []
def hasP (k : Int) : Bool := decide (k = 3) || decide (k = 4)
def errT (r : Nd ⊕ (Nat × Nat)) : Int := match r with | .inl _ => 0 | .inr (_, c) => c
/-- what is wrong with a matcher -/
def checkM (m : Mt) : Int := if signL m.k = [] ∨ nameB m.n = false ∨ 256 < m.v.size then 1 else if hasP m.k then errT (treeS m.v.data.toList) else 0
theorem kind_cases (k : Int) : k = 1 ∨ k = 2 ∨ k = 3 ∨ k = 4 ∨ (((k : Int) == 1) = false ∧ ((k : Int) == 2) = false ∧ ((k : Int) == 3) = false ∧ ((k : Int) == 4) = false ∧ signL k = [] ∧ hasP k = false) := by
  by_cases h1 : k = 1
  · exact .inl h1
  by_cases h2 : k = 2
  · exact .inr (.inl h2)
  by_cases h3 : k = 3
  · exact .inr (.inr (.inl h3))
  by_cases h4 : k = 4
  · exact .inr (.inr (.inr (.inl h4)))
  · refine .inr (.inr (.inr (.inr ⟨beq_eq_false_iff_ne.2 h1, beq_eq_false_iff_ne.2 h2, beq_eq_false_iff_ne.2 h3, beq_eq_false_iff_ne.2 h4, ?_, ?_⟩)))
    · unfold signL; rw [if_neg h1, if_neg h2, if_neg h3, if_neg h4]
    · unfold hasP; rw [decide_eq_false h3, decide_eq_false h4]; rfl
theorem sign_any (k : Int) (w : World) : Calls Try.prog 32 #[.int .i64 k] w fun e w' => e = .returned (.string ⟨(signL k).toArray⟩) ∧ w = w' := by
  rcases kind_cases k with rfl | rfl | rfl | rfl | ⟨h1, h2, h3, h4, h5, -⟩
  all_goals first
    | (have HS := Lib.hid h5; clear h5; go_enter Try.func32, Try.ntmps32; go_wp2; go_ret; exact ⟨by rw [HS.out]; rfl, rfl⟩)
    | (go_enter Try.func32, Try.ntmps32; go_wp2; go_ret; exact ⟨rfl, rfl⟩)
theorem hasPat_any (k : Int) (w : World) : Calls Try.prog 37 #[.int .i64 k] w fun e w' => e = .returned (.bool (hasP k)) ∧ w = w' := by
  rcases kind_cases k with rfl | rfl | rfl | rfl | ⟨h1, h2, h3, h4, -, h6⟩
  all_goals first
    | (have HS := Lib.hid h6; clear h6; go_enter Try.func37, Try.ntmps37; go_wp2; go_ret; exact ⟨by rw [HS.out]; rfl, rfl⟩)
    | (go_enter Try.func37, Try.ntmps37; go_wp2; go_ret; exact ⟨rfl, rfl⟩)
theorem errT_any (s : ByteArray) (hs : s.size ≤ 1000000) (W : World) : Calls Try.prog 8 #[.string s] W fun e w' => Gr W w' ∧ ∃ p k, e = .returned (.tuple #[p, k, .int .i64 (errT (treeS s.data.toList))]) := by
  refine (tree_any s hs W).mono ?_
  rintro e w' ⟨hg, h⟩
  refine ⟨hg, ?_⟩
  obtain ⟨r, hr⟩ : ∃ r, treeS s.data.toList = r := ⟨_, rfl⟩
  rw [hr] at h ⊢
  cases r with
  | inl n =>
    obtain ⟨P, he, -⟩ := h
    exact ⟨_, _, he⟩
  | inr x => exact ⟨_, _, h⟩
theorem sign_some {k : Int} (h : k = 1 ∨ k = 2 ∨ k = 3 ∨ k = 4) : ((⟨(signL k).toArray⟩ : ByteArray).toList) = signL k ∧ signL k ≠ [] := by
  rcases h with rfl | rfl | rfl | rfl <;> exact ⟨by kernel_rfl, by decide⟩
theorem check_any (m : Mt) (w : World) (hn : m.n.size ≤ maxLen) (hv : m.v.size ≤ maxLen) :
    Calls Try.prog 48 #[m.val] w fun e w' => e = .returned (.int .i64 (checkM m)) ∧ Gr w w' := by
  obtain ⟨k, n, v⟩ := m
  simp only at hn hv
  show Calls Try.prog 48 #[.agg #[.int .i64 k, .string n, .string v]] w _
  unfold maxLen at hv
  have CS := Lib.hid (fun W => sign_any k W)
  have CN := Lib.hid (fun W => name_any n W hn)
  have CH := Lib.hid (fun W => hasPat_any k W)
  obtain ⟨b, hb⟩ : ∃ b, nameB n = b := ⟨_, rfl⟩
  rw [hb] at CN
  by_cases hk : signL k = []
  · have HE : Hid (checkM ⟨k, n, v⟩ = 1) := Lib.hid (by unfold checkM; rw [if_pos (.inl hk)])
    rw [hk] at CS
    obtain ⟨X, hX⟩ : ∃ X : ByteArray, (⟨([] : List UInt8).toArray⟩ : ByteArray) = X := ⟨_, rfl⟩
    have hXe : X.toList = [] := by rw [← hX]; kernel_rfl
    rw [hX] at CS
    clear hk hb hn hX
    go_enter Try.func48, Try.ntmps48
    go_wp2_with fail
    refine (CS.out _).mono ?_
    rintro e w1 ⟨rfl, rfl⟩
    go_wp2
    go_ret
    exact ⟨by rw [HE.out]; rfl, (Gr.refl w).alloc _ _⟩
  · obtain ⟨X, hX⟩ : ∃ X : ByteArray, (⟨(signL k).toArray⟩ : ByteArray) = X := ⟨_, rfl⟩
    have hXe : X.toList.isEmpty = false := by
      rw [← hX]
      have : k = 1 ∨ k = 2 ∨ k = 3 ∨ k = 4 := by
        rcases kind_cases k with h | h | h | h | h
        · exact .inl h
        · exact .inr (.inl h)
        · exact .inr (.inr (.inl h))
        · exact .inr (.inr (.inr h))
        · exact absurd h.2.2.2.2.1 hk
      rw [(sign_some this).1]
      simpa using hk
    rw [hX] at CS
    cases b
    · have HE : Hid (checkM ⟨k, n, v⟩ = 1) := Lib.hid (by unfold checkM; rw [if_pos (.inr (.inl hb))])
      clear hk hb hn hX
      go_enter Try.func48, Try.ntmps48
      go_wp2_with fail
      refine (CS.out _).mono ?_
      rintro e w1 ⟨rfl, rfl⟩
      go_wp2_with fail
      refine (CN.out _).mono ?_
      rintro e w2 ⟨rfl, rfl⟩
      go_wp2
      go_ret
      exact ⟨by rw [HE.out]; rfl, (Gr.refl w).alloc _ _⟩
    · by_cases hbig : 256 < v.size
      · have HE : Hid (checkM ⟨k, n, v⟩ = 1) := Lib.hid (by unfold checkM; rw [if_pos (.inr (.inr hbig))])
        have n1 : (256 : Int) < (v.size : Int) := by omega
        clear hk hb hn hX
        go_enter Try.func48, Try.ntmps48
        go_wp2_with fail
        refine (CS.out _).mono ?_
        rintro e w1 ⟨rfl, rfl⟩
        go_wp2_with fail
        refine (CN.out _).mono ?_
        rintro e w2 ⟨rfl, rfl⟩
        go_wp2
        go_ret
        exact ⟨by rw [HE.out]; rfl, (Gr.refl w).alloc _ _⟩
      · have n1 : ¬ (256 : Int) < (v.size : Int) := by omega
        have CC := Lib.hid (fun W => errT_any v (by omega) W)
        obtain ⟨p, hp⟩ : ∃ p, hasP k = p := ⟨_, rfl⟩
        rw [hp] at CH
        have HE : Hid (checkM ⟨k, n, v⟩ = if p then errT (treeS v.data.toList) else 0) := Lib.hid (by unfold checkM; rw [if_neg (by simp [hk, hb, hbig]), hp])
        clear hk hb hn hX hp
        obtain ⟨er, her⟩ : ∃ er, errT (treeS v.data.toList) = er := ⟨_, rfl⟩
        rw [her] at CC HE
        clear her
        cases p
        · go_enter Try.func48, Try.ntmps48
          go_wp2_with fail
          refine (CS.out _).mono ?_
          rintro e w1 ⟨rfl, rfl⟩
          go_wp2_with fail
          refine (CN.out _).mono ?_
          rintro e w2 ⟨rfl, rfl⟩
          go_wp2_with fail
          refine (CH.out _).mono ?_
          rintro e w3 ⟨rfl, rfl⟩
          go_wp2
          go_ret
          exact ⟨by rw [HE.out]; rfl, (Gr.refl w).alloc _ _⟩
        · go_enter Try.func48, Try.ntmps48
          go_wp2_with fail
          refine (CS.out _).mono ?_
          rintro e w1 ⟨rfl, rfl⟩
          go_wp2_with fail
          refine (CN.out _).mono ?_
          rintro e w2 ⟨rfl, rfl⟩
          go_wp2_with fail
          refine (CH.out _).mono ?_
          rintro e w3 ⟨rfl, rfl⟩
          go_wp2_with fail
          refine (CC.out _).mono ?_
          rintro e w4 ⟨g4, P, K, rfl⟩
          go_wp2
          go_ret
          exact ⟨by rw [HE.out]; rfl, ((Gr.refl w).alloc _ _).trans g4⟩
end Go.Proofs.Ytnlfndhgdeapeaa
namespace Go.Proofs.Ytnlfndhgdeapeaa
open Go.RowKit
set_option maxRecDepth 100000
set_option maxHeartbeats 1000000

/-- the texts are such as the model has -/
def Wm (l : List Mt) : Prop := ∀ x ∈ l, x.n.size ≤ maxLen ∧ x.v.size ≤ maxLen
/-- what is wrong with matchers -/
def checkL : List Mt → Int
  | [] => 0
  | m :: r => if checkM m = 0 then checkL r else checkM m
def checkA (l : List Mt) : Int := if checkL l = 0 then (if 32 < l.length then 1 else 0) else checkL l
theorem checkL_step {l : List Mt} {k : Nat} (h : k < l.length) : checkL (l.drop k) = if checkM l[k] = 0 then checkL (l.drop (k + 1)) else checkM l[k] := by
  rw [List.drop_eq_getElem_cons h]; rfl
theorem mcheck_any (A : Option Addr) (l : List Mt) (c : Nat) (w : World) (h : MatsAt w A l) (hw : Wm l) (hl : l.length ≤ 1099511627776) :
    Calls Try.prog 31 #[.slice A l.length c] w fun e w' => e = .returned (.int .i64 (checkA l)) ∧ Gr w w' := by
  have HL := Lib.hid h
  have HW := Lib.hid hw
  clear h hw
  go_enter Try.func31, Try.ntmps31
  go_wp2
  go_loopw [8] (fun i wr => ∃ k : Nat, k ≤ l.length ∧ i = .int .i64 k ∧ Hid (checkL l = checkL (l.drop k)) ∧ Gr w wr) (fun i _ => l.length - (intOf i).toNat)
  case atStart => exact ⟨0, Nat.zero_le _, rfl, rfl, Gr.refl _⟩
  case round =>
    obtain ⟨k, hk, rfl, HR, hg⟩ := hrel
    by_cases hlt : k < l.length
    · obtain ⟨b, o, rfl, c1, c2, c3, -⟩ := (HL.out.gr hg).at_ hlt
      have HS := Lib.hid (checkL_step hlt)
      have hm := HW.out l[k] (List.getElem_mem hlt)
      obtain ⟨⟨mk, mn, mv⟩, hx⟩ : ∃ x, l[k] = x := ⟨_, rfl⟩
      rw [hx] at c1 c2 c3 HS hm
      have CM : Hid (∀ W, Calls Try.prog 48 #[.agg #[.int .i64 mk, .string mn, .string mv]] W fun e w' => e = .returned (.int .i64 (checkM ⟨mk, mn, mv⟩)) ∧ Gr W w') := Lib.hid (fun W => check_any ⟨mk, mn, mv⟩ W hm.1 hm.2)
      obtain ⟨x, hxe⟩ : ∃ x, checkM ⟨mk, mn, mv⟩ = x := ⟨_, rfl⟩
      rw [hxe] at CM HS
      clear hx hm hxe
      by_cases h0 : x = 0
      · subst h0
        have HN : Hid (checkL l = checkL (l.drop (k + 1))) := Lib.hid (by rw [HR.out, HS.out]; rfl)
        go_wp2_with fail
        refine (CM.out _).mono ?_
        rintro e w1 ⟨rfl, g1⟩
        have hg1 : Gr w w1 := (hg.alloc _ _).trans g1
        clear g1
        go_wp2
        go_roundw
        case rel => exact ⟨k + 1, by omega, by go_num, HN, hg1⟩
        case measure => simp [intOf]; omega
      · have hb : (x != 0) = true := by simpa using h0
        have HN : Hid (checkA l = x) := Lib.hid (by unfold checkA; rw [HR.out, HS.out, if_neg h0, if_neg h0])
        clear h0
        go_wp2_with fail
        refine (CM.out _).mono ?_
        rintro e w1 ⟨rfl, g1⟩
        have hg1 : Gr w w1 := (hg.alloc _ _).trans g1
        clear g1
        go_wp2
        go_ret
        exact ⟨by rw [HN.out]; rfl, hg1⟩
    · obtain rfl : k = l.length := by omega
      have HZ : Hid (checkL l = 0) := Lib.hid (by rw [HR.out, List.drop_length]; rfl)
      by_cases h32 : 32 < l.length
      · have HN : Hid (checkA l = 1) := Lib.hid (by unfold checkA; rw [if_pos HZ.out, if_pos h32])
        have n1 : (32 : Int) < (l.length : Int) := by omega
        go_wp2
        go_ret
        exact ⟨by rw [HN.out]; rfl, hg⟩
      · have HN : Hid (checkA l = 0) := Lib.hid (by unfold checkA; rw [if_pos HZ.out, if_neg h32])
        have n1 : ¬ (32 : Int) < (l.length : Int) := by omega
        go_wp2
        go_ret
        exact ⟨by rw [HN.out]; rfl, hg⟩
end Go.Proofs.Ytnlfndhgdeapeaa
namespace Go.Proofs.Ytnlfndhgdeapeaa
open Go.RowKit Go.Maps Go.WideMaps
set_option maxRecDepth 100000
set_option maxHeartbeats 2000000

/-! matchers as cells -/
def encM (m : Mt) : List Value := [.int .i64 m.k, .string m.n, .string m.v]
theorem mflat_len (l : List Mt) : (l.flatMap encM).length = l.length * 3 := by
  induction l with
  | nil => rfl
  | cons x r ih => rw [List.flatMap_cons, List.length_append, ih, List.length_cons]; simp [encM]; omega
theorem mflat_cells : ∀ (l : List Mt) (i : Nat) (x : Mt), l[i]? = some x → (l.flatMap encM)[i * 3]? = some (.int .i64 x.k) ∧ (l.flatMap encM)[i * 3 + 1]? = some (.string x.n) ∧ (l.flatMap encM)[i * 3 + 2]? = some (.string x.v)
  | [], i, x, h => by simp at h
  | y :: r, 0, x, h => by
    simp at h; subst h
    simp [encM]
  | y :: r, i + 1, x, h => by
    rw [List.getElem?_cons_succ] at h
    obtain ⟨h1, h2, h3⟩ := mflat_cells r i x h
    have e : ∀ j, (i + 1) * 3 + j = (encM y).length + (i * 3 + j) := fun j => by simp [encM]; omega
    rw [List.flatMap_cons]
    refine ⟨?_, ?_, ?_⟩
    · rw [show (i + 1) * 3 = (encM y).length + i * 3 from e 0, List.getElem?_append_right (by omega), Nat.add_sub_cancel_left]; exact h1
    · rw [e 1, List.getElem?_append_right (by omega), Nat.add_sub_cancel_left]; exact h2
    · rw [e 2, List.getElem?_append_right (by omega), Nat.add_sub_cancel_left]; exact h3
theorem mflat_one (l : List Mt) : (l.flatMap encM).all (·.oneCell') = true := by
  rw [List.all_eq_true]
  intro v hv
  obtain ⟨m, -, hm⟩ := List.mem_flatMap.1 hv
  simp [encM] at hm
  rcases hm with rfl | rfl | rfl <;> rfl
theorem mflat_at {W : World} {b o : Nat} {l : List Mt} (h : MatsAt W (some ⟨b, o, none⟩) l) : ∀ j u, (l.flatMap encM)[j]? = some u → W.cell? ⟨b, o + j, none⟩ = some u := by
  intro j u hu
  have hj : j < l.length * 3 := by have := (List.getElem?_eq_some_iff.1 hu).1; rwa [mflat_len] at this
  obtain ⟨b', o', e, hc⟩ := h (by omega)
  injection e with e; injection e with e1 e2; subst e1; subst e2
  have hi : j / 3 < l.length := by omega
  have hx := List.getElem?_eq_getElem hi
  obtain ⟨c1, c2, c3⟩ := hc _ _ hx
  obtain ⟨g1, g2, g3⟩ := mflat_cells l _ _ hx
  have hm : j % 3 = 0 ∨ j % 3 = 1 ∨ j % 3 = 2 := by omega
  rcases hm with e | e | e
  · have e2 : j / 3 * 3 = j := by omega
    rw [e2] at c1 g1
    rw [hu] at g1; cases g1; exact c1
  · have e2 : j / 3 * 3 + 1 = j := by omega
    rw [Nat.add_assoc, e2] at c2
    rw [e2] at g2
    rw [hu] at g2; cases g2; exact c2
  · have e2 : j / 3 * 3 + 2 = j := by omega
    rw [Nat.add_assoc, e2] at c3
    rw [e2] at g3
    rw [hu] at g3; cases g3; exact c3
theorem mat_info : (Try.prog.info? 33).map (fun i => (i.zero, i.size, i.bytes)) = some (some (.agg #[.int .i64 0, .string ⟨#[]⟩, .string ⟨#[]⟩]), 3, 40) := by kernel_rfl
theorem mats_of_own {W : World} {base n : Nat} {v : Value} {l : List Mt} (h : W.ownsRow base 33 3 v n (l.flatMap encM)) (h0 : 0 < l.length) :
    ∃ g c, v = .slice (some ⟨g, 0, none⟩) l.length c ∧ base ≤ g ∧ l.length ≤ c ∧ c ≤ maxLen ∧ MatsAt W (some ⟨g, 0, none⟩) l := by
  have hl := h.1
  rw [mflat_len] at hl
  have hn : n = l.length := by omega
  have hcell := fun g (hg : v.ownBlock = some g) => h.cells hg
  rcases h.2 with ⟨_, e0⟩ | ⟨g, cap, cur, rfl, hb, hg, hnc, hm, hs, ht⟩
  · omega
  · subst hn
    refine ⟨g, cap, rfl, hb, hnc, hm, fun _ => ⟨g, 0, rfl, fun i x hx => ?_⟩⟩
    have hadd : ∀ j, (⟨g, 0, none⟩ : Addr).add j = ⟨g, j, none⟩ := fun j => by unfold Addr.add; split <;> simp_all
    obtain ⟨c1, c2, c3⟩ := mflat_cells l i x hx
    have d1 := hcell g rfl _ _ c1
    have d2 := hcell g rfl _ _ c2
    have d3 := hcell g rfl _ _ c3
    rw [hadd] at d1 d2 d3
    rw [Nat.zero_add]
    exact ⟨d1, d2, d3⟩
theorem mclone_any (A : Option Addr) (c : Nat) (l : List Mt) (w : World) (h : MatsAt w A l) (hl : l.length ≤ 1099511627776) :
    Calls Try.prog 36 #[.slice A l.length c] w fun e w' => ∃ A' c', e = .returned (.slice A' l.length c') ∧ MatsAt w' A' l ∧ Gr w w' := by
  by_cases h0 : 0 < l.length
  · obtain ⟨b, o, rfl, -⟩ := h h0
    obtain ⟨i0, hi, hz0, hz1, hz2⟩ := info_parts mat_info
    have hcon := AnyE.slices_Clone Try.cloneM i0 (.agg #[.int .i64 0, .string ⟨#[]⟩, .string ⟨#[]⟩]) 3 40 hi hz0 hz1 hz2 rfl (by omega) Try.sizeOf33 b o l.length c (l.flatMap encM) w (mflat_len l) (by unfold maxLen; omega) (by omega) (mflat_at h) (fun u hu => List.all_eq_true.1 (mflat_one l) u hu)
    change Calls Try.prog 36 _ _ _ at hcon
    refine hcon.mono fun e w' ⟨v', he, hown, _, hb⟩ => ?_
    obtain ⟨g, c', rfl, hg, h1, h2, hR⟩ := mats_of_own hown h0
    exact ⟨_, c', he, hR, ⟨hb⟩⟩
  · have hn : l.length = 0 := by omega
    obtain rfl := List.eq_nil_of_length_eq_zero hn
    have q22 : ∀ (w : World) (a : Option Addr) (n c n' c' : Nat), (binOp .eql 35 (.slice a n c) (.slice none n' c')).run Try.prog w = .ok (.bool a.isNone) w := fun w a n c n' c' => Lib.run_eql_slice_nil w _ _ a n c n' c' Try.underlying35
    show Calls Try.prog 36 #[.slice A 0 c] w _
    cases A with
    | none =>
      go_enter Try.func36, Try.ntmps36
      go_wp2
      go_ret
      exact ⟨none, 0, rfl, fun h => absurd h (by simp), Gr.refl _⟩
    | some a =>
      go_enter Try.func36, Try.ntmps36
      go_wp2
      go_ret
      exact ⟨_, _, rfl, fun h => absurd h (by simp), (Gr.refl _).alloc _ _⟩

/-! programs in a map -/
/-- a program's datum: its block's number -/
def progElem (v : Value) : Option (DataW Unit × List MemPlace) := match v with
  | .pointer none => some (.lit (.int .i64 (-1)), [])
  | .pointer (some ⟨b, 0, none⟩) => some (.lit (.int .i64 b), [])
  | _ => none
theorem progElem_nil : progElem (.pointer none) = some (.lit (.int .i64 (-1)), []) := rfl
theorem progElem_mk (b : Nat) : progElem (.pointer (some ⟨b, 0, none⟩)) = some (.lit (.int .i64 b), []) := rfl
theorem progElem_inv {v : Value} {b : Nat} {ps : List MemPlace} (h : progElem v = some (.lit (.int .i64 b), ps)) : v = .pointer (some ⟨b, 0, none⟩) := by
  unfold progElem at h
  split at h
  · simp at h
  · rename_i c
    simp at h
    obtain rfl : c = b := by omega
    rfl
  · cases h
/-- the map's key -/
def kOf (s : ByteArray) : Lit := .string s.data.toList
/-- the programs of a row of matchers lie in the map at block M -/
structure Progs (W : World) (M : Nat) (l : List Mt) : Prop where
  m : ∃ n D, n ≤ l.length ∧ W.ownsMap Try.prog 9 progElem M n D ∧ ∀ x ∈ l, hasP x.k = true → ∃ (b : Nat) (t : Nd), treeS x.v.data.toList = .inl t ∧ D.atKey (kOf x.v) (.lit (.int .i64 (-1))) = .lit (.int .i64 b) ∧ Pat W b t
theorem strKey : Keyed Try.prog 9 := string_keyed Try.underlying9
theorem kOf_key (s : ByteArray) (hs : s.size ≤ maxLen) : keyOf Try.prog 9 (.string s) = some (kOf s) := keyOf_string_mk Try.underlying9 hs
/-- a set of matchers -/
structure SetB (W : World) (S : Nat) (l : List Mt) : Prop where
  s : ∃ A c M, W.heap[S]? = some (.cells #[.slice A l.length c, .map (some M)] 88 (0, 0)) ∧ MatsAt W A l ∧ Progs W M l
theorem Gr.grown {W W' : World} (g : Gr W W') : W.grownBy W' none := ⟨g.b.os, g.b.tape, g.b.output, g.b.size, fun i hi _ => g.b.block i hi⟩
theorem Progs.gr {W W' : World} {M : Nat} {l : List Mt} (h : Progs W M l) (g : Gr W W') : Progs W' M l := by
  obtain ⟨n, D, hn, ho, hp⟩ := h.m
  refine ⟨n, D, hn, ho.kept g.grown (by simp), fun x hx hk => ?_⟩
  obtain ⟨b, t, h1, h2, h3⟩ := hp x hx hk
  exact ⟨b, t, h1, h2, h3.gr g⟩
theorem SetB.gr {W W' : World} {S : Nat} {l : List Mt} (h : SetB W S l) (g : Gr W W') : SetB W' S l := by
  obtain ⟨A, c, M, h1, h2, h3⟩ := h.s
  exact ⟨A, c, M, (g.b.block S (Array.getElem?_eq_some_iff.1 h1).1).trans h1, h2.gr g, h3.gr g⟩
theorem ne_map {W : World} {M c : Nat} {es ck cs t f} (h : W.heap[M]? = some (.map es ck)) (h2 : W.heap[c]? = some (.cells cs t f)) : c ≠ M := by
  rintro rfl
  rw [h] at h2
  cases h2
theorem Pat.onMap {W W' : World} {P M : Nat} {n : Nd} (h : Pat W P n) (o : W.grownBy W' (some M)) {es ck} (hM : W.heap[M]? = some (.map es ck)) : Pat W' P n := by
  refine ⟨?_, h.w, h.t⟩
  obtain ⟨v, h1, h2⟩ := h.p
  refine ⟨v, (o.block _ (Array.getElem?_eq_some_iff.1 h1).1 (fun e => ne_map hM h1 (Option.some.inj e))).trans h1, h2.keep fun c e => o.block c (h2.lt c e).2 (fun e' => ?_)⟩
  obtain ⟨vs, -, h3, -⟩ := h2
  rcases h3.2 with ⟨e1, -⟩ | ⟨g, cap, cur, e1, -, hg, -⟩
  · rw [e1] at e; cases e
  · rw [e1] at e
    obtain rfl := Option.some.inj e
    exact ne_map hM hg (Option.some.inj e')
/-- one program more -/
theorem progs_put {W W' : World} {b : Nat} {D : DataW Unit} {l : List Mt} {x : Mt} {t : Nd} (hD : IsMap D) (hp : ∀ y ∈ l, hasP y.k = true → ∃ (b : Nat) (t : Nd), treeS y.v.data.toList = .inl t ∧ D.atKey (kOf y.v) (.lit (.int .i64 (-1))) = .lit (.int .i64 b) ∧ Pat W b t)
    (ht : treeS x.v.data.toList = .inl t) (hP : Pat W b t) (keep : ∀ P n, Pat W P n → Pat W' P n) :
    ∀ y ∈ l ++ [x], hasP y.k = true → ∃ (b' : Nat) (t : Nd), treeS y.v.data.toList = .inl t ∧ (D.put (kOf x.v) (.lit (.int .i64 b))).atKey (kOf y.v) (.lit (.int .i64 (-1))) = .lit (.int .i64 b') ∧ Pat W' b' t := by
  intro y hy hk
  by_cases e : kOf y.v = kOf x.v
  · rw [e]
    have e2 : y.v.data.toList = x.v.data.toList := by unfold kOf at e; injection e
    exact ⟨b, t, by rw [e2]; exact ht, atKey_put_same hD (show WideAt.IsKeyLit (.string _) from trivial) _ _, keep _ _ hP⟩
  · rcases List.mem_append.1 hy with h | h
    · obtain ⟨b', t', h1, h2, h3⟩ := hp y h hk
      exact ⟨b', t', h1, by rw [atKey_put_other e]; exact h2, keep _ _ h3⟩
    · rw [List.mem_singleton] at h
      rw [h] at e
      exact absurd rfl e
def NewPost (l : List Mt) (w : World) (e : Ending) (w' : World) : Prop :=
  Gr w w' ∧ if checkA l = 0 then ∃ S, e = .returned (.tuple #[.pointer (some ⟨S, 0, none⟩), .int .i64 0]) ∧ SetB w' S l else e = .returned (.tuple #[.pointer none, .int .i64 (checkA l)])
/-- on the way: the set's block S behind the start, the map's M -/
structure NewAt (w W : World) (S M : Nat) (A : Option Addr) (c : Nat) (l : List Mt) (k : Nat) : Prop where
  g : Gr w W
  s : W.heap[S]? = some (.cells #[.slice A l.length c, .map (some M)] 88 (0, 0))
  h : w.heap.size ≤ M
  a : MatsAt W A l
  m : ∃ n D, n ≤ k ∧ W.ownsMap Try.prog 9 progElem M n D ∧ ∀ x ∈ l.take k, hasP x.k = true → ∃ (b : Nat) (t : Nd), treeS x.v.data.toList = .inl t ∧ D.atKey (kOf x.v) (.lit (.int .i64 (-1))) = .lit (.int .i64 b) ∧ Pat W b t
theorem NewAt.gr {w W W' : World} {S M : Nat} {A : Option Addr} {c : Nat} {l : List Mt} {k : Nat} (h : NewAt w W S M A c l k) (g : Gr W W') : NewAt w W' S M A c l k := by
  obtain ⟨n, D, hn, ho, hp⟩ := h.m
  exact ⟨h.g.trans g, (g.b.block S (Array.getElem?_eq_some_iff.1 h.s).1).trans h.s, h.h, h.a.gr g, n, D, hn, ho.kept g.grown (by simp), fun x hx hk => by
    obtain ⟨b, t, h1, h2, h3⟩ := hp x hx hk
    exact ⟨b, t, h1, h2, h3.gr g⟩⟩
theorem NewAt.skip {w W : World} {S M : Nat} {A : Option Addr} {c : Nat} {l : List Mt} {k : Nat} (h : NewAt w W S M A c l k) (hk : k < l.length) (hp : hasP l[k].k = false) : NewAt w W S M A c l (k + 1) := by
  obtain ⟨n, D, hn, ho, hq⟩ := h.m
  refine ⟨h.g, h.s, h.h, h.a, n, D, by omega, ho, fun x hx hxk => ?_⟩
  rw [List.take_succ_eq_append_getElem hk] at hx
  rcases List.mem_append.1 hx with hx | hx
  · exact hq x hx hxk
  · rw [List.mem_singleton] at hx
    rw [hx, hp] at hxk
    cases hxk
theorem NewAt.put {w W : World} {S M b : Nat} {A : Option Addr} {c : Nat} {l : List Mt} {k : Nat} {t : Nd} (h : NewAt w W S M A c l k) (hk : k < l.length) (hl : l.length ≤ 1099511627776) (hs : l[k].v.size ≤ maxLen) (ht : treeS l[k].v.data.toList = .inl t) (hP : Pat W b t) :
    ∃ W', (Instr.mapUpdate 86 (.map (some M)) (.string l[k].v) (.pointer (some ⟨b, 0, none⟩))).run Try.prog W = .ok () W' ∧ NewAt w W' S M A c l (k + 1) ∧ W.grownBy W' (some M) := by
  obtain ⟨n, D, hn, ho, hq⟩ := h.m
  obtain ⟨W', hr, ho', hg⟩ := ho.update strKey Try.underlying86 (by unfold maxLen; omega) (kOf_key _ hs) (progElem_mk b)
  have hD := ho.isMap
  obtain ⟨es, ck, hM, -⟩ := ho
  have hS : S ≠ M := ne_map hM h.s
  have hcell : ∀ {x o : Nat} {v : Value}, W.cell? ⟨x, o, none⟩ = some v → W'.cell? ⟨x, o, none⟩ = some v := fun {x o v} hc => by
    have hne : x ≠ M := by
      rintro rfl
      unfold World.cell? at hc
      rw [hM] at hc
      simp at hc
    exact (hg.cell (a := ⟨x, o, none⟩) hc (by show some x ≠ some M; simpa using hne))
  refine ⟨W', hr, ⟨h.g.only hg h.h, (hg.block S (Array.getElem?_eq_some_iff.1 h.s).1 (by simpa using hS)).trans h.s, h.h, fun h0 => ?_, n + 1, _, by omega, ho', ?_⟩, hg⟩
  · obtain ⟨b', o, e, hc⟩ := h.a h0
    exact ⟨b', o, e, fun i x hx => ⟨hcell (hc i x hx).1, hcell (hc i x hx).2.1, hcell (hc i x hx).2.2⟩⟩
  · rw [List.take_succ_eq_append_getElem hk]
    exact progs_put hD hq ht hP (fun P n hp => hp.onMap hg hM)
theorem NewAt.done {w W : World} {S M : Nat} {A : Option Addr} {c : Nat} {l : List Mt} (h : NewAt w W S M A c l l.length) : SetB W S l := by
  obtain ⟨n, D, hn, ho, hq⟩ := h.m
  rw [List.take_length] at hq
  exact ⟨A, c, M, h.s, h.a, ⟨n, D, hn, ho, hq⟩⟩
theorem NewAt.facts {w W : World} {S M : Nat} {A : Option Addr} {c : Nat} {l : List Mt} {k : Nat} (h : NewAt w W S M A c l k) : W.cell? ⟨S, 1, none⟩ = some (.map (some M)) ∧ S < W.heap.size := ⟨cell_of_row W S 1 _ _ (0, 0) h.s, (Array.getElem?_eq_some_iff.1 h.s).1⟩
end Go.Proofs.Ytnlfndhgdeapeaa
