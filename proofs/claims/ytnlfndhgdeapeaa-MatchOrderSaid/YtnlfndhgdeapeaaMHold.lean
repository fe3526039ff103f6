/- One of a set's matchers, asked of a value. -/
import Derived.Test.YtnlfndhgdeapeaaMNew
import Derived.Deep.RegionHeld3
import Derived.Deep.CutRange
import Derived.Deep.CutBlock
namespace Go.Proofs.Ytnlfndhgdeapeaa
open Go.RowKit Go.Maps Go.WideMaps
set_option maxRecDepth 100000
set_option maxHeartbeats 4000000

theorem new_err (A : Option Addr) (l : List Mt) (c : Nat) (w : World) (h : MatsAt w A l) (hw : Wm l) (hl : l.length ≤ 1099511627776) (hc : ¬ checkA l = 0) :
    Calls Try.prog 19 #[.slice A l.length c] w (NewPost l w) := by
  have CK := Lib.hid (fun W g => mcheck_any A l c W (h.gr g) hw hl)
  have HE : Hid (∀ w', Gr w w' → NewPost l w (.returned (.tuple #[.pointer none, .int .i64 (checkA l)])) w') := Lib.hid (fun w' g => ⟨g, by rw [if_neg hc]⟩)
  have hb : (checkA l != 0) = true := by simpa using hc
  obtain ⟨x, hx⟩ : ∃ x, checkA l = x := ⟨_, rfl⟩
  rw [hx] at CK HE hb
  clear hx hc h hw
  go_enter Try.func19, Try.ntmps19
  go_wp2_with fail
  refine (CK.out _ (Gr.refl _)).mono ?_
  rintro e w1 ⟨rfl, g1⟩
  go_wp2
  go_ret2
  exact HE.out _ g1
theorem new_ok (A : Option Addr) (l : List Mt) (c : Nat) (w : World) (h : MatsAt w A l) (hw : Wm l) (hl : l.length ≤ 1099511627776) (hc : checkA l = 0) (ht : ∀ x ∈ l, hasP x.k = true → ∃ t, treeS x.v.data.toList = .inl t) :
    Calls Try.prog 19 #[.slice A l.length c] w (NewPost l w) := by
  have CK : Hid (∀ W, Gr w W → Calls Try.prog 31 #[.slice A l.length c] W fun e w' => e = .returned (.int .i64 0) ∧ Gr W w') := Lib.hid (fun W g => by
    have := mcheck_any A l c W (h.gr g) hw hl
    rwa [hc] at this)
  have CC := Lib.hid (fun W g => mclone_any A c l W (h.gr g) hl)
  have HE : Hid (∀ S w', Gr w w' → SetB w' S l → NewPost l w (.returned (.tuple #[.pointer (some ⟨S, 0, none⟩), .int .i64 0])) w') := Lib.hid (fun S w' g hs => ⟨g, by rw [if_pos hc]; exact ⟨S, rfl, hs⟩⟩)
  have HL := Lib.hid h
  have HW := Lib.hid hw
  have HT := Lib.hid ht
  have hmm := @run_makeMap Try.prog
  clear hc h hw ht
  go_enter Try.func19, Try.ntmps19
  go_wp2_with fail
  refine (CK.out _ (Gr.refl _)).mono ?_
  rintro e w1 ⟨rfl, g1⟩
  go_wp2_with fail
  refine (CC.out _ g1).mono ?_
  rintro e w2 ⟨A', c', rfl, hA, g2⟩
  have hz1 := g1.size
  have hz2 := g2.size
  have H0 : Hid (NewAt w ((w2.alloc (.map #[] 0)).alloc (.cells #[.slice A' l.length c', .map (some w2.heap.size)] 88)) (w2.heap.size + 1) w2.heap.size A' c' l 0) := Lib.hid (by
    have gm : Gr w2 (w2.alloc (.map #[] 0)) := ⟨(Below.refl _ _).alloc (Nat.le_refl _) _⟩
    have hm := World.ownsMap_made w2 Try.prog 9 progElem
    refine ⟨(g1.trans (g2.trans gm)).alloc _ _, ?_, by omega, hA.gr (gm.alloc _ _), 0, .map [], Nat.le_refl _, hm.alloc _, fun x hx => by simp at hx⟩
    have := heap_alloc_new (w2.alloc (.map #[] 0)) (.cells #[.slice A' l.length c', .map (some w2.heap.size)] 88)
    simpa using this)
  clear hz1 hz2 hA g1 g2 CK CC
  go_wp2
  obtain ⟨M, hM⟩ : ∃ M, w2.heap.size = M := ⟨_, rfl⟩
  rw [hM] at H0 ⊢
  obtain ⟨W0, hW0⟩ : ∃ W0, (w2.alloc (.map #[] 0)).alloc (.cells #[.slice A' l.length c', .map (some M)] 88) = W0 := ⟨_, rfl⟩
  rw [hW0] at H0 ⊢
  clear hW0 hM hmm
  go_loopw [20] (fun i wr => ∃ k : Nat, k ≤ l.length ∧ i = .int .i64 k ∧ Hid (NewAt w wr (M + 1) M A' c' l k)) (fun i _ => l.length - (intOf i).toNat)
  case atStart => exact ⟨0, Nat.zero_le _, rfl, H0⟩
  case round =>
    clear H0
    obtain ⟨k, hk, rfl, HN⟩ := hrel
    by_cases hlt : k < l.length
    · obtain ⟨b, o, rfl, c1, c2, c3, -⟩ := (HL.out.gr HN.out.g).at_ hlt
      have hm := HW.out l[k] (List.getElem_mem hlt)
      have ht := HT.out l[k] (List.getElem_mem hlt)
      have n3 : (k : Int) < (l.length : Int) := by omega
      cases hp : hasP l[k].k
      · have HS := Lib.hid (fun (W : World) (g : Gr wr W) => (HN.out.gr g).skip hlt hp)
        obtain ⟨⟨mk, mn, mv⟩, hx⟩ : ∃ x, l[k] = x := ⟨_, rfl⟩
        rw [hx] at c1 c2 c3 hp
        have CH : Hid (∀ W, Calls Try.prog 37 #[.int .i64 mk] W fun e w' => e = .returned (.bool false) ∧ W = w') := Lib.hid (by have := hasPat_any mk; rwa [hp] at this)
        clear hx hp hm ht
        go_wp2_with fail
        refine (CH.out _).mono ?_
        rintro e w3 ⟨rfl, rfl⟩
        go_wp2
        go_roundw
        case rel => exact ⟨k + 1, by omega, by go_num, Lib.hid (HS.out _ ((Gr.refl wr).alloc _ _))⟩
        case measure => simp [intOf]; omega
      · obtain ⟨t, ht⟩ := ht hp
        have hs0 := fun (W : World) (b : Nat) (g : Gr wr W) (hP : Pat W b t) => (HN.out.gr g).put hlt hl hm.2 ht hP
        obtain ⟨f1, f2⟩ := HN.out.facts
        have hv1 := hm.2
        obtain ⟨⟨mk, mn, mv⟩, hx⟩ : ∃ x, l[k] = x := ⟨_, rfl⟩
        rw [hx] at c1 c2 c3 hp ht hv1 hs0
        simp only at ht hs0
        have HS := Lib.hid hs0
        clear hs0
        have CH : Hid (∀ W, Calls Try.prog 37 #[.int .i64 mk] W fun e w' => e = .returned (.bool true) ∧ W = w') := Lib.hid (by have := hasPat_any mk; rwa [hp] at this)
        have hsz : mv.size ≤ 1000000 := by
          have h4 := (treeS_ok ht)
          have : mv.size = mv.data.toList.length := by simp
          unfold treeS at ht
          split at ht
          · cases ht
          · omega
        have CT := Lib.hid (fun W => tree_yes ht hsz W)
        clear hx hp hm ht hv1 hsz
        go_upto_region 9 with (go_at_call 37; refine (CH.out _).mono ?_; rintro e w3 ⟨rfl, rfl⟩)
        have f3 : (wr.alloc (.cells #[.int .i64 mk, .string mn, .string mv] 33)).drew.cell? ⟨M + 1, 1, none⟩ = some (.map (some M)) := ((Gr.refl wr).alloc _ _).drew.cell f1
        have f4 : (wr.alloc (.cells #[.int .i64 mk, .string mn, .string mv] 33)).drew.cell? ⟨wr.heap.size, 2, none⟩ = some (.string mv) := by go_simp
        have HG : Hid (Gr wr (wr.alloc (.cells #[.int .i64 mk, .string mn, .string mv] 33)).drew) := Lib.hid ((Gr.refl wr).alloc _ _).drew
        clear c1 c2 c3 CH f1
        go_region_held3 (fun w' => w'.cell? ⟨M + 1, 1, none⟩ = some (.map (some M)) ∧ w'.cell? ⟨wr.heap.size, 2, none⟩ = some (.string mv))
          (first | exact ⟨k5, k6⟩ | exact ⟨k3, k4⟩ | exact ⟨f3, f4⟩ | go_keep)
          (first
            | (go_at_call 8
               refine (CT.out _).mono ?_
               rintro e w4 ⟨g4, P, rfl, hP⟩
               obtain ⟨W5, hr5, hn5, hg5⟩ := HS.out w4 P (HG.out.trans g4) hP
               have k3 := g4.cell f3
               have k4 := g4.cell f4
               have k5 := hn5.facts.1
               have k6 := hg5.cell (a := ⟨wr.heap.size, 2, none⟩) k4 (by show some wr.heap.size ≠ some M; simp; omega)
               have HN5 := Lib.hid hn5
               clear hP hn5 hg5))
        all_goals
          go_wp2
          go_roundw
          case rel => exact ⟨k + 1, by omega, by go_num, HN5⟩
          case measure => simp [intOf]; omega
    · obtain rfl : k = l.length := by omega
      have HD := Lib.hid HN.out.done
      have HG := Lib.hid HN.out.g
      have n3 : ¬ (l.length : Int) < (l.length : Int) := by omega
      clear HN
      go_wp2
      go_ret2
      exact HE.out _ _ HG.out HD.out
end Go.Proofs.Ytnlfndhgdeapeaa
namespace Go.Proofs.Ytnlfndhgdeapeaa
open Go.RowKit Go.Maps Go.WideMaps
set_option maxRecDepth 100000
set_option maxHeartbeats 2000000

theorem treeS_err {s : List UInt8} {k c : Nat} (h : treeS s = .inr (k, c)) : c = 2 ∨ c = 6 := by
  unfold treeS at h
  split at h
  · cases h; exact .inr rfl
  · split at h
    · cases h; exact .inr rfl
    · split at h
      · cases h
      · cases h; exact .inl rfl
theorem checkM_tree {m : Mt} (h : checkM m = 0) (hp : hasP m.k = true) : ∃ t, treeS m.v.data.toList = .inl t := by
  unfold checkM at h
  split at h
  · cases h
  · unfold errT at h
    split at h
    · exact ⟨_, ‹_›⟩
    · rename_i c e
      rcases treeS_err e with r | r <;> subst r <;> simp at h
theorem checkL_all {l : List Mt} (h : checkL l = 0) : ∀ x ∈ l, checkM x = 0 := by
  induction l with
  | nil => intro x hx; cases hx
  | cons y r ih =>
    unfold checkL at h
    by_cases hy : checkM y = 0
    · rw [if_pos hy] at h
      intro x hx
      rcases List.mem_cons.1 hx with rfl | hx
      · exact hy
      · exact ih h x hx
    · rw [if_neg hy] at h
      exact absurd h hy
theorem checkA_all {l : List Mt} (h : checkA l = 0) : (∀ x ∈ l, checkM x = 0) ∧ l.length ≤ 32 := by
  unfold checkA at h
  split at h
  · rename_i e
    split at h
    · cases h
    · exact ⟨checkL_all e, by omega⟩
  · rename_i e; exact absurd h e
theorem new_any (A : Option Addr) (l : List Mt) (c : Nat) (w : World) (h : MatsAt w A l) (hw : Wm l) (hl : l.length ≤ 1099511627776) :
    Calls Try.prog 19 #[.slice A l.length c] w (NewPost l w) := by
  by_cases hc : checkA l = 0
  · exact new_ok A l c w h hw hl hc (fun x hx hp => checkM_tree ((checkA_all hc).1 x hx) hp)
  · exact new_err A l c w h hw hl hc
/-- does a pattern's text match? -/
def likeB (p v : ByteArray) : Bool := match treeS p.data.toList with | .inl t => hits t v.data.toList | .inr _ => false
def holdM (m : Mt) (v : ByteArray) : Bool := if m.k = 1 then (v.toList == m.v.toList) else if m.k = 2 then !(v.toList == m.v.toList) else if m.k = 3 then likeB m.v v else !likeB m.v v
theorem SetB.prog {W : World} {S : Nat} {l : List Mt} (h : SetB W S l) {m : Mt} (hm : m ∈ l) (hp : hasP m.k = true) (hs : m.v.size ≤ maxLen) :
    ∃ M b t, W.cell? ⟨S, 1, none⟩ = some (.map (some M)) ∧ Pat W b t ∧ (∀ v : ByteArray, likeB m.v v = hits t v.data.toList) ∧ ∀ W', Gr W W' → (Instr.lookup 86 (.map (some M)) (.string m.v) false).run Try.prog W' = .ok (.pointer (some ⟨b, 0, none⟩)) W' := by
  obtain ⟨A, c, M, h1, h2, h3⟩ := h.s
  obtain ⟨n, D, hn, ho, hq⟩ := h3.m
  obtain ⟨b, t, e1, e2, e3⟩ := hq m hm hp
  refine ⟨M, b, t, cell_of_row W S 1 _ _ (0, 0) h1, e3, fun v => by unfold likeB; rw [e1], fun W' g => ?_⟩
  obtain ⟨v, ps, hr, hv⟩ := (ho.kept g.grown (by simp)).lookup strKey Try.underlying86 (z := .pointer none) (by kernel_rfl) progElem_nil (kOf_key m.v hs)
  rw [e2] at hv
  rw [progElem_inv hv] at hr
  exact hr
theorem holds_plain (S : Nat) (m : Mt) (v : ByteArray) (w : World) (hk : m.k = 1 ∨ m.k = 2) :
    Calls Try.prog 38 #[.pointer (some ⟨S, 0, none⟩), m.val, .string v] w fun e w' => e = .returned (.bool (holdM m v)) ∧ Gr w w' := by
  obtain ⟨k, n, mv⟩ := m
  simp only at hk
  show Calls Try.prog 38 #[.pointer (some ⟨S, 0, none⟩), .agg #[.int .i64 k, .string n, .string mv], .string v] w _
  rcases hk with rfl | rfl
  · have HE : Hid (holdM ⟨1, n, mv⟩ v = (v.toList == mv.toList)) := Lib.hid (by unfold holdM; simp)
    go_enter Try.func38, Try.ntmps38
    go_wp2
    go_ret
    exact ⟨by rw [HE.out]; rfl, (Gr.refl w).alloc _ _⟩
  · have HE : Hid (holdM ⟨2, n, mv⟩ v = !(v.toList == mv.toList)) := Lib.hid (by unfold holdM; simp)
    go_enter Try.func38, Try.ntmps38
    go_wp2
    go_ret
    exact ⟨by rw [HE.out]; rfl, (Gr.refl w).alloc _ _⟩
theorem holds_like (S : Nat) (l : List Mt) (m : Mt) (v : ByteArray) (w : World) (h : SetB w S l) (hm : m ∈ l) (hs : m.v.size ≤ maxLen) (hv : v.size ≤ 1000000000000) (hk : m.k = 3 ∨ m.k = 4) :
    Calls Try.prog 38 #[.pointer (some ⟨S, 0, none⟩), m.val, .string v] w fun e w' => e = .returned (.bool (holdM m v)) ∧ Gr w w' := by
  obtain ⟨M, b, t, c1, hP, hlk, hrun⟩ := h.prog hm (by unfold hasP; rcases hk with e | e <;> rw [e] <;> rfl) hs
  have hS : S < w.heap.size := World.block_lt_of_cell? w _ c1
  have hh : likeB m.v v = hits t v.data.toList := hlk v
  clear hlk h hm hs
  obtain ⟨k, n, mv⟩ := m
  simp only at hk hrun hh
  show Calls Try.prog 38 #[.pointer (some ⟨S, 0, none⟩), .agg #[.int .i64 k, .string n, .string mv], .string v] w _
  have HG : Hid (Gr w (w.alloc (.cells #[.int .i64 k, .string n, .string mv] 33)).drew) := Lib.hid ((Gr.refl w).alloc _ _).drew
  have f1 := HG.out.cell c1
  have f2 : (w.alloc (.cells #[.int .i64 k, .string n, .string mv] 33)).drew.cell? ⟨w.heap.size, 2, none⟩ = some (.string mv) := by go_simp
  have f3 := hrun _ HG.out
  have CM := Lib.hid (fun W (g : Gr w W) => pat_match (hP.gr g) v hv)
  rw [← hh] at CM
  obtain ⟨x, hx⟩ : ∃ x, likeB mv v = x := ⟨_, rfl⟩
  rw [hx] at CM
  clear hh hP c1 hrun hv
  rcases hk with rfl | rfl
  · have HE : Hid (holdM ⟨3, n, mv⟩ v = x) := Lib.hid (by unfold holdM; simp [hx])
    clear hx
    go_enter Try.func38, Try.ntmps38
    go_upto_region 7 with fail
    go_region_held3 (fun w' => w'.cell? ⟨S, 1, none⟩ = some (.map (some M)) ∧ w'.cell? ⟨w.heap.size, 2, none⟩ = some (.string mv))
      (first | exact ⟨k1, k2⟩ | exact ⟨f1, f2⟩ | go_keep)
      (first
        | (go_at_call 12
           refine (CM.out _ HG.out).mono ?_
           rintro e w4 ⟨rfl, g4⟩
           have k1 := g4.cell f1
           have k2 := g4.cell f2))
    all_goals
      go_wp2
      go_ret
      exact ⟨by rw [HE.out]; rfl, HG.out.trans g4⟩
  · have HE : Hid (holdM ⟨4, n, mv⟩ v = !x) := Lib.hid (by unfold holdM; simp [hx])
    clear hx
    go_enter Try.func38, Try.ntmps38
    go_upto_region 8 with fail
    go_region_held3 (fun w' => w'.cell? ⟨S, 1, none⟩ = some (.map (some M)) ∧ w'.cell? ⟨w.heap.size, 2, none⟩ = some (.string mv))
      (first | exact ⟨k1, k2⟩ | exact ⟨f1, f2⟩ | go_keep)
      (first
        | (go_at_call 12
           refine (CM.out _ HG.out).mono ?_
           rintro e w4 ⟨rfl, g4⟩
           have k1 := g4.cell f1
           have k2 := g4.cell f2))
    all_goals
      go_wp2
      go_ret
      exact ⟨by rw [HE.out]; rfl, HG.out.trans g4⟩
end Go.Proofs.Ytnlfndhgdeapeaa
