/- Steps of regions that draw, at nodes and their readers. -/
import Derived.Test.YtnlfndhgdeapeaaRq
import Derived.Deep.RegionLaw
import Derived.Test.YtnlfndhgdeapeaaPattern
import Derived.Test.YtnlfndhgdeapeaaTree
import Derived.Deep.RegionHeld
namespace Go.Proofs.Ytnlfndhgdeapeaa
open Go.RowKit
set_option maxRecDepth 100000
set_option maxHeartbeats 4000000

section
variable {Q : Exit → Act → World → Prop} {ops : Array Oper} {rest : List Oper} {o : Oper} {a : Act} {w : World}
theorem step_appR {K : Act → World → Prop} {E : Prop} (hgd : o.guard = none) (s x : Operand)
    (ho : o.op = .call { callee := .builtin .append, args := #[s, x], argTypes := #[63, 63] }) (hty : o.type = 63)
    {B n g c : Nat} {v : Value} {cs : Array Value} (hs : a.eval s = v) (hown : OwnR w B v n) (hx : a.eval x = .slice (some ⟨g, 0, none⟩) 1 c) (hg : RB w g cs) (hn : n ≤ 1000000) (hB : B ≤ w.heap.size)
    (h : ∀ v' W', OwnR W' B v' (n + 1) → w.grownBy W' v.ownBlock → (v'.ownBlock = v.ownBlock ∨ v'.ownBlock = some w.heap.size) → K (a.put o.dst v') W') : if Region.wanted o (yielded ops a.tmps) = true then Oper.wp Try.prog o a w K Q else E := by
  rw [if_pos (by simp [Region.wanted, hgd])]
  obtain ⟨i0, hi, hz0, hz1, hz2⟩ := info_parts rn_info
  obtain ⟨xs, hxs⟩ := hown
  have hadd : ∀ j, (⟨g, 0, none⟩ : Addr).add j = ⟨g, j, none⟩ := fun j => by unfold Addr.add; split <;> simp_all
  obtain ⟨v', w', hr, h2, h3, _, h5⟩ := run_append_own_at (P := Try.prog) w B 63 63 66 i0 _ 258 288 Try.underlying63 hi hz0 hz1 hz2 (nodeC_size _ _) (by omega) v n xs hxs ⟨g, 0, none⟩ 1 c cs.toList (by simp [hg.2.1]) (fun j u hu => by
    rw [hadd, cell_of_row w g j cs _ (0, 0) hg.1, ← hu, Array.getElem?_toList]) (fun u hu => (Array.all_eq_true_iff_forall_mem.1 hg.2.2) u (by simpa using hu)) (by unfold maxLen; omega) (by omega) hB
  refine Lib.wp_append_run w s x _ _ ho v _ hs hx v' w' ?_ (h v' w' ⟨_, h2⟩ h3 h5)
  rw [hty]; exact hr
theorem step_buildR {K : Act → World → Prop} {E : Prop} (hgd : o.guard = none) (x : Operand) (ho : o.op = .buildSlice 63 1 #[(0, x)]) {cs : Array Value} (hx : a.eval x = .agg cs) (h1 : cs.size = 258)
    (h : K (a.put o.dst (.slice (some ⟨w.heap.size, 0, none⟩) 1 1)) (w.alloc (.cells cs 66))) : if Region.wanted o (yielded ops a.tmps) = true then Oper.wp Try.prog o a w K Q else E := by
  rw [if_pos (by simp [Region.wanted, hgd])]
  unfold Oper.wp execOp
  simp only [ho, List.map_toArray, List.map_cons, List.map_nil, hx, Sem.run_bind, Sem.run_pure, run_buildR w cs h1, Result.andThen_ok]
  exact h
end
end Go.Proofs.Ytnlfndhgdeapeaa
/- The reference's alternatives. -/
namespace Go.Proofs.Ytnlfndhgdeapeaa
open Go.RowKit
set_option maxRecDepth 100000
set_option maxHeartbeats 4000000

theorem nodeC_get (k : Int) (v : Value) : (nodeC k v)[1]? = some v := by
  unfold nodeC
  rw [Array.getElem?_append_left (by simp)]
  rfl
structure AltAt (b d : Nat) (s : ByteArray) (w W : World) (ok : Bool) (j m : Nat) (v : Value) (n P : Nat) : Prop where
  o : Only w W b
  hP : w.heap.size < P
  r : RBx W w.heap.size
  p : ∃ cs, RB W P cs ∧ cs[1]? = some v
  l : OwnR W (w.heap.size + 1) v n
  hv : v.ownBlock ≠ some P
  y : ok = true → RdR W b s j d 0 0
  x : ok = false → ∃ (j : Nat) (e bad : Int), e ≠ 0 ∧ j ≤ m ∧ RdR W b s j d e bad
section
variable {b d d' j j' m m' n P : Nat} {s : ByteArray} {w W W' : World} {ok ok' : Bool} {v : Value}
theorem AltAt.plt (h : AltAt b d s w W ok j m v n P) : P < W.heap.size := by
  obtain ⟨cs, h1, -⟩ := h.p
  exact h1.lt
theorem AltAt.same (h : AltAt b d s w W ok j m v n P) (o : Only w W' b) (g : ∀ c, c = w.heap.size ∨ c = P ∨ v.ownBlock = some c → W'.heap[c]? = W.heap[c]?) (y : ok' = true → RdR W' b s j' d' 0 0) (x : ok' = false → ∃ (j : Nat) (e bad : Int), e ≠ 0 ∧ j ≤ m' ∧ RdR W' b s j d' e bad) : AltAt b d' s w W' ok' j' m' v n P := by
  obtain ⟨cs, h1, h2⟩ := h.p
  exact ⟨o, h.hP, h.r.of (g _ (.inl rfl)), ⟨cs, h1.of (g _ (.inr (.inl rfl))), h2⟩, h.l.keep2 (fun c hc => g c (.inr (.inr hc))), h.hv, y, x⟩
theorem AltAt.onR (h : AltAt b d s w W ok j m v n P) (hb : b < w.heap.size) (o : Only W W' b) (y : ok' = true → RdR W' b s j' d' 0 0) (x : ok' = false → ∃ (j : Nat) (e bad : Int), e ≠ 0 ∧ j ≤ m' ∧ RdR W' b s j d' e bad) : AltAt b d' s w W' ok' j' m' v n P :=
  h.same (h.o.trans o) (fun c hc => by
    have hl := h.plt
    have hP := h.hP
    rcases hc with rfl | rfl | hc
    · exact o.blk (by omega) (by omega)
    · exact o.blk (by omega) (by omega)
    · have := h.l.lt c hc
      exact o.blk this.2 (by omega)) y x
theorem AltAt.out (h : AltAt b d s w W ok j m v n P) (hb : b < w.heap.size) (o : Out b s d' ok' j' m' W W') : AltAt b d' s w W' ok' j' m' v n P := h.onR hb o.1 o.2.1 o.2.2
theorem AltAt.gr (h : AltAt b d s w W ok j m v n P) (_hb : b < w.heap.size) (g : Gr W W') : AltAt b d s w W' ok j m v n P :=
  have hl := h.plt
  have hP := h.hP
  h.same (h.o.gr g) (fun c hc => g.b.block c (by
    rcases hc with rfl | rfl | hc
    · omega
    · omega
    · exact (h.l.lt c hc).2)) (fun e => (h.y e).gr g) (fun e => by
    obtain ⟨j, e, bad, h2, h3, h4⟩ := h.x e
    exact ⟨j, e, bad, h2, h3, h4.gr g⟩)
theorem AltAt.drewN (h : AltAt b d s w W ok j m v n P) (k : Nat) : AltAt b d s w (W.drewN k) ok j m v n P := ⟨h.o.drewN k, h.hP, h.r, h.p, h.l, h.hv, h.y, h.x⟩
theorem AltAt.drew (h : AltAt b d s w W ok j m v n P) : AltAt b d s w W.drew ok j m v n P := h.drewN 1
theorem AltAt.step (h : AltAt b d s w W true j m v n P) (hb : b < w.heap.size) (j' m' : Nat) : AltAt b d s w (W.setCell ⟨b, 1, none⟩ (.int .i64 j')) true j' m' v n P :=
  h.onR hb ((Only.refl W b).setCell (by rfl) _) (fun _ => (h.y rfl).setAt j') (fun e => (by cases e))
theorem AltAt.no (h : AltAt b d s w W false j m v n P) (j' : Nat) (hm : m ≤ m') : AltAt b d s w W false j' m' v n P := ⟨h.o, h.hP, h.r, h.p, h.l, h.hv, fun e => (by cases e), fun e => by
    obtain ⟨j, e, bad, h2, h3, h4⟩ := h.x e
    exact ⟨j, e, bad, h2, by omega, h4⟩⟩
theorem AltAt.yes (h : AltAt b d s w W true j m v n P) (m' : Nat) : AltAt b d s w W true j m' v n P := ⟨h.o, h.hP, h.r, h.p, h.l, h.hv, h.y, fun e => (by cases e)⟩
theorem AltAt.facts (h : AltAt b d s w W ok j m v n P) : W.cell? ⟨P, 1, none⟩ = some v ∧ W.frozen? ⟨P, 1, none⟩ = false := by
  obtain ⟨cs, h1, h2⟩ := h.p
  exact ⟨(cell_of_row W _ 1 cs _ (0, 0) h1.1).trans h2, frozen_of_row W _ 1 cs _ h1.1⟩
/-- a node is appended -/
theorem AltAt.app {v' : Value} (h : AltAt b d s w W ok j m v n P) (hb : b < w.heap.size) (g : W.grownBy W' v.ownBlock) (l : OwnR W' (w.heap.size + 1) v' (n + 1)) (hv' : v'.ownBlock = v.ownBlock ∨ v'.ownBlock = some W.heap.size) :
    W'.cell? ⟨P, 1, none⟩ = some v ∧ W'.frozen? ⟨P, 1, none⟩ = false ∧ AltAt b d s w (W'.setCell ⟨P, 1, none⟩ v') ok j m v' (n + 1) P := by
  obtain ⟨cs, h1, h2⟩ := h.p
  have hl := h.plt
  have hP := h.hP
  have hrow : ∀ k, v.ownBlock = some k → w.heap.size + 1 ≤ k := fun k e => (h.l.lt k e).1
  have hnP : v'.ownBlock ≠ some P := by
    rcases hv' with e | e
    · rw [e]; exact h.hv
    · rw [e]; intro e2; have := Option.some.inj e2; omega
  have hk1 : ∀ c, c < w.heap.size + 1 → W'.heap[c]? = W.heap[c]? := fun c hc => g.block c (by omega) (fun e => by have := hrow c e.symm; omega)
  have hkP : W'.heap[P]? = W.heap[P]? := g.block P hl (fun e => h.hv e.symm)
  have h1' : RB W' P cs := h1.of hkP
  have hset : ∀ c, c ≠ P → (W'.setCell ⟨P, 1, none⟩ v').heap[c]? = W'.heap[c]? := fun c hc => Below.heap_setCell W' _ _ c (by show c ≠ P; exact hc)
  refine ⟨(cell_of_row W' _ 1 cs _ (0, 0) h1'.1).trans h2, frozen_of_row W' _ 1 cs _ h1'.1, ?_⟩
  have o' : Only w W' b := h.o.grown g (fun k e => by have := hrow k e; omega)
  have hbk : (W'.setCell ⟨P, 1, none⟩ v').heap[b]? = W.heap[b]? := (hset b (by omega)).trans (hk1 b (by omega))
  exact ⟨o'.setFar (by omega) _, hP, h.r.of ((hset _ (by omega)).trans (hk1 _ (by omega))), ⟨_, h1'.setSame 1 l.one, by rw [Array.getElem?_setIfInBounds, if_pos rfl, if_pos (by rw [h1.2.1]; omega)]⟩,
    l.keep2 (fun c hc => hset c (fun e => hnP (by rw [hc, e]))), hnP, fun e => (h.y e).of hbk, fun e => by
      obtain ⟨j, e, bad, h2, h3, h4⟩ := h.x e
      exact ⟨j, e, bad, h2, h3, h4.of hbk⟩⟩
theorem AltAt.post {r : Bool × Nd × Nat} {cs : Array Value} (h : AltAt b d s w W r.1 j m v n P) (hj : r.1 = true → r.2.2 = j) (hb : b < w.heap.size) (o : Only W W' w.heap.size) (h1 : cs.size = 258) (h2 : cs.all (·.oneCell') = true) : RPost b s d r m w (.returned (.agg cs)) W' := by
  have hr : ∀ {j : Nat} {e bad : Int}, RdR W b s j d e bad → RdR W' b s j d e bad := fun h => h.of (o.blk h.lt (by omega))
  exact ⟨⟨cs, rfl, h1, h2⟩, h.o.far o (Nat.le_refl _), fun e => by rw [hj e]; exact hr (h.y e), fun e => by
    obtain ⟨j, e, bad, h2, h3, h4⟩ := h.x e
    exact ⟨j, e, bad, h2, h3, hr h4⟩⟩
end
attribute [local go_sem ↓] run_buildR
theorem rAlts_any (b k d m : Nat) (s : ByteArray) (br : Nat → Bool × Nd × Nat) (w : World) (h : RdR w b s k d 0 0) (hk : k ≤ s.size) (hs : s.size ≤ 1000000) (hd : d ≤ 40) (hm : s.size + 1 ≤ m) (hm2 : m ≤ 1500000)
    (h40 : d = 40 → ∀ j, (br j).1 = false) (hle : BrLe s.data.toList br) (hbr : altG s b d m k br) :
    Calls Try.prog 44 #[.pointer (some ⟨b, 0, none⟩)] w (RPost b s d ((altF s.data.toList br (s.size + 1) k []).1, noN, (altF s.data.toList br (s.size + 1) k []).2.2) (m + 1) w) := by
  have hlen : s.data.toList.length = s.size := by simp
  have hbN := h.lt
  have CP := Lib.hid (fun (j : Nat) W (h : RdR W b s j d 0 0) (hkj : k ≤ j) (hj : j ≤ s.size) => rPieces_any b j d m s br W h hj hs hd hm hm2 h40 hle (fun i hi hji => hbr i hi (by omega)))
  have HL := Lib.hid (fun (j : Nat) (hj : j ≤ s.size) => show (piecesF s.data.toList br (s.size + 1) j []).2.2 ≤ s.size ∧ j ≤ (piecesF s.data.toList br (s.size + 1) j []).2.2 by
    have h1 := piecesF_le hle (s.size + 1) j [] (by simp; omega)
    exact ⟨by simpa using h1.1, h1.2⟩)
  obtain ⟨Q, hQ⟩ : ∃ Q, altF s.data.toList br (s.size + 1) k [] = Q := ⟨_, rfl⟩
  rw [hQ]
  rw [altF_s, hlen] at hQ
  have HR := Lib.hid h
  have hres : Try.f44.results = #[.cell 2 66] := by kernel_rfl
  obtain ⟨N, hN⟩ : ∃ N, w.heap.size = N := ⟨_, rfl⟩
  obtain ⟨hl1, hl2⟩ := HL.out k hk
  have CP0 := Lib.hid (fun W h => CP.out k W h (Nat.le_refl k) hk)
  obtain ⟨r, hr⟩ : ∃ r, piecesF s.data.toList br (s.size + 1) k [] = r := ⟨_, rfl⟩
  rw [hr] at hQ hl1 hl2 CP0
  have HQ := Lib.hid hQ
  clear h hQ h40 hbr hle hr
  obtain ⟨ok0, l0, j0⟩ := r
  go_enter Try.func44, Try.ntmps44
  go_upto_block 0 with (first
    | (refine allocA N hN rfl rfl ?_; intro W1 hb1 hg1 hs1)
    | (go_at_call 58; refine (CP0.out _ (HR.out.gr hg1)).mono ?_; rintro e w1 ⟨⟨cs1, rfl, z1, z2⟩, ho1⟩)
    | (refine buildSliceA _ rfl (.tmp 5) rfl rfl rfl z1 z2 ?_; intro W2 hb2 hg2 hs2 hown2)
    | (refine wpList_build2 rfl _ _ rfl 2 rfl _ 1 1 rfl ?_)
    | (refine allocA _ rfl rfl rfl ?_; intro W4 hb4 hg4 hs4)
    | (refine storeA (.tmp 3) (.tmp 7) _ ⟨rfl, rfl⟩ rfl rfl rfl hb4 (nodeC_size _ _) (nodeC_one _ rfl) ?_; intro W5 hb5 ho5 hs5))
  obtain ⟨P, hP⟩ : ∃ P, W2.heap.size = P := ⟨_, rfl⟩
  have hz1 := ho1.1.size
  have HA0 : Hid (AltAt b d s w W5 ok0 j0 (m + 1) (.slice (some ⟨w1.heap.size, 0, none⟩) 1 1) 1 P) := by
    have hx : ∀ c, c < P → W5.heap[c]? = W2.heap[c]? := fun c hc => (ho5.block c (by omega) (fun e => by have := Option.some.inj e; omega)).trans (hg4.b.block c (by omega))
    have e1 : w.heap.size + 1 ≤ w1.heap.size := by have := ho1.1.size; omega
    have e2 : w1.heap.size < P := by have h3 : W2.heap.size = w1.heap.size + 1 := hs2; omega
    have o2 : Only w w1 b := ((Only.refl w b).gr hg1).trans ho1.1
    have hr : ∀ {j d : Nat} {e bad : Int}, RdR w1 b s j d e bad → RdR W5 b s j d e bad := fun h => (h.gr hg2).of (hx b (by omega))
    refine Lib.hid ⟨((o2.gr hg2).gr hg4).far ho5 (by omega), by omega, ?_, ?_, (hown2 (w.heap.size + 1) e1).keep2 (fun c hc => by have e : w1.heap.size = c := Option.some.inj hc; subst e; exact hx _ e2), by intro e; have e : w1.heap.size = P := Option.some.inj e; omega, fun e => hr (ho1.2.1 e), fun e => by
      obtain ⟨j, e, bad, h2, h3, h4⟩ := ho1.2.2 e
      exact ⟨j, e, bad, h2, h3, hr h4⟩⟩
    · rw [hN]; exact ⟨_, ((hb1.only ho1.1 (by omega)).gr hg2).of (hx N (by omega))⟩
    · exact ⟨nodeC 2 (.slice (some ⟨w1.heap.size, 0, none⟩) 1 1), by rw [← hP]; exact hb5, nodeC_get _ _⟩
  rw [hP]
  clear hb1 hg1 hs1 ho1 hb2 hg2 hs2 hown2 hb4 hg4 hs4 hb5 ho5 hs5 hz1 hP HR CP0
  subst hN
  simp only [Act.put, List.setIfInBounds_toArray, List.set_cons_succ, List.set_cons_zero]
  go_wp2_with fail
  go_loopg [] s.size (fun g wx => ∃ (v : Value) (n : Nat), (Hid (∃ j acc, AltAt b d s w wx true j 0 v n P ∧ k ≤ j ∧ j ≤ s.size ∧ s.size ≤ j + g ∧ n ≤ j + 1 ∧ (if isAt s.data.toList j 124 then altF s.data.toList br g (j + 1) acc else (true, acc, j)) = Q)) ∨ (Q.1 = false ∧ n ≤ s.size + 2 ∧ Hid (AltAt b d s w wx false 0 (m + 1) v n P)))
  case atStart =>
    refine ⟨.slice (some ⟨w1.heap.size, 0, none⟩) 1 1, 1, ?_⟩
    cases ok0
    · exact .inr ⟨by rw [← HQ.out]; rfl, by omega, Lib.hid (HA0.out.no 0 (Nat.le_refl _))⟩
    · exact .inl (Lib.hid ⟨j0, _, HA0.out.yes 0, hl2, hl1, by omega, by omega, HQ.out⟩)
  case round =>
    clear HA0 HQ
    obtain ⟨v, n, hst | ⟨hq1, hn, HE⟩⟩ := hrel
    · obtain ⟨j, acc, hA, hkj, hj, hf, hnj, hG⟩ := hst.out
      have HA := Lib.hid hA
      obtain ⟨t, ht⟩ : ∃ t, isAt s.data.toList j 124 = t := ⟨_, rfl⟩
      rw [ht] at hG
      have HG := Lib.hid hG
      have htl : t = true → j < s.size := fun e => by
        have := isAt_len (ht.trans e)
        simp at this; omega
      clear hA hst hG
      go_upto_region 2 with fail
      go_cut [21] from 8 to 35 (fun s21 wx => s21 = .bool t ∧ Hid (AltAt b d s w wx true j 0 v n P))
      case first =>
        clear HG
        obtain ⟨c0, c1, -, c3, -⟩ := (HA.out.y rfl).facts
        have CM := Lib.hid (more_quiet (HA.out.y rfl))
        by_cases hlt : j < s.size
        · have hg : s.data.toList[j]? = some s[j] := by rw [List.getElem?_eq_getElem (by simpa using hlt)]; rfl
          have H : Hid ((decide (s[j].toNat = 124)) = t) := Lib.hid (by
            rw [← ht]; unfold isAt; rw [hg]
            simp [← UInt8.toNat_inj])
          have n3 : (j : Int) < (s.size : Int) := by omega
          have C1 := Lib.hid (CM.out true (by simp [hlt]))
          clear ht hg CM
          go_wp2_with fail
          go_quiet ((go_at_call 59; exact C1.out _))
          go_wp2_with fail
          go_meet
          exact ⟨by rw [← H.out]; exact congrArg Value.bool (ibeq _ 124), Lib.hid (HA.out.drewN _)⟩
        · have H : Hid (t = false) := Lib.hid (by cases t; rfl; exact absurd (htl rfl) hlt)
          have C1 := Lib.hid (CM.out false (by simp [hlt]))
          clear ht CM
          go_wp2_with fail
          go_quiet ((go_at_call 59; exact C1.out _))
          go_wp2_with fail
          go_meet
          exact ⟨by rw [H.out], Lib.hid (HA.out.drewN _)⟩
      case rest =>
      obtain ⟨rfl, HA1⟩ := hcut
      clear HA ht
      cases t
      case false =>
        have hQ : Q = (true, acc, j) := HG.out.symm
        clear HG htl CP HL
        subst hQ
        go_upto_region 5 with fail
        obtain ⟨cs, hcs, -⟩ := HA1.out.p
        obtain ⟨cs0, hcs0⟩ := HA1.out.r
        go_wp2_with (first
          | (refine wpList_loadR rfl _ rfl P rfl hcs ?_)
          | (refine storeA (.tmp 2) (.tmp 36) w.heap.size ⟨rfl, rfl⟩ rfl rfl rfl hcs0 hcs.2.1 hcs.2.2 ?_; intro W5 hb5 ho5 hs5))
        refine bodyPost_ret (v := .agg cs) (results_cell_row (p := 2) (ty := 66) hres _ _ w.heap.size _ cs (0, 0) _ rfl hb5.1 Try.underlying66 rfl (by rw [rn_size, hcs.2.1])) rfl ?_
        exact AltAt.post (j := j) (HA1.out.yes (m + 1)) (fun _ => rfl) hbN ho5 hcs.2.1 hcs.2.2
      have hlt := htl rfl
      clear htl
      cases gk with
      | zero => omega
      | succ f =>
        replace HG : Hid (altF s.data.toList br (f + 1) (j + 1) acc = Q) := Lib.hid HG.out
        obtain ⟨c0, c1, -, c3, -, f1, -⟩ := (HA1.out.y rfl).facts
        have HA2 := Lib.hid (HA1.out.step hbN (j + 1) 0)
        go_upto_region 4 with fail
        clear c0 c1 c3 f1
        have hG := HG.out
        rw [altF_s, show s.data.toList.length = s.size by simp] at hG
        obtain ⟨hm1, hm3⟩ := HL.out (j + 1) (by omega)
        have CP1 := Lib.hid (fun W h => CP.out (j + 1) W h (by omega) (by omega))
        obtain ⟨r, hr⟩ : ∃ r, piecesF s.data.toList br (s.size + 1) (j + 1) [] = r := ⟨_, rfl⟩
        rw [hr] at hG hm1 hm3 CP1
        have HG1 := Lib.hid hG
        clear hG HG hr HA1 CP HL
        obtain ⟨ok1, l1, j1⟩ := r
        obtain ⟨W6, hW6⟩ : ∃ W6, wc.setCell ⟨b, 1, none⟩ (.int .i64 ((j + 1 : Nat) : Int)) = W6 := ⟨_, rfl⟩
        have HA3 : Hid (AltAt b d s w W6 true (j + 1) 0 v n P) := Lib.hid (by rw [← hW6]; exact HA2.out)
        rw [show wc.setCell ⟨b, 1, none⟩ (.int .i64 ((j : Int) + 1)) = W6 from hW6]
        clear hW6 HA2
        obtain ⟨A', m', c', rfl⟩ := HA3.out.l.form
        obtain ⟨f1, f2⟩ := HA3.out.facts
        have HA4 := Lib.hid HA3.out.drew
        refine wp_region_any (by kernel_rfl) ?_
        change wpAny _ _ _ _ _ _ _ (World.drew _)
        refine wpAny_take (i := 0) (v := .pointer (some ⟨P, 1, none⟩)) rfl (by kernel_rfl) (by kernel_rfl) (by kernel_rfl) (fun _ _ _ h => h) (Or.inl ⟨by rfl, fun w => by go_simp⟩) ?_
        refine wpAny_take (i := 2) (v := .pointer (some ⟨b, 0, none⟩)) rfl (by kernel_rfl) (by kernel_rfl) (by kernel_rfl) (fun _ _ _ h => h) (Or.inl ⟨by rfl, fun w => by go_simp⟩) ?_
        refine wpAny_ready (rs := [1, 3]) (by kernel_rfl) (by simp) ?_
        refine AllReady.cons rfl (fun K hK => ?_) ?_
        · rw [if_pos (by rfl)]
          go_simp
          refine hK _ _ ?_
          clear hK K
          refine wpAny_ready (rs := [3]) (by kernel_rfl) (by simp) ?_
          refine AllReady.cons rfl (fun K hK => ?_) AllReady.nil
          rw [if_pos (by rfl)]
          go_simp
          go_at_call 58
          refine (CP1.out _ (HA4.out.y rfl)).mono ?_
          rintro e w7 ⟨⟨cs1, rfl, z1, z2⟩, ho7⟩
          have HB := Lib.hid (HA4.out.out hbN ho7)
          obtain ⟨f3, f4⟩ := HB.out.facts
          have HB8 := Lib.hid (HB.out.gr hbN ((Gr.refl w7).alloc cs1 66))
          obtain ⟨f7, f8⟩ := HB8.out.facts
          have hb8 : RB (w7.alloc (.cells cs1 66)) w7.heap.size cs1 := ⟨heap_alloc_new w7 _, z1, z2⟩
          clear ho7
          refine hK _ _ ?_
          clear hK K
          refine wpAny_ready (rs := [4]) (by kernel_rfl) (by simp) ?_
          refine AllReady.cons rfl (fun K hK => ?_) AllReady.nil
          refine step_buildR (by rfl) (.tmp 32) (by rfl) (by rfl) z1 ?_
          refine hK _ _ ?_
          clear hK K
          refine wpAny_ready (rs := [5]) (by kernel_rfl) (by simp) ?_
          refine AllReady.cons rfl (fun K hK => ?_) AllReady.nil
          refine step_appR (by rfl) (.tmp 30) (.tmp 33) (by rfl) (by rfl) (by rfl) HB8.out.l (by rfl) hb8 (by omega) (by have := HB8.out.plt; have := HB8.out.hP; omega) ?_
          intro v' W9 hown9 hgrow9 hv9
          obtain ⟨A9, m9, c9, rfl⟩ := hown9.form
          obtain ⟨f5, f6, happ⟩ := HB8.out.app hbN hgrow9 hown9 hv9
          have HF := Lib.hid happ
          clear happ hown9 hgrow9 hv9
          refine hK _ _ ?_
          clear hK K
          refine wpAny_take (i := 6) (v := .pointer (some ⟨P, 1, none⟩)) rfl (by kernel_rfl) (by kernel_rfl) (by kernel_rfl) (fun _ _ _ h => h) (Or.inl ⟨by rfl, fun w => by go_simp⟩) ?_
          refine wpAny_ready (rs := [7]) (by kernel_rfl) (by simp) ?_
          refine AllReady.cons rfl (fun K hK => ?_) AllReady.nil
          rw [if_pos (by rfl)]
          go_simp
          refine hK _ _ ?_
          clear hK K
          refine wpAny_done (by kernel_rfl) ?_ _
          go_wp2_with fail
          go_roundg f
          case measure => omega
          case rel =>
            refine ⟨.slice A9 m9 c9, n + 1, ?_⟩
            cases ok1
            · exact .inr ⟨by rw [← HG1.out]; rfl, by omega, Lib.hid (HF.out.no 0 (Nat.le_refl _))⟩
            · exact .inl (Lib.hid ⟨j1, _, HF.out.yes 0, by omega, hm1, by omega, by omega, HG1.out⟩)
        refine AllReady.cons rfl (fun K hK => ?_) AllReady.nil
        rw [if_pos (by rfl)]
        go_simp
        go_at_call 58
        refine (CP1.out _ (HA4.out.y rfl)).mono ?_
        rintro e w7 ⟨⟨cs1, rfl, z1, z2⟩, ho7⟩
        have HB := Lib.hid (HA4.out.out hbN ho7)
        obtain ⟨f3, f4⟩ := HB.out.facts
        have HB8 := Lib.hid (HB.out.gr hbN ((Gr.refl w7).alloc cs1 66))
        obtain ⟨f7, f8⟩ := HB8.out.facts
        have hb8 : RB (w7.alloc (.cells cs1 66)) w7.heap.size cs1 := ⟨heap_alloc_new w7 _, z1, z2⟩
        clear ho7
        refine hK _ _ ?_
        clear hK K
        refine wpAny_ready (rs := [1, 4]) (by kernel_rfl) (by simp) ?_
        refine AllReady.cons rfl (fun K hK => ?_) ?_
        · rw [if_pos (by rfl)]
          go_simp
          refine hK _ _ ?_
          clear hK K
          refine wpAny_ready (rs := [4]) (by kernel_rfl) (by simp) ?_
          refine AllReady.cons rfl (fun K hK => ?_) AllReady.nil
          refine step_buildR (by rfl) (.tmp 32) (by rfl) (by rfl) z1 ?_
          refine hK _ _ ?_
          clear hK K
          refine wpAny_ready (rs := [5]) (by kernel_rfl) (by simp) ?_
          refine AllReady.cons rfl (fun K hK => ?_) AllReady.nil
          refine step_appR (by rfl) (.tmp 30) (.tmp 33) (by rfl) (by rfl) (by rfl) HB8.out.l (by rfl) hb8 (by omega) (by have := HB8.out.plt; have := HB8.out.hP; omega) ?_
          intro v' W9 hown9 hgrow9 hv9
          obtain ⟨A9, m9, c9, rfl⟩ := hown9.form
          obtain ⟨f5, f6, happ⟩ := HB8.out.app hbN hgrow9 hown9 hv9
          have HF := Lib.hid happ
          clear happ hown9 hgrow9 hv9
          refine hK _ _ ?_
          clear hK K
          refine wpAny_take (i := 6) (v := .pointer (some ⟨P, 1, none⟩)) rfl (by kernel_rfl) (by kernel_rfl) (by kernel_rfl) (fun _ _ _ h => h) (Or.inl ⟨by rfl, fun w => by go_simp⟩) ?_
          refine wpAny_ready (rs := [7]) (by kernel_rfl) (by simp) ?_
          refine AllReady.cons rfl (fun K hK => ?_) AllReady.nil
          rw [if_pos (by rfl)]
          go_simp
          refine hK _ _ ?_
          clear hK K
          refine wpAny_done (by kernel_rfl) ?_ _
          go_wp2_with fail
          go_roundg f
          case measure => omega
          case rel =>
            refine ⟨.slice A9 m9 c9, n + 1, ?_⟩
            cases ok1
            · exact .inr ⟨by rw [← HG1.out]; rfl, by omega, Lib.hid (HF.out.no 0 (Nat.le_refl _))⟩
            · exact .inl (Lib.hid ⟨j1, _, HF.out.yes 0, by omega, hm1, by omega, by omega, HG1.out⟩)
        refine AllReady.cons rfl (fun K hK => ?_) AllReady.nil
        refine step_buildR (by rfl) (.tmp 32) (by rfl) (by rfl) z1 ?_
        refine hK _ _ ?_
        clear hK K
        refine wpAny_ready (rs := [1]) (by kernel_rfl) (by simp) ?_
        refine AllReady.cons rfl (fun K hK => ?_) AllReady.nil
        rw [if_pos (by rfl)]
        go_simp
        refine hK _ _ ?_
        clear hK K
        refine wpAny_ready (rs := [5]) (by kernel_rfl) (by simp) ?_
        refine AllReady.cons rfl (fun K hK => ?_) AllReady.nil
        refine step_appR (by rfl) (.tmp 30) (.tmp 33) (by rfl) (by rfl) (by rfl) HB8.out.l (by rfl) hb8 (by omega) (by have := HB8.out.plt; have := HB8.out.hP; omega) ?_
        intro v' W9 hown9 hgrow9 hv9
        obtain ⟨A9, m9, c9, rfl⟩ := hown9.form
        obtain ⟨f5, f6, happ⟩ := HB8.out.app hbN hgrow9 hown9 hv9
        have HF := Lib.hid happ
        clear happ hown9 hgrow9 hv9
        refine hK _ _ ?_
        clear hK K
        refine wpAny_take (i := 6) (v := .pointer (some ⟨P, 1, none⟩)) rfl (by kernel_rfl) (by kernel_rfl) (by kernel_rfl) (fun _ _ _ h => h) (Or.inl ⟨by rfl, fun w => by go_simp⟩) ?_
        refine wpAny_ready (rs := [7]) (by kernel_rfl) (by simp) ?_
        refine AllReady.cons rfl (fun K hK => ?_) AllReady.nil
        rw [if_pos (by rfl)]
        go_simp
        refine hK _ _ ?_
        clear hK K
        refine wpAny_done (by kernel_rfl) ?_ _
        go_wp2_with fail
        go_roundg f
        case measure => omega
        case rel =>
          refine ⟨.slice A9 m9 c9, n + 1, ?_⟩
          cases ok1
          · exact .inr ⟨by rw [← HG1.out]; rfl, by omega, Lib.hid (HF.out.no 0 (Nat.le_refl _))⟩
          · exact .inl (Lib.hid ⟨j1, _, HF.out.yes 0, by omega, hm1, by omega, by omega, HG1.out⟩)
    · obtain ⟨j, e, bad, he, hj, hr⟩ := HE.out.x rfl
      have C1 := Lib.hid (more_quiet hr false (by simp [he]))
      obtain ⟨c0, c1, -, c3, -⟩ := hr.facts
      clear hr CP HL
      go_upto_region 2 with fail
      go_quiet ((go_at_call 59; exact C1.out _))
      go_upto_region 5 with fail
      have HE2 := Lib.hid (HE.out.drewN nq)
      obtain ⟨cs, hcs, -⟩ := HE2.out.p
      obtain ⟨cs0, hcs0⟩ := HE2.out.r
      go_wp2_with (first
        | (refine wpList_loadR rfl _ rfl P rfl hcs ?_)
        | (refine storeA (.tmp 2) (.tmp 36) w.heap.size ⟨rfl, rfl⟩ rfl rfl rfl hcs0 hcs.2.1 hcs.2.2 ?_; intro W5 hb5 ho5 hs5))
      refine bodyPost_ret (v := .agg cs) (results_cell_row (p := 2) (ty := 66) hres _ _ w.heap.size _ cs (0, 0) _ rfl hb5.1 Try.underlying66 rfl (by rw [rn_size, hcs.2.1])) rfl ?_
      exact AltAt.post (j := 0) (by show AltAt b d s w _ Q.1 0 (m + 1) v n P; rw [hq1]; exact HE2.out) (fun e => by rw [hq1] at e; cases e) hbN ho5 hcs.2.1 hcs.2.2
end Go.Proofs.Ytnlfndhgdeapeaa
/- The reference's Compile: whether it reads a text. -/
namespace Go.Proofs.Ytnlfndhgdeapeaa
open Go.RowKit
set_option maxRecDepth 100000
set_option maxHeartbeats 12000000

theorem rPat_any (b : Nat) (s : ByteArray) (hs : s.size ≤ 1000000) : ∀ (n d k : Nat), d + n = 40 → k ≤ s.size → AltR b s d (patS s.data.toList (n + 1) k) (s.size + 2 + n) k
  | 0, d, k, hd, hk => fun W hW => by
    have h := rAlts_any b k d (s.size + 1) s (patS s.data.toList 0) W hW hk hs (by omega) (by omega) (by omega) (fun _ _ => rfl) (patS_le _ 0) (fun j h _ _ hlt => by omega)
    have e : s.data.toList.length = s.size := by simp
    show Calls _ _ _ _ (RPost b s d ((altF s.data.toList (patS s.data.toList 0) (s.data.toList.length + 1) k []).1, _, (altF s.data.toList (patS s.data.toList 0) (s.data.toList.length + 1) k []).2.2) _ W)
    rw [e]
    exact h
  | n + 1, d, k, hd, hk => fun W hW => by
    have h := rAlts_any b k d (s.size + 2 + n) s (patS s.data.toList (n + 1)) W hW hk hs (by omega) (by omega) (by omega) (fun h => by omega) (patS_le _ (n + 1)) (fun j hj hkj _ hlt => ⟨rPat_any b s hs n (d + 1) (j + 1) (by omega) (by omega), by
      have := (patS_le s.data.toList (n + 1) (j + 1) (by simp; omega)).1
      simpa using this⟩)
    have e : s.data.toList.length = s.size := by simp
    show Calls _ _ _ _ (RPost b s d ((altF s.data.toList (patS s.data.toList (n + 1)) (s.data.toList.length + 1) k []).1, _, (altF s.data.toList (patS s.data.toList (n + 1)) (s.data.toList.length + 1) k []).2.2) _ W)
    rw [e]
    exact h
/-- is a text one that the reference reads? -/
def rOK (s : List UInt8) : Bool := (patS s 41 0).1 && decide ((patS s 41 0).2.2 = s.length)
theorem results_cell3 {P : Program} {fn : Func} {p q r : Tmp} {ty : TypeId} (h : fn.results = #[.cell p ty, .tmp q, .tmp r]) (tmps : Array Value) (w : World) (g : Nat) (t : TypeId) (cs : Array Value) (fr : Nat × Nat) (d : TypeDesc)
    (hp : tmps.getD p undef = .pointer (some ⟨g, 0, none⟩)) (hg : w.heap[g]? = some (.cells cs t fr))
    (hu : P.underlying ty = some d) (hd : (match d with | .struct _ | .array _ _ => true | _ => false) = true) (hi : (P.info? ty).map (·.size) = some cs.size) :
    (results fn tmps).run P w = .ok (.tuple #[.agg cs, tmps.getD q undef, tmps.getD r undef]) w := by
  have hp' : tmps[p]?.getD undef = .pointer (some ⟨g, 0, none⟩) := by simpa using hp
  simp [results, h, hp', asAddr, run_loadVar_row w g t ty cs fr d hg hu hd hi]
theorem step_storeR {Q : Exit → Act → World → Prop} {ops : Array Oper} {o : Oper} {a : Act} {w : World} {K : Act → World → Prop} {E : Prop} (hgd : o.guard = none) (x y : Operand) (N : Nat) (ho : o.op = .store 66 x y) {cs : Array Value} (hx : a.eval x = .pointer (some ⟨N, 0, none⟩)) (hy : a.eval y = .agg cs) {old : Array Value} (hb : RB w N old) (h1 : cs.size = 258) (h2 : cs.all (·.oneCell') = true)
    (h : K (a.put o.dst undef) (w.setRow N cs)) : if Region.wanted o (yielded ops a.tmps) = true then Oper.wp Try.prog o a w K Q else E := by
  rw [if_pos (by simp [Region.wanted, hgd])]
  exact wp_store_row _ x y ho N cs hx hy _ old hb.1 (by rw [rn_size, h1]) (by rw [hb.2.1, h1]) h2 h
/-- the walk -/
theorem run_build0 (w : World) {o : Oper} {ρ : Operand → Value} (ho : o.op = .build 66 #[]) : (execOp ρ o).run Try.prog w = .ok (.value (.agg (nodeC 0 (.slice none 0 0)))) w := by
  unfold execOp
  simp only [ho, Sem.run_bind, List.map_toArray, List.map_nil, run_build w _ #[] _ built_none, Result.andThen_ok]
  rfl
theorem step_storeV {Q : Exit → Act → World → Prop} {ops : Array Oper} {o : Oper} {a : Act} {w : World} {K : Act → World → Prop} {E : Prop} (hgd : o.guard = none) (x y : Operand) (N : Nat) (ho : o.op = .store 66 x y) {cs : Array Value} (hx : a.eval x = .pointer (some ⟨N, 0, none⟩)) (hy : a.eval y = .agg cs) {old : Array Value} (hb : RB w N old) (h1 : cs.size = 258) (h2 : cs.all (·.oneCell') = true)
    (h : ∀ W', RB W' N cs → Only w W' N → K (a.put o.dst undef) W') : if Region.wanted o (yielded ops a.tmps) = true then Oper.wp Try.prog o a w K Q else E :=
  step_storeR hgd x y N ho hx hy hb h1 h2 (h _ (hb.setRowSame h1 h2) ⟨rfl, rfl, rfl, by simp, fun i _ hne => setRow_other w (fun e => hne (by rw [e])) cs⟩)
theorem wpOp_storeV {Q : Exit → Act → World → Prop} {ops : Array Oper} {i : Nat} {o : Oper} {a : Act} {w : World} {K : Act → World → Prop} (hi : ops[i]? = some o) (hgd : o.guard = none) (x y : Operand) (N : Nat) (ho : o.op = .store 66 x y) {cs : Array Value} (hx : a.eval x = .pointer (some ⟨N, 0, none⟩)) (hy : a.eval y = .agg cs) {old : Array Value} (hb : RB w N old) (h1 : cs.size = 258) (h2 : cs.all (·.oneCell') = true)
    (h : ∀ W', RB W' N cs → Only w W' N → K (a.put o.dst undef) W') : wpOp Try.prog ops Q i K a w :=
  wpOp_step hi fun _ hK => step_storeV hgd x y N ho hx hy hb h1 h2 (fun W' h3 h4 => hK _ _ (h W' h3 h4))
def CmpPost (s : ByteArray) (w : World) (en : Ending) (w' : World) : Prop := ∃ (cs : Array Value) (place e : Int), en = .returned (.tuple #[.agg cs, .int .i64 place, .int .i64 e]) ∧ cs.size = 258 ∧ cs.all (·.oneCell') = true ∧ (e = 0 ↔ (s.size ≤ 4096 ∧ rOK s.data.toList = true)) ∧ Gr w w'
theorem rCompile_any (s : ByteArray) (w : World) (hs : s.size ≤ 1000000) :
    Calls Try.prog 26 #[.string s] w (CmpPost s w) := by
  have hlen : s.data.toList.length = s.size := by simp
  have hres : Try.f26.results = #[.cell 2 66, .tmp 3, .tmp 4] := by kernel_rfl
  by_cases hbig : s.size ≤ 4096
  · have hn0 : ¬ (4096 : Int) < (s.size : Int) := by omega
    have hle := (patS_le s.data.toList 41 0 (Nat.zero_le _)).1
    have CA0 := Lib.hid (fun R => rPat_any R s hs 40 0 0 rfl (Nat.zero_le _))
    obtain ⟨r, hr⟩ : ∃ r, patS s.data.toList 41 0 = r := ⟨_, rfl⟩
    have hok : rOK s.data.toList = (r.1 && decide (r.2.2 = s.size)) := by unfold rOK; rw [hr, hlen]
    rw [hr] at hle
    rw [hlen] at hle
    have CA : Hid (∀ R W, RdR W R s 0 0 0 0 → Calls Try.prog 44 #[.pointer (some ⟨R, 0, none⟩)] W (RPost R s 0 r (s.size + 2 + 40) W)) := Lib.hid (by
      intro R W h
      have h2 := CA0.out R
      simp only [Nat.reduceAdd] at h2
      rw [hr] at h2
      exact h2 W h)
    clear hr CA0
    obtain ⟨N, hN⟩ : ∃ N, w.heap.size = N := ⟨_, rfl⟩
    go_enter Try.func26, Try.ntmps26
    go_upto_region 5 with (first
      | (refine allocA N hN rfl rfl ?_; intro W1 hb1 hg1 hs1)
      | (go_at_call 44
         have hR0 : RdR (W1.alloc (.cells #[.string s, .int .i64 0, .int .i64 0, .int .i64 0, .int .i64 0] 99)) (N + 1) s 0 0 0 0 := (by rw [← hs1]; exact heap_alloc_new W1 _)
         refine (CA.out (N + 1) _ hR0).mono ?_; rintro e w1 ⟨⟨cs1, rfl, z1, z2⟩, ho1⟩)
      | (refine allocA _ rfl rfl rfl ?_; intro W4 hb4 hg4 hs4)
      | (refine storeA (.tmp 6) (.tmp 15) _ ⟨rfl, rfl⟩ rfl rfl rfl hb4 z1 z2 ?_; intro W5 hb5 ho5 hs5))
    obtain ⟨R, hR⟩ : ∃ R, N + 1 = R := ⟨_, rfl⟩
    obtain ⟨T, hT⟩ : ∃ T, w1.heap.size = T := ⟨_, rfl⟩
    rw [hR] at ho1
    have hRs : R = N + 1 := by omega
    have hT1 : R < T := by have := ho1.1.size; simp at this; omega
    have hg : Gr w W5 := by
      have g0 : Gr w (W1.alloc (.cells #[.string s, .int .i64 0, .int .i64 0, .int .i64 0, .int .i64 0] 99)) := hg1.alloc _ _
      exact ((g0.only ho1.1 (by omega)).trans hg4).only ho5 (by rw [hT]; omega)
    have hbN : RB W5 w.heap.size (nodeC 0 (.slice none 0 0)) := by
      rw [hN]
      refine (((hb1.gr ((Gr.refl W1).alloc _ _)).only ho1.1 (by omega)).gr hg4).of (ho5.blk ?_ (by rw [hT]; omega))
      have := hg4.size; omega
    have hbT : RB W5 T cs1 := by rw [← hT]; exact hb5
    have hrd : ∀ {j d : Nat} {e bad : Int}, RdR w1 R s j d e bad → RdR W5 R s j d e bad := fun h => (h.gr hg4).of (ho5.blk (h.gr hg4).lt (by rw [hT]; omega))
    have hq : ∃ (j : Nat) (e bad : Int), RdR W5 R s j 0 e bad ∧ ((e = 0 ∧ bad = 0 ∧ r.1 = true ∧ j = r.2.2) ∨ (e ≠ 0 ∧ r.1 = false)) := by
      cases hr1 : r.1
      · obtain ⟨j, e, bad, he, -, h3⟩ := ho1.2.2 hr1
        exact ⟨j, e, bad, hrd h3, .inr ⟨he, rfl⟩⟩
      · exact ⟨_, 0, 0, hrd (ho1.2.1 hr1), .inl ⟨rfl, rfl, rfl, rfl⟩⟩
    obtain ⟨j, e, bad, hr, hq⟩ := hq
    rw [hT]
    clear hb1 hg1 hs1 hR0 ho1 hb4 hg4 hs4 hb5 ho5 hs5 hrd CA hT hRs
    subst hR
    subst hN
    simp only [Act.put, List.setIfInBounds_toArray, List.set_cons_succ, List.set_cons_zero]
    have HRD := Lib.hid hr
    have HB := Lib.hid hbN
    have HT := Lib.hid hbT
    have HG := Lib.hid hg
    obtain ⟨c0, c1, -, c3, -⟩ := hr.facts
    clear hr hbN hbT hg
    by_cases hdone : e = 0 ∧ j = s.size
    · obtain ⟨rfl, rfl⟩ := hdone
      have HE : Hid (rOK s.data.toList = true) := Lib.hid (by
        rcases hq with ⟨-, -, h3, h4⟩ | ⟨h3, -⟩
        · rw [hok, h3, ← h4]; simp
        · exact absurd rfl h3)
      clear hok hq
      go_upto_region 9 with fail
      go_wp2_with (first
        | (refine wpList_loadR rfl _ rfl T rfl HT.out ?_)
        | (refine storeA (.tmp 2) (.tmp 50) w.heap.size ⟨rfl, rfl⟩ rfl rfl rfl HB.out z1 z2 ?_; intro W6 hb6 ho6 hs6))
      refine bodyPost_ret (v := .tuple #[.agg cs1, .int .i64 0, .int .i64 0]) (results_cell3 (p := 2) (q := 3) (r := 4) (ty := 66) hres _ _ w.heap.size _ _ (0, 0) _ rfl hb6.1 Try.underlying66 rfl (by rw [rn_size, z1])) rfl ?_
      exact ⟨_, 0, 0, rfl, z1, z2, ⟨fun _ => ⟨hbig, HE.out⟩, fun _ => rfl⟩, HG.out.only ho6 (Nat.le_refl _)⟩
    have HNO : Hid (¬ rOK s.data.toList = true) := Lib.hid (by
      rw [hok]
      rcases hq with ⟨rfl, -, h3, rfl⟩ | ⟨-, h4⟩
      · have : ¬ r.2.2 = s.size := fun h => hdone ⟨rfl, h⟩
        simp [this]
      · simp [h4])
    have hstate : (e = 0 ∧ bad = 0 ∧ j < s.size) ∨ e ≠ 0 := by
      rcases hq with ⟨rfl, rfl, h3, rfl⟩ | ⟨h3, -⟩
      · exact .inl ⟨rfl, rfl, by
          rcases Nat.lt_or_ge r.2.2 s.size with h | h
          · exact h
          · exact absurd ⟨rfl, by omega⟩ hdone⟩
      · exact .inr h3
    clear hq hdone hok hle
    rcases hstate with ⟨rfl, rfl, hlt⟩ | he
    · have n1 : (j : Int) < (s.size : Int) := by omega
      have C7 := Lib.hid (fail_any (w.heap.size + 1) j 0 s 2 (j : Int) W5 HRD.out)
      go_upto_region 7 with (go_at_call 45; refine C7.out.mono ?_; rintro e W7 ⟨rfl, hr7, ho7⟩)
      have HR7 := Lib.hid hr7
      have HB7 := Lib.hid (HB.out.only ho7 (by omega))
      have HG7 := Lib.hid (HG.out.only ho7 (by omega))
      have HE : Hid ((2 : Int) = 0 ↔ (s.size ≤ 4096 ∧ rOK s.data.toList = true)) := Lib.hid ⟨fun h => absurd h (by decide), fun h => absurd h.2 HNO.out⟩
      clear c0 c1 c3 hr7 ho7 C7 HRD HB HT HG
      obtain ⟨c0, c1, -, c3, -⟩ := HR7.out.facts
      go_upto_region 8 with fail
      clear c0 c1 c3
      refine wp_region_held (S := fun W => W.cell? ⟨w.heap.size + 1, 4, none⟩ = some (.int .i64 (j : Int)) ∧ W.cell? ⟨w.heap.size + 1, 3, none⟩ = some (.int .i64 2)) (by kernel_rfl) ?_
      change wpAnyH _ _ _ _ _ _ _ _ (World.drew _)
      obtain ⟨W9, hW9⟩ : ∃ W9, World.drew W7 = W9 := ⟨_, rfl⟩
      obtain ⟨Z, hZ⟩ : ∃ Z, nodeC 0 (.slice none 0 0) = Z := ⟨_, rfl⟩
      have hZ1 : Z.size = 258 := by rw [← hZ]; exact nodeC_size _ _
      have hZ2 : Z.all (·.oneCell') = true := by rw [← hZ]; exact nodeC_one 0 rfl
      have hZ3 := Lib.hid (fun (w : World) (o : Oper) (ρ : Operand → Value) (ho : o.op = .build 66 #[]) => show (execOp ρ o).run Try.prog w = .ok (.value (.agg Z)) w by rw [← hZ]; exact run_build0 w ho)
      have hr9 : RdR W9 (w.heap.size + 1) s j 0 2 (j : Int) := by rw [← hW9]; exact HR7.out
      have hb9 : RB W9 w.heap.size Z := by rw [← hW9, ← hZ]; exact HB7.out
      have hg9 : Gr w W9 := by rw [← hW9]; exact HG7.out.drew
      rw [hW9]
      clear hW9 hZ
      have HG9 := Lib.hid hg9
      have HR9 := Lib.hid hr9
      have HZ1 := Lib.hid hZ1
      have HZ2 := Lib.hid hZ2
      obtain ⟨-, -, -, c3, c4, -⟩ := hr9.facts
      clear hr9 hg9 hZ1 hZ2
      have hS : W9.cell? ⟨w.heap.size + 1, 4, none⟩ = some (.int .i64 (j : Int)) ∧ W9.cell? ⟨w.heap.size + 1, 3, none⟩ = some (.int .i64 2) := ⟨c4, c3⟩
      clear c3 c4
      refine wpAnyH_take (i := 0) (oi := { dst := some 41, op := Op.build 66 #[], type := 66, pos := "ref.go:208", after := #[], guard := none }) (v := .agg Z) rfl (by kernel_rfl) (by kernel_rfl) (by kernel_rfl) (fun _ _ _ h => h) (Or.inl ⟨by rfl, fun w _ => hZ3.out w _ _ rfl⟩) hS ?_
      simp only [Act.put, List.setIfInBounds_toArray, List.set_cons_succ, List.set_cons_zero]
      refine wpAnyH_take (i := 1) (oi := { dst := some 42, op := Op.move (Operand.tmp 5), type := 97, pos := "ref.go:208", after := #[{ on := 9, ground := Ground.gcOnly Departure.lateStores }], guard := none }) (v := .pointer (some ⟨w.heap.size + 1, 0, none⟩)) rfl (by kernel_rfl) (by kernel_rfl) (by kernel_rfl) (fun _ _ _ h => h) (Or.inl ⟨by rfl, fun w _ => by go_simp⟩) hS ?_
      simp only [Act.put, List.setIfInBounds_toArray, List.set_cons_succ, List.set_cons_zero]
      refine wpAnyH_take (i := 2) (oi := { dst := some 43, op := Op.nilCheck (Operand.tmp 42), type := 0, pos := "ref.go:208", after := #[{ on := 1, ground := Ground.data }, { on := 9, ground := Ground.gcOnly Departure.lateStores }], guard := none }) (v := .pointer (some ⟨w.heap.size + 1, 0, none⟩)) rfl (by kernel_rfl) (by kernel_rfl) (by kernel_rfl) (fun _ _ _ h => h) (Or.inl ⟨by rfl, fun w _ => by go_simp⟩) hS ?_
      simp only [Act.put, List.setIfInBounds_toArray, List.set_cons_succ, List.set_cons_zero]
      refine wpAnyH_take (i := 3) (oi := { dst := some 44, op := Op.fieldAddr 99 (Operand.tmp 43) 4, type := 0, pos := "ref.go:208", after := #[{ on := 2, ground := Ground.data }, { on := 9, ground := Ground.gcOnly Departure.lateStores }], guard := none }) (v := .pointer (some ⟨w.heap.size + 1, 4, none⟩)) rfl (by kernel_rfl) (by kernel_rfl) (by kernel_rfl) (fun _ _ _ h => h) (Or.inl ⟨by rfl, fun w _ => by go_simp⟩) hS ?_
      simp only [Act.put, List.setIfInBounds_toArray, List.set_cons_succ, List.set_cons_zero]
      refine wpAnyH_take (i := 4) (oi := { dst := some 45, op := Op.load 3 (Operand.tmp 44), type := 3, pos := "ref.go:208", after := #[{ on := 3, ground := Ground.data }, { on := 9, ground := Ground.gcOnly Departure.lateStores }], guard := none }) (v := .int .i64 (j : Int)) rfl (by kernel_rfl) (by kernel_rfl) (by kernel_rfl) (fun _ _ _ h => h) (Or.inl ⟨by rfl, fun w ⟨h4, _⟩ => by go_simp⟩) hS ?_
      simp only [Act.put, List.setIfInBounds_toArray, List.set_cons_succ, List.set_cons_zero]
      refine wpAnyH_take (i := 5) (oi := { dst := some 46, op := Op.move (Operand.tmp 5), type := 97, pos := "ref.go:208", after := #[{ on := 10, ground := Ground.gcOnly Departure.lateStores }], guard := none }) (v := .pointer (some ⟨w.heap.size + 1, 0, none⟩)) rfl (by kernel_rfl) (by kernel_rfl) (by kernel_rfl) (fun _ _ _ h => h) (Or.inl ⟨by rfl, fun w _ => by go_simp⟩) hS ?_
      simp only [Act.put, List.setIfInBounds_toArray, List.set_cons_succ, List.set_cons_zero]
      refine wpAnyH_take (i := 6) (oi := { dst := some 47, op := Op.nilCheck (Operand.tmp 46), type := 0, pos := "ref.go:208", after := #[{ on := 5, ground := Ground.data }, { on := 10, ground := Ground.gcOnly Departure.lateStores }], guard := none }) (v := .pointer (some ⟨w.heap.size + 1, 0, none⟩)) rfl (by kernel_rfl) (by kernel_rfl) (by kernel_rfl) (fun _ _ _ h => h) (Or.inl ⟨by rfl, fun w _ => by go_simp⟩) hS ?_
      simp only [Act.put, List.setIfInBounds_toArray, List.set_cons_succ, List.set_cons_zero]
      refine wpAnyH_take (i := 7) (oi := { dst := some 48, op := Op.fieldAddr 99 (Operand.tmp 47) 3, type := 0, pos := "ref.go:208", after := #[{ on := 6, ground := Ground.data }, { on := 10, ground := Ground.gcOnly Departure.lateStores }], guard := none }) (v := .pointer (some ⟨w.heap.size + 1, 3, none⟩)) rfl (by kernel_rfl) (by kernel_rfl) (by kernel_rfl) (fun _ _ _ h => h) (Or.inl ⟨by rfl, fun w _ => by go_simp⟩) hS ?_
      simp only [Act.put, List.setIfInBounds_toArray, List.set_cons_succ, List.set_cons_zero]
      refine wpAnyH_take (i := 8) (oi := { dst := some 49, op := Op.load 3 (Operand.tmp 48), type := 3, pos := "ref.go:208", after := #[{ on := 7, ground := Ground.data }, { on := 10, ground := Ground.gcOnly Departure.lateStores }], guard := none }) (v := .int .i64 2) rfl (by kernel_rfl) (by kernel_rfl) (by kernel_rfl) (fun _ _ _ h => h) (Or.inl ⟨by rfl, fun w ⟨_, h3⟩ => by go_simp⟩) hS ?_
      simp only [Act.put, List.setIfInBounds_toArray, List.set_cons_succ, List.set_cons_zero]
      refine wpAnyH_all (rs := [9]) (by kernel_rfl) (by simp) (List.forall_mem_singleton.2 ?_)
      refine wpOp_storeV (o := { dst := none, op := Op.store 66 (Operand.tmp 2) (Operand.tmp 41), type := 0, pos := "ref.go:208", after := #[{ on := 0, ground := Ground.data }, { on := 0, ground := Ground.phase }, { on := 1, ground := Ground.textOnly Departure.lateStores }, { on := 2, ground := Ground.textOnly Departure.lateStores }, { on := 3, ground := Ground.textOnly Departure.lateStores }, { on := 4, ground := Ground.textOnly Departure.lateStores }, { on := 5, ground := Ground.textOnly Departure.lateStores }, { on := 6, ground := Ground.textOnly Departure.lateStores }, { on := 7, ground := Ground.textOnly Departure.lateStores }, { on := 8, ground := Ground.textOnly Departure.lateStores }], guard := none }) (by kernel_rfl) rfl (.tmp 2) (.tmp 41) w.heap.size rfl (by kernel_rfl) (by kernel_rfl) hb9 HZ1.out HZ2.out (fun W10 hb10 ho10 => ?_)
      have HG10 := Lib.hid (HG9.out.only ho10 (Nat.le_refl _))
      obtain ⟨-, -, -, d3, d4, -⟩ := (HR9.out.of (ho10.blk HR9.out.lt (by omega))).facts
      clear ho10 hS
      refine ⟨⟨d4, d3⟩, ?_⟩
      have hS : W10.cell? ⟨w.heap.size + 1, 4, none⟩ = some (.int .i64 (j : Int)) ∧ W10.cell? ⟨w.heap.size + 1, 3, none⟩ = some (.int .i64 2) := ⟨d4, d3⟩
      clear d3 d4
      refine wpAnyH_take (i := 10) (oi := { dst := some 3, op := Op.assign (Operand.tmp 45), type := 3, pos := "ref.go:208", after := #[{ on := 4, ground := Ground.data }, { on := 9, ground := Ground.chain }, { on := 0, ground := Ground.phase }, { on := 1, ground := Ground.phase }, { on := 2, ground := Ground.phase }, { on := 3, ground := Ground.phase }, { on := 4, ground := Ground.phase }, { on := 5, ground := Ground.textOnly Departure.lateStores }, { on := 6, ground := Ground.textOnly Departure.lateStores }, { on := 7, ground := Ground.textOnly Departure.lateStores }, { on := 8, ground := Ground.textOnly Departure.lateStores }, { on := 9, ground := Ground.phase }], guard := none }) (v := .int .i64 (j : Int)) rfl (by kernel_rfl) (by kernel_rfl) (by kernel_rfl) (fun _ _ _ h => h) (Or.inl ⟨by rfl, fun w _ => by go_simp⟩) hS ?_
      simp only [Act.put, List.setIfInBounds_toArray, List.set_cons_succ, List.set_cons_zero]
      refine wpAnyH_take (i := 11) (oi := { dst := some 4, op := Op.assign (Operand.tmp 49), type := 3, pos := "ref.go:208", after := #[{ on := 8, ground := Ground.data }, { on := 10, ground := Ground.chain }, { on := 0, ground := Ground.phase }, { on := 1, ground := Ground.phase }, { on := 2, ground := Ground.phase }, { on := 3, ground := Ground.phase }, { on := 4, ground := Ground.phase }, { on := 5, ground := Ground.phase }, { on := 6, ground := Ground.phase }, { on := 7, ground := Ground.phase }, { on := 8, ground := Ground.phase }, { on := 9, ground := Ground.phase }, { on := 10, ground := Ground.phase }], guard := none }) (v := .int .i64 2) rfl (by kernel_rfl) (by kernel_rfl) (by kernel_rfl) (fun _ _ _ h => h) (Or.inl ⟨by rfl, fun w _ => by go_simp⟩) hS ?_
      refine wpAnyH_done (by kernel_rfl) ?_ _
      clear hS
      simp only [Act.put, List.setIfInBounds_toArray, List.set_cons_succ, List.set_cons_zero]
      go_wp2_with fail
      refine bodyPost_ret (v := .tuple #[.agg Z, .int .i64 (j : Int), .int .i64 2]) (results_cell3 (p := 2) (q := 3) (r := 4) (ty := 66) hres _ _ w.heap.size _ _ (0, 0) _ (by kernel_rfl) hb10.1 Try.underlying66 rfl (by rw [rn_size, HZ1.out])) rfl ?_
      exact ⟨Z, (j : Int), 2, rfl, HZ1.out, HZ2.out, HE.out, HG10.out⟩
    · have h1 : (e == 0) = false := by simpa using he
      have h2 : (e != 0) = true := by simpa using he
      have HR7 := HRD
      have HB7 := HB
      have HG7 := HG
      have HE : Hid (e = 0 ↔ (s.size ≤ 4096 ∧ rOK s.data.toList = true)) := Lib.hid ⟨fun h => absurd h he, fun h => absurd h.2 HNO.out⟩
      obtain ⟨W7, hW7⟩ : ∃ W7, W5 = W7 := ⟨_, rfl⟩
      subst hW7
      go_upto_region 8 with fail
      clear c0 c1 c3
      refine wp_region_held (S := fun W => W.cell? ⟨w.heap.size + 1, 4, none⟩ = some (.int .i64 bad) ∧ W.cell? ⟨w.heap.size + 1, 3, none⟩ = some (.int .i64 e)) (by kernel_rfl) ?_
      change wpAnyH _ _ _ _ _ _ _ _ (World.drew _)
      obtain ⟨W9, hW9⟩ : ∃ W9, World.drew W5 = W9 := ⟨_, rfl⟩
      obtain ⟨Z, hZ⟩ : ∃ Z, nodeC 0 (.slice none 0 0) = Z := ⟨_, rfl⟩
      have hZ1 : Z.size = 258 := by rw [← hZ]; exact nodeC_size _ _
      have hZ2 : Z.all (·.oneCell') = true := by rw [← hZ]; exact nodeC_one 0 rfl
      have hZ3 := Lib.hid (fun (w : World) (o : Oper) (ρ : Operand → Value) (ho : o.op = .build 66 #[]) => show (execOp ρ o).run Try.prog w = .ok (.value (.agg Z)) w by rw [← hZ]; exact run_build0 w ho)
      have hr9 : RdR W9 (w.heap.size + 1) s j 0 e bad := by rw [← hW9]; exact HR7.out
      have hb9 : RB W9 w.heap.size Z := by rw [← hW9, ← hZ]; exact HB7.out
      have hg9 : Gr w W9 := by rw [← hW9]; exact HG7.out.drew
      rw [hW9]
      clear hW9 hZ
      have HG9 := Lib.hid hg9
      have HR9 := Lib.hid hr9
      have HZ1 := Lib.hid hZ1
      have HZ2 := Lib.hid hZ2
      obtain ⟨-, -, -, c3, c4, -⟩ := hr9.facts
      clear hr9 hg9 hZ1 hZ2
      have hS : W9.cell? ⟨w.heap.size + 1, 4, none⟩ = some (.int .i64 bad) ∧ W9.cell? ⟨w.heap.size + 1, 3, none⟩ = some (.int .i64 e) := ⟨c4, c3⟩
      clear c3 c4
      refine wpAnyH_take (i := 0) (oi := { dst := some 41, op := Op.build 66 #[], type := 66, pos := "ref.go:208", after := #[], guard := none }) (v := .agg Z) rfl (by kernel_rfl) (by kernel_rfl) (by kernel_rfl) (fun _ _ _ h => h) (Or.inl ⟨by rfl, fun w _ => hZ3.out w _ _ rfl⟩) hS ?_
      simp only [Act.put, List.setIfInBounds_toArray, List.set_cons_succ, List.set_cons_zero]
      refine wpAnyH_take (i := 1) (oi := { dst := some 42, op := Op.move (Operand.tmp 5), type := 97, pos := "ref.go:208", after := #[{ on := 9, ground := Ground.gcOnly Departure.lateStores }], guard := none }) (v := .pointer (some ⟨w.heap.size + 1, 0, none⟩)) rfl (by kernel_rfl) (by kernel_rfl) (by kernel_rfl) (fun _ _ _ h => h) (Or.inl ⟨by rfl, fun w _ => by go_simp⟩) hS ?_
      simp only [Act.put, List.setIfInBounds_toArray, List.set_cons_succ, List.set_cons_zero]
      refine wpAnyH_take (i := 2) (oi := { dst := some 43, op := Op.nilCheck (Operand.tmp 42), type := 0, pos := "ref.go:208", after := #[{ on := 1, ground := Ground.data }, { on := 9, ground := Ground.gcOnly Departure.lateStores }], guard := none }) (v := .pointer (some ⟨w.heap.size + 1, 0, none⟩)) rfl (by kernel_rfl) (by kernel_rfl) (by kernel_rfl) (fun _ _ _ h => h) (Or.inl ⟨by rfl, fun w _ => by go_simp⟩) hS ?_
      simp only [Act.put, List.setIfInBounds_toArray, List.set_cons_succ, List.set_cons_zero]
      refine wpAnyH_take (i := 3) (oi := { dst := some 44, op := Op.fieldAddr 99 (Operand.tmp 43) 4, type := 0, pos := "ref.go:208", after := #[{ on := 2, ground := Ground.data }, { on := 9, ground := Ground.gcOnly Departure.lateStores }], guard := none }) (v := .pointer (some ⟨w.heap.size + 1, 4, none⟩)) rfl (by kernel_rfl) (by kernel_rfl) (by kernel_rfl) (fun _ _ _ h => h) (Or.inl ⟨by rfl, fun w _ => by go_simp⟩) hS ?_
      simp only [Act.put, List.setIfInBounds_toArray, List.set_cons_succ, List.set_cons_zero]
      refine wpAnyH_take (i := 4) (oi := { dst := some 45, op := Op.load 3 (Operand.tmp 44), type := 3, pos := "ref.go:208", after := #[{ on := 3, ground := Ground.data }, { on := 9, ground := Ground.gcOnly Departure.lateStores }], guard := none }) (v := .int .i64 bad) rfl (by kernel_rfl) (by kernel_rfl) (by kernel_rfl) (fun _ _ _ h => h) (Or.inl ⟨by rfl, fun w ⟨h4, _⟩ => by go_simp⟩) hS ?_
      simp only [Act.put, List.setIfInBounds_toArray, List.set_cons_succ, List.set_cons_zero]
      refine wpAnyH_take (i := 5) (oi := { dst := some 46, op := Op.move (Operand.tmp 5), type := 97, pos := "ref.go:208", after := #[{ on := 10, ground := Ground.gcOnly Departure.lateStores }], guard := none }) (v := .pointer (some ⟨w.heap.size + 1, 0, none⟩)) rfl (by kernel_rfl) (by kernel_rfl) (by kernel_rfl) (fun _ _ _ h => h) (Or.inl ⟨by rfl, fun w _ => by go_simp⟩) hS ?_
      simp only [Act.put, List.setIfInBounds_toArray, List.set_cons_succ, List.set_cons_zero]
      refine wpAnyH_take (i := 6) (oi := { dst := some 47, op := Op.nilCheck (Operand.tmp 46), type := 0, pos := "ref.go:208", after := #[{ on := 5, ground := Ground.data }, { on := 10, ground := Ground.gcOnly Departure.lateStores }], guard := none }) (v := .pointer (some ⟨w.heap.size + 1, 0, none⟩)) rfl (by kernel_rfl) (by kernel_rfl) (by kernel_rfl) (fun _ _ _ h => h) (Or.inl ⟨by rfl, fun w _ => by go_simp⟩) hS ?_
      simp only [Act.put, List.setIfInBounds_toArray, List.set_cons_succ, List.set_cons_zero]
      refine wpAnyH_take (i := 7) (oi := { dst := some 48, op := Op.fieldAddr 99 (Operand.tmp 47) 3, type := 0, pos := "ref.go:208", after := #[{ on := 6, ground := Ground.data }, { on := 10, ground := Ground.gcOnly Departure.lateStores }], guard := none }) (v := .pointer (some ⟨w.heap.size + 1, 3, none⟩)) rfl (by kernel_rfl) (by kernel_rfl) (by kernel_rfl) (fun _ _ _ h => h) (Or.inl ⟨by rfl, fun w _ => by go_simp⟩) hS ?_
      simp only [Act.put, List.setIfInBounds_toArray, List.set_cons_succ, List.set_cons_zero]
      refine wpAnyH_take (i := 8) (oi := { dst := some 49, op := Op.load 3 (Operand.tmp 48), type := 3, pos := "ref.go:208", after := #[{ on := 7, ground := Ground.data }, { on := 10, ground := Ground.gcOnly Departure.lateStores }], guard := none }) (v := .int .i64 e) rfl (by kernel_rfl) (by kernel_rfl) (by kernel_rfl) (fun _ _ _ h => h) (Or.inl ⟨by rfl, fun w ⟨_, h3⟩ => by go_simp⟩) hS ?_
      simp only [Act.put, List.setIfInBounds_toArray, List.set_cons_succ, List.set_cons_zero]
      refine wpAnyH_all (rs := [9]) (by kernel_rfl) (by simp) (List.forall_mem_singleton.2 ?_)
      refine wpOp_storeV (o := { dst := none, op := Op.store 66 (Operand.tmp 2) (Operand.tmp 41), type := 0, pos := "ref.go:208", after := #[{ on := 0, ground := Ground.data }, { on := 0, ground := Ground.phase }, { on := 1, ground := Ground.textOnly Departure.lateStores }, { on := 2, ground := Ground.textOnly Departure.lateStores }, { on := 3, ground := Ground.textOnly Departure.lateStores }, { on := 4, ground := Ground.textOnly Departure.lateStores }, { on := 5, ground := Ground.textOnly Departure.lateStores }, { on := 6, ground := Ground.textOnly Departure.lateStores }, { on := 7, ground := Ground.textOnly Departure.lateStores }, { on := 8, ground := Ground.textOnly Departure.lateStores }], guard := none }) (by kernel_rfl) rfl (.tmp 2) (.tmp 41) w.heap.size rfl (by kernel_rfl) (by kernel_rfl) hb9 HZ1.out HZ2.out (fun W10 hb10 ho10 => ?_)
      have HG10 := Lib.hid (HG9.out.only ho10 (Nat.le_refl _))
      obtain ⟨-, -, -, d3, d4, -⟩ := (HR9.out.of (ho10.blk HR9.out.lt (by omega))).facts
      clear ho10 hS
      refine ⟨⟨d4, d3⟩, ?_⟩
      have hS : W10.cell? ⟨w.heap.size + 1, 4, none⟩ = some (.int .i64 bad) ∧ W10.cell? ⟨w.heap.size + 1, 3, none⟩ = some (.int .i64 e) := ⟨d4, d3⟩
      clear d3 d4
      refine wpAnyH_take (i := 10) (oi := { dst := some 3, op := Op.assign (Operand.tmp 45), type := 3, pos := "ref.go:208", after := #[{ on := 4, ground := Ground.data }, { on := 9, ground := Ground.chain }, { on := 0, ground := Ground.phase }, { on := 1, ground := Ground.phase }, { on := 2, ground := Ground.phase }, { on := 3, ground := Ground.phase }, { on := 4, ground := Ground.phase }, { on := 5, ground := Ground.textOnly Departure.lateStores }, { on := 6, ground := Ground.textOnly Departure.lateStores }, { on := 7, ground := Ground.textOnly Departure.lateStores }, { on := 8, ground := Ground.textOnly Departure.lateStores }, { on := 9, ground := Ground.phase }], guard := none }) (v := .int .i64 bad) rfl (by kernel_rfl) (by kernel_rfl) (by kernel_rfl) (fun _ _ _ h => h) (Or.inl ⟨by rfl, fun w _ => by go_simp⟩) hS ?_
      simp only [Act.put, List.setIfInBounds_toArray, List.set_cons_succ, List.set_cons_zero]
      refine wpAnyH_take (i := 11) (oi := { dst := some 4, op := Op.assign (Operand.tmp 49), type := 3, pos := "ref.go:208", after := #[{ on := 8, ground := Ground.data }, { on := 10, ground := Ground.chain }, { on := 0, ground := Ground.phase }, { on := 1, ground := Ground.phase }, { on := 2, ground := Ground.phase }, { on := 3, ground := Ground.phase }, { on := 4, ground := Ground.phase }, { on := 5, ground := Ground.phase }, { on := 6, ground := Ground.phase }, { on := 7, ground := Ground.phase }, { on := 8, ground := Ground.phase }, { on := 9, ground := Ground.phase }, { on := 10, ground := Ground.phase }], guard := none }) (v := .int .i64 e) rfl (by kernel_rfl) (by kernel_rfl) (by kernel_rfl) (fun _ _ _ h => h) (Or.inl ⟨by rfl, fun w _ => by go_simp⟩) hS ?_
      refine wpAnyH_done (by kernel_rfl) ?_ _
      clear hS
      simp only [Act.put, List.setIfInBounds_toArray, List.set_cons_succ, List.set_cons_zero]
      go_wp2_with fail
      refine bodyPost_ret (v := .tuple #[.agg Z, .int .i64 bad, .int .i64 e]) (results_cell3 (p := 2) (q := 3) (r := 4) (ty := 66) hres _ _ w.heap.size _ _ (0, 0) _ (by kernel_rfl) hb10.1 Try.underlying66 rfl (by rw [rn_size, HZ1.out])) rfl ?_
      exact ⟨Z, bad, e, rfl, HZ1.out, HZ2.out, HE.out, HG10.out⟩
  · have n1 : (4096 : Int) < (s.size : Int) := by omega
    go_enter Try.func26, Try.ntmps26
    go_wp2_with (first
      | (refine allocA w.heap.size rfl rfl rfl ?_; intro W1 hb1 hg1 hs1)
      | (refine wpList_build0 rfl rfl ?_)
      | (refine storeA (.tmp 2) (.tmp 10) w.heap.size ⟨rfl, rfl⟩ rfl rfl rfl hb1 (nodeC_size _ _) (nodeC_one _ rfl) ?_; intro W2 hb2 ho2 hs2))
    refine bodyPost_ret (v := .tuple #[.agg (nodeC 0 (.slice none 0 0)), .int .i64 0, .int .i64 6]) (results_cell3 (p := 2) (q := 3) (r := 4) (ty := 66) hres _ _ w.heap.size _ _ (0, 0) _ rfl hb2.1 Try.underlying66 rfl (by rw [rn_size, nodeC_size])) rfl ?_
    exact ⟨_, 0, 6, rfl, nodeC_size _ _, nodeC_one _ rfl, ⟨fun h => absurd h (by decide), fun h => absurd h.1 hbig⟩, hg1.only ho2 (Nat.le_refl _)⟩
end Go.Proofs.Ytnlfndhgdeapeaa
