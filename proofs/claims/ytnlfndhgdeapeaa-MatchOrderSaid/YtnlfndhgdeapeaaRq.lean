/- The reference's atom. -/
import Derived.Test.YtnlfndhgdeapeaaRc
import Derived.Test.YtnlfndhgdeapeaaOwnN
import Derived.Test.YtnlfndhgdeapeaaPieces
namespace Go.Proofs.Ytnlfndhgdeapeaa
open Go.RowKit
set_option maxRecDepth 100000
set_option maxHeartbeats 4000000

/-- what a reading of a node hands back -/
def RPost (b : Nat) (s : ByteArray) (d : Nat) (r : Bool × Nd × Nat) (m : Nat) (w : World) (en : Ending) (w' : World) : Prop :=
  (∃ cs : Array Value, en = .returned (.agg cs) ∧ cs.size = 258 ∧ cs.all (·.oneCell') = true) ∧ Out b s d r.1 r.2.2 m w w'
/-- alternatives, read from k on at depth d -/
def AltR (b : Nat) (s : ByteArray) (d : Nat) (r : Bool × Nd × Nat) (m k : Nat) : Prop :=
  ∀ W, RdR W b s k d 0 0 → Calls Try.prog 44 #[.pointer (some ⟨b, 0, none⟩)] W (RPost b s d r m W)
theorem ClsAt.deep {b d j m : Nat} {s : ByteArray} {w W : World} (h : ClsAt b d s w W true j m) (hb : b < w.heap.size) (d' m' : Nat) : ClsAt b d' s w (W.setCell ⟨b, 2, none⟩ (.int .i64 d')) true j m' :=
  have o : Only W (W.setCell ⟨b, 2, none⟩ (.int .i64 d')) b := (Only.refl W b).setCell (by rfl) _
  ⟨h.o.trans o, h.n.of (o.blk h.n.lt (by omega)), h.r.of (o.blk h.r.lt (by omega)), fun _ => (h.y rfl).setDeep d', fun e => (by cases e)⟩
/-- the node's block may hold whatever node now -/
structure AtmAt (b d : Nat) (s : ByteArray) (w W : World) (ok : Bool) (j m : Nat) : Prop where
  o : Only w W b
  n : RBx W (w.heap.size + 1)
  r : RBx W w.heap.size
  y : ok = true → RdR W b s j d 0 0
  x : ok = false → ∃ (j : Nat) (e bad : Int), e ≠ 0 ∧ j ≤ m ∧ RdR W b s j d e bad
theorem ClsAt.atm {b d j m : Nat} {s : ByteArray} {w W : World} {ok : Bool} (h : ClsAt b d s w W ok j m) : AtmAt b d s w W ok j m := ⟨h.o, h.n.x, h.r, h.y, h.x⟩
theorem AtmAt.onR {b d d' j j' m m' : Nat} {s : ByteArray} {w W W' : World} {ok ok' : Bool} (h : AtmAt b d s w W ok j m) (hb : b < w.heap.size) (o : Only W W' b) (y : ok' = true → RdR W' b s j' d' 0 0) (x : ok' = false → ∃ (j : Nat) (e bad : Int), e ≠ 0 ∧ j ≤ m' ∧ RdR W' b s j d' e bad) : AtmAt b d' s w W' ok' j' m' :=
  ⟨h.o.trans o, h.n.of (o.blk h.n.lt (by omega)), h.r.of (o.blk h.r.lt (by omega)), y, x⟩
theorem AtmAt.out {b d d' j j' m m' : Nat} {s : ByteArray} {w W W' : World} {ok ok' : Bool} (h : AtmAt b d s w W ok j m) (hb : b < w.heap.size) (o : Out b s d' ok' j' m' W W') : AtmAt b d' s w W' ok' j' m' :=
  h.onR hb o.1 o.2.1 o.2.2
theorem AtmAt.drewN {b d j m : Nat} {s : ByteArray} {w W : World} {ok : Bool} (h : AtmAt b d s w W ok j m) (n : Nat) : AtmAt b d s w (W.drewN n) ok j m := ⟨h.o.drewN n, h.n, h.r, h.y, h.x⟩
theorem AtmAt.onM {b d j m : Nat} {s : ByteArray} {w W W' : World} {ok : Bool} {cs : Array Value} (h : AtmAt b d s w W ok j m) (hb : b < w.heap.size) (o : Only W W' (w.heap.size + 1)) (n : RB W' (w.heap.size + 1) cs) : AtmAt b d s w W' ok j m := by
  have hr : ∀ {j : Nat} {e bad : Int}, RdR W b s j d e bad → RdR W' b s j d e bad := fun h => h.of (o.blk h.lt (by omega))
  exact ⟨h.o.far o (by omega), ⟨cs, n⟩, h.r.of (o.blk h.r.lt (by omega)), fun e => hr (h.y e), fun e => by
    obtain ⟨j, e, bad, h2, h3, h4⟩ := h.x e
    exact ⟨j, e, bad, h2, h3, hr h4⟩⟩
theorem AtmAt.post {b d j m : Nat} {s : ByteArray} {w W W' : World} {r : Bool × Nd × Nat} (h : AtmAt b d s w W r.1 j m) (hj : r.1 = true → r.2.2 = j) (hb : b < w.heap.size) (o : Only W W' w.heap.size) {cs : Array Value} (h1 : cs.size = 258) (h2 : cs.all (·.oneCell') = true) : RPost b s d r m w (.returned (.agg cs)) W' := by
  have hr : ∀ {j : Nat} {e bad : Int}, RdR W b s j d e bad → RdR W' b s j d e bad := fun h => h.of (o.blk h.lt (by omega))
  exact ⟨⟨cs, rfl, h1, h2⟩, h.o.far o (Nat.le_refl _), fun e => by rw [hj e]; exact hr (h.y e), fun e => by
    obtain ⟨j, e, bad, h2, h3, h4⟩ := h.x e
    exact ⟨j, e, bad, h2, h3, hr h4⟩⟩
theorem AtmAt.m_le {b d j m m' : Nat} {s : ByteArray} {w W : World} {ok : Bool} (h : AtmAt b d s w W ok j m) (hm : m ≤ m') : AtmAt b d s w W ok j m' := ⟨h.o, h.n, h.r, h.y, fun e => by
    obtain ⟨j, e, bad, h2, h3, h4⟩ := h.x e
    exact ⟨j, e, bad, h2, by omega, h4⟩⟩
theorem rAtom_any (b k d m : Nat) (s : ByteArray) (br : Nat → Bool × Nd × Nat) (w : World) (h : RdR w b s k d 0 0) (hk : k < s.size) (hs : s.size ≤ 1000000) (hd : d ≤ 40) (hm : s.size + 1 ≤ m) (hm2 : m ≤ 2000000)
    (hbad : s[k].toNat ≠ 42 ∧ s[k].toNat ≠ 43 ∧ s[k].toNat ≠ 63 ∧ s[k].toNat ≠ 93 ∧ s[k].toNat ≠ 124 ∧ s[k].toNat ≠ 41)
    (h40 : d = 40 → ∀ j, (br j).1 = false) (hbr : s[k].toNat = 40 → d < 40 → AltR b s (d + 1) (br (k + 1)) m (k + 1) ∧ (br (k + 1)).2.2 ≤ s.size) :
    Calls Try.prog 65 #[.pointer (some ⟨b, 0, none⟩)] w (RPost b s d (atomS s.data.toList br k) (m + 1) w) := by
  have hlen : s.data.toList.length = s.size := by simp
  have hbN := h.lt
  have hg : s.data.toList[k]? = some s[k] := by rw [List.getElem?_eq_getElem (by simpa using hk)]; rfl
  have CE := Lib.hid (fun W (h : RdR W b s k d 0 0) => escaped_any b k d s ⟨#[92, 46, 91, 93, 40, 41, 124, 42, 43, 63, 94, 36, 123, 125, 47, 45]⟩ W h hk hs (by decide))
  have CC := Lib.hid (fun W (h : RdR W b s k d 0 0) => class_any b k d s W h hk hs)
  have CF := Lib.hid (fun (k d : Nat) (x a : Int) W (h : RdR W b s k d 0 0) => fail_any b k d s x a W h)
  obtain ⟨R, hR⟩ : ∃ R, atomS s.data.toList br k = R := ⟨_, rfl⟩
  rw [hR]
  have HR := Lib.hid h
  have hres : Try.f65.results = #[.cell 2 66] := by kernel_rfl
  obtain ⟨c, hc⟩ : ∃ c, s[k] = c := ⟨_, rfl⟩
  have hcn : s[k].toNat = c.toNat := by rw [hc]
  have hat : ∀ x : UInt8, isAt s.data.toList k x = decide (c = x) := fun x => by unfold isAt; rw [hg, hc]; simp
  have hN2 : ∀ (x : UInt8) (n : Nat), x.toNat = n → c ≠ x → ((s[k].toNat : Int) == (n : Int)) = false := fun x n hn hx => by
    rw [ibeq]
    exact decide_eq_false fun h => hx (UInt8.toNat_inj.1 (by rw [← hcn, h, hn]))
  unfold atomS at hR
  rw [hat, hat, hat] at hR
  rw [hc] at hg
  have HBR := Lib.hid hbr
  have HB := Lib.hid hbad
  have HF := Lib.hid h40
  clear h hbad h40 hbr
  obtain ⟨N, hN⟩ : ∃ N, w.heap.size = N := ⟨_, rfl⟩
  have hkI : (k : Int) < (s.size : Int) := by omega
  go_enter Try.func65, Try.ntmps65
  go_wp2_with (first
    | (refine allocA N hN rfl rfl ?_; intro W1 hb1 hg1 hs1)
    | (refine allocA (N + 1) hs1 rfl rfl ?_; intro W2 hb2 hg2 hs2)
    | (refine wpList_build1 rfl _ rfl 3 rfl ?_)
    | (refine storeA (.tmp 3) (.tmp 6) (N + 1) ⟨rfl, rfl⟩ rfl rfl rfl hb2 (nodeC_size _ _) (nodeC_one _ rfl) ?_; intro W3 hb3 ho3 hs3
       have HA3 : Hid (ClsAt b d s w W3 true k 0) := Lib.hid ⟨(((Only.refl w b).gr hg1).gr hg2).far ho3 (by omega), by rw [hN]; exact RN.new 3 hb3, by rw [hN]; exact ⟨_, (hb1.gr hg2).of (ho3.blk (hb1.gr hg2).lt (by omega))⟩, fun _ => ((HR.out.gr hg1).gr hg2).of (ho3.blk ((HR.out.gr hg1).gr hg2).lt (by omega)), fun e => (by cases e)⟩
       obtain ⟨c0, c1, c2, -, -, f1, f2, -⟩ := (HA3.out.y rfl).facts
       clear hb1 hg1 hs1 hb2 hg2 hs2 hb3 ho3 HR))
  go_quiet (fail)
  obtain ⟨W4, hW4⟩ : ∃ W4, W3.drewN nq = W4 := ⟨_, rfl⟩
  have HA4 : Hid (ClsAt b d s w W4 true k 0) := Lib.hid (by rw [← hW4]; exact HA3.out.drewN nq)
  rw [hW4]
  clear hW4 HA3 c0 c1 c2 f1 f2
  subst hN
  obtain ⟨c0, c1, c2, c3, -, f1, f2, -⟩ := (HA4.out.y rfl).facts
  by_cases e46 : c = 46
  · subst e46
    obtain ⟨n, rfl⟩ : ∃ n, R = (true, n, k + 1) := ⟨_, hR.symm⟩
    have e5 : s[k].toNat = 46 := hcn
    have HA5 := Lib.hid (HA4.out.step hbN (k + 1) 0)
    clear hR hg hc hcn hat hN2 CE CC CF HBR HB HF
    go_wp2_with fail
    go_loopw [5] (fun v wr => ∃ c : Nat, v = .int .i64 c ∧ c ≤ 256 ∧ Hid (ClsAt b d s w wr true (k + 1) 0)) (fun v _ => 256 - (intOf v).toNat)
    case atStart => exact ⟨0, rfl, by omega, HA5⟩
    case round =>
      clear HA5 HA4 c0 c1 c2 c3 f1 f2
      obtain ⟨c, rfl, hc, HC⟩ := hrel
      by_cases hlt : c < 256
      · obtain ⟨x, hx, hf⟩ := HC.out.n.cell (i := c) hlt
        have n5 : (c : Int) < 256 := by omega
        have HC2 := Lib.hid (HC.out.onM hbN ((Only.refl _ _).setCell (p := ⟨w.heap.size + 1, 2 + c, none⟩) (by rfl) (.bool true)) (HC.out.n.set (i := c) hlt true))
        go_wp2_with fail
        go_roundw
        case rel => exact ⟨c + 1, by go_num, by omega, HC2⟩
        case measure => simp [intOf]; omega
      · have n5 : ¬ (c : Int) < 256 := by omega
        obtain ⟨cs, hcs⟩ := HC.out.n.x
        obtain ⟨cs0, hcs0⟩ := HC.out.r
        go_wp2_with (first
      | (refine wpList_loadR rfl _ rfl (w.heap.size + 1) rfl hcs ?_)
      | (refine storeA (.tmp 2) (.tmp 132) w.heap.size ⟨rfl, rfl⟩ rfl rfl rfl hcs0 hcs.2.1 hcs.2.2 ?_; intro W5 hb5 ho5 hs5))
        refine bodyPost_ret (v := .agg cs) (results_cell_row (p := 2) (ty := 66) hres _ _ w.heap.size _ cs (0, 0) _ rfl hb5.1 Try.underlying66 rfl (by rw [rn_size, hcs.2.1])) rfl ?_
        exact (HC.out.atm.m_le (Nat.zero_le _)).post (fun _ => rfl) hbN ho5 hcs.2.1 hcs.2.2
  have q46 : ((s[k].toNat : Int) == 46) = false := hN2 46 46 rfl e46
  by_cases e92 : c = 92
  · subst e92
    have e5 : s[k].toNat = 92 := hcn
    have hL := letter_esc (ba := spL) (sk := bsL) (L := [92, 46, 91, 93, 40, 41, 124, 42, 43, 63, 94, 36, 123, 125, 47, 45]) (s := s.data.toList) (k := k) (by rw [hat]; rfl) (by decide)
    rw [hL] at hR
    obtain ⟨q, hq⟩ : ∃ q, escR s.data.toList [92, 46, 91, 93, 40, 41, 124, 42, 43, 63, 94, 36, 123, 125, 47, 45] k = q := ⟨_, rfl⟩
    have CE1 := Lib.hid (CE.out)
    rw [hq] at hR CE1
    obtain ⟨okq, cq⟩ := q
    have hR1 : R.1 = okq ∧ (okq = true → R.2.2 = k + 2) := by
      rw [← hR]
      cases okq
      · exact ⟨rfl, fun e => by cases e⟩
      · exact ⟨rfl, fun _ => rfl⟩
    have HR1 := Lib.hid hR1
    clear hR hg hc hcn hat hN2 hq hL hR1 CE CC CF HBR HB HF
    go_upto_region 27 with (go_at_call 72; refine (CE1.out _ (HA4.out.y rfl)).mono ?_; rintro e w1 ⟨rfl, ho1⟩; have HA5 := Lib.hid (HA4.out.out hbN ho1); obtain ⟨x, hx, hf⟩ := HA5.out.n.cell (i := cq.toNat) cq.toNat_lt; have z1 := cq.toNat_lt; have z2 : (cq.toNat : Int) < 256 := (by omega); have HT := Lib.hid (HA5.out.onM hbN ((Only.refl _ _).setCell (p := ⟨w.heap.size + 1, 2 + cq.toNat, none⟩) (by rfl) (.bool true)) (HA5.out.n.set (i := cq.toNat) cq.toNat_lt true)).atm; clear ho1)
    obtain ⟨cs, hcs⟩ := HT.out.n
    obtain ⟨cs0, hcs0⟩ := HT.out.r
    go_wp2_with (first
      | (refine wpList_loadR rfl _ rfl (w.heap.size + 1) rfl hcs ?_)
      | (refine storeA (.tmp 2) (.tmp 132) w.heap.size ⟨rfl, rfl⟩ rfl rfl rfl hcs0 hcs.2.1 hcs.2.2 ?_; intro W5 hb5 ho5 hs5))
    refine bodyPost_ret (v := .agg cs) (results_cell_row (p := 2) (ty := 66) hres _ _ w.heap.size _ cs (0, 0) _ rfl hb5.1 Try.underlying66 rfl (by rw [rn_size, hcs.2.1])) rfl ?_
    refine AtmAt.post (m := m + 1) (j := k + 2) ?_ (fun e => HR1.out.2 (by rw [← HR1.out.1]; exact e)) hbN ho5 hcs.2.1 hcs.2.2
    rw [HR1.out.1]
    exact HT.out.m_le (by omega)
  have q92 : ((s[k].toNat : Int) == 92) = false := hN2 92 92 rfl e92
  by_cases e91 : c = 91
  · subst e91
    have e5 : s[k].toNat = 91 := hcn
    obtain ⟨h1, h2⟩ := clsS_set s.data.toList k
    have hR1 : R.1 = (clsS s.data.toList k).isSome ∧ (R.1 = true → R.2.2 = (clsS s.data.toList k).getD 0) := by
      rw [← hR]
      refine ⟨h1.symm, fun e => ?_⟩
      have e' : (clsS s.data.toList k).isSome = true := h1.trans e
      obtain ⟨j, hj⟩ := Option.isSome_iff_exists.1 e'
      rw [hj]
      exact h2 j hj
    have HR1 := Lib.hid hR1
    obtain ⟨cs0, hcs0⟩ := HA4.out.r
    clear hR hg hc hcn hat hN2 h1 h2 hR1 CE CF HBR HB HF
    go_wp2_with (first
      | (go_at_call 73; refine (CC.out _ (HA4.out.y rfl)).mono ?_; rintro e w1 ⟨⟨cs, rfl, z1, z2⟩, ho1⟩; have HT := Lib.hid (HA4.out.atm.out hbN ho1); obtain ⟨cs0, hcs0⟩ := HT.out.r; clear ho1)
      | (refine storeA (.tmp 2) (.tmp 52) w.heap.size ⟨rfl, rfl⟩ rfl rfl rfl hcs0 z1 z2 ?_; intro W5 hb5 ho5 hs5))
    refine bodyPost_ret (v := .agg cs) (results_cell_row (p := 2) (ty := 66) hres _ _ w.heap.size _ cs (0, 0) _ rfl hb5.1 Try.underlying66 rfl (by rw [rn_size, z1])) rfl ?_
    refine AtmAt.post (m := m + 1) (j := (clsS s.data.toList k).getD 0) ?_ HR1.out.2 hbN ho5 z1 z2
    rw [HR1.out.1]
    exact HT.out.m_le (by omega)
  have q91 : ((s[k].toNat : Int) == 91) = false := hN2 91 91 rfl e91
  by_cases e40 : c = 40
  · subst e40
    have e5 : s[k].toNat = 40 := hcn
    by_cases hd40 : d = 40
    · subst hd40
      have hb0 := HF.out rfl (k + 1)
      rw [hb0] at hR
      obtain ⟨j, rfl⟩ : ∃ j, R = (false, noN, j) := ⟨_, hR.symm⟩
      clear hR hg hc hcn hat hN2 CE CC HBR HB HF hb0
      go_wp2_with (first
        | (go_at_call 45; refine (CF.out k 40 6 (k : Int) _ (HA4.out.y rfl)).mono ?_; rintro e w1 ⟨rfl, hr1, ho1⟩
           have HT : Hid (AtmAt b 40 s w w1 false 0 (m + 1)) := Lib.hid (HA4.out.atm.onR hbN ho1 (fun e => by cases e) (fun _ => ⟨k, 6, k, by decide, by omega, hr1⟩))
           obtain ⟨cs, hcs⟩ := HT.out.n
           obtain ⟨cs0, hcs0⟩ := HT.out.r
           clear hr1 ho1)
        | (refine wpList_loadR rfl _ rfl (w.heap.size + 1) rfl hcs ?_)
        | (refine storeA (.tmp 2) (.tmp 66) w.heap.size ⟨rfl, rfl⟩ rfl rfl rfl hcs0 hcs.2.1 hcs.2.2 ?_; intro W5 hb5 ho5 hs5))
      refine bodyPost_ret (v := .agg cs) (results_cell_row (p := 2) (ty := 66) hres _ _ w.heap.size _ cs (0, 0) _ rfl hb5.1 Try.underlying66 rfl (by rw [rn_size, hcs.2.1])) rfl ?_
      exact HT.out.post (fun e => by cases e) hbN ho5 hcs.2.1 hcs.2.2
    obtain ⟨hA, hle⟩ := HBR.out e5 (by omega)
    have hdn : ¬ (d : Int) = 40 := by omega
    have hdb : ((d : Int) == 40) = false := by simpa using hdn
    have HD := Lib.hid ((HA4.out.step hbN (k + 1) 0).deep hbN (d + 1) 0)
    have HA := Lib.hid hA
    clear hA
    obtain ⟨q, hq⟩ : ∃ q, br (k + 1) = q := ⟨_, rfl⟩
    rw [hq] at hR hle HA
    obtain ⟨okb, nb, j2⟩ := q
    have hR1 : R = if okb then (if isAt s.data.toList j2 41 then (true, nb, j2 + 1) else (false, noN, j2)) else (false, noN, j2) := hR.symm
    clear hq hR hg hc hcn hat hN2 CE CC HBR HB HF
    go_upto_region 23 with (first
      | (go_at_call 44; refine (HA.out _ (HD.out.y rfl)).mono ?_; rintro e w1 ⟨⟨cs1, rfl, z1, z2⟩, ho1⟩; have HE := Lib.hid (HD.out.atm.out hbN ho1); obtain ⟨csn, hcsn⟩ := HE.out.n; clear ho1)
      | (refine storeA (.tmp 3) (.tmp 82) (w.heap.size + 1) ⟨rfl, rfl⟩ rfl rfl rfl hcsn z1 z2 ?_; intro W6 hb6 ho6 hs6; have HG := Lib.hid (HE.out.onM hbN ho6 hb6); clear hcsn hb6 ho6 HE))
    clear HA HD HA4 c0 c1 c2 c3 f1 f2
    cases okb
    case false =>
      have hRn : R = (false, noN, j2) := hR1
      clear hR1
      subst hRn
      obtain ⟨j, e, bad, he, hj, hr⟩ := HG.out.x rfl
      obtain ⟨c0, c1, c2, c3, -, f1, f2, -⟩ := hr.facts
      have h1 : (e == 0) = false := by simpa using he
      have HT0 := Lib.hid (HG.out.onR (ok' := false) (j' := 0) (m' := m) hbN ((Only.refl _ _).setCell (p := ⟨b, 2, none⟩) (by rfl) (.int .i64 d)) (fun e => by cases e) (fun _ => ⟨j, e, bad, he, hj, hr.setDeep d⟩))
      go_upto_region 24 with fail
      go_quiet (fail)
      obtain ⟨W7, hW7⟩ : ∃ W7, (W6.setCell ⟨b, 2, none⟩ (.int .i64 d)).drewN nq = W7 := ⟨_, rfl⟩
      have hr7 : RdR W7 b s j d e bad := by rw [← hW7]; exact (hr.setDeep d).drewN nq
      have HT1 : Hid (AtmAt b d s w W7 false 0 m) := Lib.hid (by rw [← hW7]; exact HT0.out.drewN nq)
      rw [hW7]
      clear hW7 c0 c1 c2 c3 f1 f2
      obtain ⟨c0, c1, -, -, -, f1, -⟩ := hr7.facts
      have HT := Lib.hid (HT1.out.onR (ok' := false) (j' := 0) (m' := m + 1) hbN ((Only.refl _ _).setCell (p := ⟨b, 1, none⟩) (by rfl) (.int .i64 ((j + 1 : Nat) : Int))) (fun e => by cases e) (fun _ => ⟨j + 1, e, bad, he, by omega, hr7.setAt (j + 1)⟩))
      obtain ⟨cs, hcs⟩ := HT.out.n
      obtain ⟨cs0, hcs0⟩ := HT.out.r
      clear hr hr7
      go_wp2_with (first
        | (refine wpList_loadR rfl _ rfl (w.heap.size + 1) rfl hcs ?_)
        | (refine storeA (.tmp 2) (.tmp 132) w.heap.size ⟨rfl, rfl⟩ rfl rfl rfl hcs0 hcs.2.1 hcs.2.2 ?_; intro W5 hb5 ho5 hs5))
      refine bodyPost_ret (v := .agg cs) (results_cell_row (p := 2) (ty := 66) hres _ _ w.heap.size _ cs (0, 0) _ rfl hb5.1 Try.underlying66 rfl (by rw [rn_size, hcs.2.1])) rfl ?_
      exact HT.out.post (fun e => by cases e) hbN ho5 hcs.2.1 hcs.2.2
    replace hR1 : R = if isAt s.data.toList j2 41 then (true, nb, j2 + 1) else (false, noN, j2) := hR1
    try simp only at hle
    have HT0 := Lib.hid (HG.out.onR (ok' := true) (j' := j2) (m' := m) hbN ((Only.refl _ _).setCell (p := ⟨b, 2, none⟩) (by rfl) (.int .i64 d)) (fun _ => (HG.out.y rfl).setDeep d) (fun e => by cases e))
    obtain ⟨c0, c1, c2, c3, -, f1, f2, -⟩ := (HG.out.y rfl).facts
    obtain ⟨t, ht⟩ : ∃ t, isAt s.data.toList j2 41 = t := ⟨_, rfl⟩
    rw [ht] at hR1
    have htl : t = true → j2 < s.size := fun e => by
      have := isAt_len (ht.trans e)
      simp at this; omega
    have HR1 := Lib.hid hR1
    clear hR1
    go_upto_region 24 with fail
    go_cut [118] from 6 (fun s118 wx => s118 = .bool (!t) ∧ Hid (AtmAt b d s w wx true j2 m))
    case first =>
      clear HR1
      by_cases hlt : j2 < s.size
      · have hg : s.data.toList[j2]? = some s[j2] := by rw [List.getElem?_eq_getElem (by simpa using hlt)]; rfl
        have H : Hid ((decide (s[j2].toNat = 41)) = t) := Lib.hid (by
          rw [← ht]; unfold isAt; rw [hg]
          simp [← UInt8.toNat_inj])
        have n3 : (j2 : Int) < (s.size : Int) := by omega
        have n4 : decide (s.size ≤ j2) = false := decide_eq_false (by omega)
        clear ht hg
        go_quiet (fail)
        go_wp2_with fail
        go_meet
        exact ⟨by rw [← H.out]; exact congrArg Value.bool (ineq _ 41), Lib.hid (HT0.out.drewN _)⟩
      · have H : Hid (t = false) := Lib.hid (by cases t; rfl; exact absurd (htl rfl) hlt)
        have n4 : decide (s.size ≤ j2) = true := decide_eq_true (by omega)
        clear ht
        go_quiet (fail)
        go_wp2_with fail
        go_meet
        exact ⟨by rw [H.out]; rfl, Lib.hid (HT0.out.drewN _)⟩
    case rest =>
    obtain ⟨rfl, HT1⟩ := hcut
    clear HT0 HG c0 c1 c2 c3 f1 f2
    obtain ⟨c0, c1, -, -, -, f1, -⟩ := (HT1.out.y rfl).facts
    cases t
    case true =>
      have hRn : R = (true, nb, j2 + 1) := HR1.out
      clear HR1 ht htl
      subst hRn
      have HT := Lib.hid (HT1.out.onR (ok' := true) (j' := j2 + 1) (m' := m + 1) hbN ((Only.refl _ _).setCell (p := ⟨b, 1, none⟩) (by rfl) (.int .i64 ((j2 + 1 : Nat) : Int))) (fun _ => (HT1.out.y rfl).setAt (j2 + 1)) (fun e => by cases e))
      obtain ⟨cs, hcs⟩ := HT.out.n
      obtain ⟨cs0, hcs0⟩ := HT.out.r
      go_wp2_with (first
        | (refine wpList_loadR rfl _ rfl (w.heap.size + 1) rfl hcs ?_)
        | (refine storeA (.tmp 2) (.tmp 132) w.heap.size ⟨rfl, rfl⟩ rfl rfl rfl hcs0 hcs.2.1 hcs.2.2 ?_; intro W5 hb5 ho5 hs5))
      refine bodyPost_ret (v := .agg cs) (results_cell_row (p := 2) (ty := 66) hres _ _ w.heap.size _ cs (0, 0) _ rfl hb5.1 Try.underlying66 rfl (by rw [rn_size, hcs.2.1])) rfl ?_
      exact HT.out.post (fun _ => rfl) hbN ho5 hcs.2.1 hcs.2.2
    have hRn : R = (false, noN, j2) := HR1.out
    clear HR1 ht htl
    subst hRn
    have CF2 := Lib.hid (CF.out j2 d 2 (j2 : Int) _ (HT1.out.y rfl))
    go_upto_region 26 with (go_at_call 45; refine CF2.out.mono ?_; rintro e w1 ⟨rfl, hr1, ho1⟩)
    have HT2 : Hid (AtmAt b d s w w1 false 0 m) := Lib.hid (HT1.out.onR hbN ho1 (fun e => by cases e) (fun _ => ⟨j2, 2, j2, by decide, by omega, hr1⟩))
    clear c0 c1 f1 CF2
    obtain ⟨c0, c1, -, -, -, f1, -⟩ := hr1.facts
    have HT := Lib.hid (HT2.out.onR (ok' := false) (j' := 0) (m' := m + 1) hbN ((Only.refl _ _).setCell (p := ⟨b, 1, none⟩) (by rfl) (.int .i64 ((j2 + 1 : Nat) : Int))) (fun e => by cases e) (fun _ => ⟨j2 + 1, 2, j2, by decide, by omega, hr1.setAt (j2 + 1)⟩))
    obtain ⟨cs, hcs⟩ := HT.out.n
    obtain ⟨cs0, hcs0⟩ := HT.out.r
    clear hr1 ho1
    go_wp2_with (first
        | (refine wpList_loadR rfl _ rfl (w.heap.size + 1) rfl hcs ?_)
        | (refine storeA (.tmp 2) (.tmp 132) w.heap.size ⟨rfl, rfl⟩ rfl rfl rfl hcs0 hcs.2.1 hcs.2.2 ?_; intro W5 hb5 ho5 hs5))
    refine bodyPost_ret (v := .agg cs) (results_cell_row (p := 2) (ty := 66) hres _ _ w.heap.size _ cs (0, 0) _ rfl hb5.1 Try.underlying66 rfl (by rw [rn_size, hcs.2.1])) rfl ?_
    exact HT.out.post (fun e => by cases e) hbN ho5 hcs.2.1 hcs.2.2
  have q40 : ((s[k].toNat : Int) == 40) = false := hN2 40 40 rfl e40
  have hL := letter_plain (ba := spL) (sk := bsL) hg e92
  have hsp : amongB spL c = false := decide_eq_false (by
    obtain ⟨b1, b2, b3, b4, b5, b6⟩ := HB.out
    rw [hcn] at b1 b2 b3 b4 b5 b6
    simp only [spL, List.mem_cons, List.not_mem_nil, or_false]
    rintro (h | h | h | h | h | h | h | h | h | h)
    · exact e92 h
    · exact e46 h
    · exact e91 h
    · exact b4 (by rw [h]; rfl)
    · exact e40 h
    · exact b6 (by rw [h]; rfl)
    · exact b5 (by rw [h]; rfl)
    · exact b1 (by rw [h]; rfl)
    · exact b2 (by rw [h]; rfl)
    · exact b3 (by rw [h]; rfl))
  obtain ⟨n, rfl⟩ : ∃ n, R = (true, n, k + 1) := by
    rw [← hR, hL, hsp, decide_eq_false e46, decide_eq_false e40, decide_eq_false e91]
    exact ⟨_, rfl⟩
  obtain ⟨x, hx, hf⟩ := HA4.out.n.cell (i := c.toNat) c.toNat_lt
  have z2 : (c.toNat : Int) < 256 := by have := c.toNat_lt; omega
  have HA5 := Lib.hid (HA4.out.onM hbN ((Only.refl _ _).setCell (p := ⟨w.heap.size + 1, 2 + c.toNat, none⟩) (by rfl) (.bool true)) (HA4.out.n.set (i := c.toNat) c.toNat_lt true))
  have HT := Lib.hid (HA5.out.step hbN (k + 1) 0).atm
  obtain ⟨cs, hcs⟩ := HT.out.n
  obtain ⟨cs0, hcs0⟩ := HT.out.r
  clear hR hL hsp hg hat hN2 CE CC CF HBR HB HF
  go_wp2_with (first
      | (refine wpList_loadR rfl _ rfl (w.heap.size + 1) rfl hcs ?_)
      | (refine storeA (.tmp 2) (.tmp 132) w.heap.size ⟨rfl, rfl⟩ rfl rfl rfl hcs0 hcs.2.1 hcs.2.2 ?_; intro W5 hb5 ho5 hs5))
  refine bodyPost_ret (v := .agg cs) (results_cell_row (p := 2) (ty := 66) hres _ _ w.heap.size _ cs (0, 0) _ rfl hb5.1 Try.underlying66 rfl (by rw [rn_size, hcs.2.1])) rfl ?_
  exact (HT.out.m_le (by omega)).post (fun _ => rfl) hbN ho5 hcs.2.1 hcs.2.2
end Go.Proofs.Ytnlfndhgdeapeaa
/- The reference's pieces. -/
namespace Go.Proofs.Ytnlfndhgdeapeaa
open Go.RowKit
set_option maxRecDepth 100000
set_option maxHeartbeats 4000000

theorem OwnR.keep2 {W W' : World} {B n : Nat} {v : Value} (h : OwnR W B v n) (g : ∀ c, v.ownBlock = some c → W'.heap[c]? = W.heap[c]?) : OwnR W' B v n := by
  obtain ⟨xs, h⟩ := h
  refine ⟨xs, h.1, ?_⟩
  rcases h.2 with e | ⟨q, cap, cur, e1, e2, e3, e4⟩
  · exact .inl e
  · exact .inr ⟨q, cap, cur, e1, e2, by rw [g q (by rw [e1]; rfl)]; exact e3, e4⟩
/-- nodes are gathered: the result's block, the gathering node's, its row -/
structure PcsAt (b d : Nat) (s : ByteArray) (w W : World) (ok : Bool) (j m : Nat) (v : Value) (n : Nat) : Prop where
  o : Only w W b
  r : RBx W w.heap.size
  p : ∃ cs, RB W (w.heap.size + 1) cs ∧ cs[1]? = some v
  l : OwnR W (w.heap.size + 2) v n
  y : ok = true → RdR W b s j d 0 0
  x : ok = false → ∃ (j : Nat) (e bad : Int), e ≠ 0 ∧ j ≤ m ∧ RdR W b s j d e bad
section
variable {b d d' j j' m m' n : Nat} {s : ByteArray} {w W W' : World} {ok ok' : Bool} {v : Value}
theorem PcsAt.plt (h : PcsAt b d s w W ok j m v n) : w.heap.size + 1 < W.heap.size := by
  obtain ⟨cs, h1, -⟩ := h.p
  exact h1.lt
/-- whatever else than the four has changed -/
theorem PcsAt.same (h : PcsAt b d s w W ok j m v n) (o : Only w W' b) (g : ∀ c, c = w.heap.size ∨ c = w.heap.size + 1 ∨ v.ownBlock = some c → W'.heap[c]? = W.heap[c]?) (y : ok' = true → RdR W' b s j' d' 0 0) (x : ok' = false → ∃ (j : Nat) (e bad : Int), e ≠ 0 ∧ j ≤ m' ∧ RdR W' b s j d' e bad) : PcsAt b d' s w W' ok' j' m' v n := by
  obtain ⟨cs, h1, h2⟩ := h.p
  exact ⟨o, h.r.of (g _ (.inl rfl)), ⟨cs, h1.of (g _ (.inr (.inl rfl))), h2⟩, h.l.keep2 (fun c hc => g c (.inr (.inr hc))), y, x⟩
theorem PcsAt.onR (h : PcsAt b d s w W ok j m v n) (hb : b < w.heap.size) (o : Only W W' b) (y : ok' = true → RdR W' b s j' d' 0 0) (x : ok' = false → ∃ (j : Nat) (e bad : Int), e ≠ 0 ∧ j ≤ m' ∧ RdR W' b s j d' e bad) : PcsAt b d' s w W' ok' j' m' v n :=
  h.same (h.o.trans o) (fun c hc => by
    have hl := h.plt
    rcases hc with rfl | rfl | hc
    · exact o.blk (by omega) (by omega)
    · exact o.blk (by omega) (by omega)
    · have := h.l.lt c hc
      exact o.blk this.2 (by omega)) y x
theorem PcsAt.out (h : PcsAt b d s w W ok j m v n) (hb : b < w.heap.size) (o : Out b s d' ok' j' m' W W') : PcsAt b d' s w W' ok' j' m' v n := h.onR hb o.1 o.2.1 o.2.2
theorem PcsAt.keepR (h : PcsAt b d s w W ok j m v n) (o : Only w W' b) (g : ∀ c, c = b ∨ c = w.heap.size ∨ c = w.heap.size + 1 ∨ v.ownBlock = some c → W'.heap[c]? = W.heap[c]?) : PcsAt b d s w W' ok j m v n :=
  h.same o (fun c hc => g c (.inr hc)) (fun e => (h.y e).of (g b (.inl rfl))) (fun e => by
    obtain ⟨j, e, bad, h2, h3, h4⟩ := h.x e
    exact ⟨j, e, bad, h2, h3, h4.of (g b (.inl rfl))⟩)
theorem PcsAt.gr (h : PcsAt b d s w W ok j m v n) (hb : b < w.heap.size) (g : Gr W W') : PcsAt b d s w W' ok j m v n :=
  h.keepR (h.o.gr g) (fun c hc => g.b.block c (by
    have hl := h.plt
    rcases hc with rfl | rfl | rfl | hc
    · omega
    · omega
    · omega
    · exact (h.l.lt c hc).2))
theorem PcsAt.drewN (h : PcsAt b d s w W ok j m v n) (k : Nat) : PcsAt b d s w (W.drewN k) ok j m v n := ⟨h.o.drewN k, h.r, h.p, h.l, h.y, h.x⟩
theorem PcsAt.onA {A : Nat} (h : PcsAt b d s w W ok j m v n) (hb : b < w.heap.size) (o : Only W W' A) (hA : w.heap.size + 2 ≤ A) (hv : ∀ k, v.ownBlock = some k → k < A) : PcsAt b d s w W' ok j m v n :=
  h.keepR (h.o.far o (by omega)) (fun c hc => by
    have hl := h.plt
    rcases hc with rfl | rfl | rfl | hc
    · exact o.blk (by omega) (by omega)
    · exact o.blk (by omega) (by omega)
    · exact o.blk (by omega) (by omega)
    · have := h.l.lt c hc
      have := hv c hc
      exact o.blk (by omega) (by omega))
theorem PcsAt.step (h : PcsAt b d s w W true j m v n) (hb : b < w.heap.size) (j' m' : Nat) : PcsAt b d s w (W.setCell ⟨b, 1, none⟩ (.int .i64 j')) true j' m' v n :=
  h.onR hb ((Only.refl W b).setCell (by rfl) _) (fun _ => (h.y rfl).setAt j') (fun e => (by cases e))
theorem PcsAt.no (h : PcsAt b d s w W false j m v n) (j' : Nat) (hm : m ≤ m') : PcsAt b d s w W false j' m' v n := ⟨h.o, h.r, h.p, h.l, fun e => (by cases e), fun e => by
    obtain ⟨j, e, bad, h2, h3, h4⟩ := h.x e
    exact ⟨j, e, bad, h2, by omega, h4⟩⟩
theorem PcsAt.yes (h : PcsAt b d s w W true j m v n) (m' : Nat) : PcsAt b d s w W true j m' v n := ⟨h.o, h.r, h.p, h.l, h.y, fun e => (by cases e)⟩
theorem PcsAt.m_le (h : PcsAt b d s w W ok j m v n) (hm : m ≤ m') : PcsAt b d s w W ok j m' v n := by
  cases ok
  · exact h.no j hm
  · exact h.yes m'
theorem PcsAt.facts (h : PcsAt b d s w W ok j m v n) : W.cell? ⟨w.heap.size + 1, 1, none⟩ = some v ∧ W.frozen? ⟨w.heap.size + 1, 1, none⟩ = false := by
  obtain ⟨cs, h1, h2⟩ := h.p
  exact ⟨(cell_of_row W _ 1 cs _ (0, 0) h1.1).trans h2, frozen_of_row W _ 1 cs _ h1.1⟩
/-- a node is appended -/
theorem PcsAt.app {v' : Value} (h : PcsAt b d s w W ok j m v n) (hb : b < w.heap.size) (g : W.grownBy W' v.ownBlock) (l : OwnR W' (w.heap.size + 2) v' (n + 1)) :
    W'.cell? ⟨w.heap.size + 1, 1, none⟩ = some v ∧ W'.frozen? ⟨w.heap.size + 1, 1, none⟩ = false ∧ PcsAt b d s w (W'.setCell ⟨w.heap.size + 1, 1, none⟩ v') ok j m v' (n + 1) := by
  obtain ⟨cs, h1, h2⟩ := h.p
  have hl := h.plt
  have hrow : ∀ k, v.ownBlock = some k → w.heap.size + 2 ≤ k := fun k e => (h.l.lt k e).1
  have hkeep : ∀ c, c < w.heap.size + 2 → W'.heap[c]? = W.heap[c]? := fun c hc => g.block c (by omega) (fun e => by have := hrow c e.symm; omega)
  have h1' : RB W' (w.heap.size + 1) cs := h1.of (hkeep _ (by omega))
  have hset : ∀ c, c ≠ w.heap.size + 1 → (W'.setCell ⟨w.heap.size + 1, 1, none⟩ v').heap[c]? = W'.heap[c]? := fun c hc => Below.heap_setCell W' _ _ c (by show c ≠ w.heap.size + 1; exact hc)
  refine ⟨(cell_of_row W' _ 1 cs _ (0, 0) h1'.1).trans h2, frozen_of_row W' _ 1 cs _ h1'.1, ?_⟩
  have o' : Only w W' b := h.o.grown g (fun k e => by have := hrow k e; omega)
  have hbk : (W'.setCell ⟨w.heap.size + 1, 1, none⟩ v').heap[b]? = W.heap[b]? := (hset b (by omega)).trans (hkeep b (by omega))
  exact ⟨o'.setFar (by omega) _, h.r.of ((hset _ (by omega)).trans (hkeep _ (by omega))), ⟨_, h1'.setSame 1 l.one, by rw [Array.getElem?_setIfInBounds, if_pos rfl, if_pos (by rw [h1.2.1]; omega)]⟩,
    l.keep (fun c hc _ => hset c (by omega)), fun e => (h.y e).of hbk, fun e => by
      obtain ⟨j, e, bad, h2, h3, h4⟩ := h.x e
      exact ⟨j, e, bad, h2, h3, h4.of hbk⟩⟩
theorem PcsAt.post {r : Bool × Nd × Nat} {cs : Array Value} (h : PcsAt b d s w W r.1 j m v n) (hj : r.1 = true → r.2.2 = j) (hb : b < w.heap.size) (o : Only W W' w.heap.size) (h1 : cs.size = 258) (h2 : cs.all (·.oneCell') = true) : RPost b s d r m w (.returned (.agg cs)) W' := by
  have hr : ∀ {j : Nat} {e bad : Int}, RdR W b s j d e bad → RdR W' b s j d e bad := fun h => h.of (o.blk h.lt (by omega))
  exact ⟨⟨cs, rfl, h1, h2⟩, h.o.far o (Nat.le_refl _), fun e => by rw [hj e]; exact hr (h.y e), fun e => by
    obtain ⟨j, e, bad, h2, h3, h4⟩ := h.x e
    exact ⟨j, e, bad, h2, h3, hr h4⟩⟩
end
end Go.Proofs.Ytnlfndhgdeapeaa
/- The reference's pieces: the walk. -/
namespace Go.Proofs.Ytnlfndhgdeapeaa
open Go.RowKit
set_option maxRecDepth 100000
set_option maxHeartbeats 4000000

def altG (s : ByteArray) (b d m k : Nat) (br : Nat → Bool × Nd × Nat) : Prop := ∀ (j : Nat) (h : j < s.size), k ≤ j → s[j].toNat = 40 → d < 40 → AltR b s (d + 1) (br (j + 1)) m (j + 1) ∧ (br (j + 1)).2.2 ≤ s.size
/-- what a repeated atom comes to -/
theorem pieceS_at (s : List UInt8) (br : Nat → Bool × Nd × Nat) (k : Nat) : (pieceS s br k).1 = (atomS s br k).1 ∧ ((atomS s br k).1 = true → (pieceS s br k).2.2 = if isAt s (atomS s br k).2.2 42 || isAt s (atomS s br k).2.2 43 || isAt s (atomS s br k).2.2 63 then (atomS s br k).2.2 + 1 else (atomS s br k).2.2) := by
  unfold pieceS
  obtain ⟨r, hr⟩ : ∃ r, atomS s br k = r := ⟨_, rfl⟩
  rw [hr]
  obtain ⟨ok, n, j⟩ := r
  cases ok
  · exact ⟨rfl, fun e => by cases e⟩
  simp only [if_true]
  cases isAt s j 42
  · cases isAt s j 43
    · cases isAt s j 63
      · exact ⟨rfl, fun _ => rfl⟩
      · exact ⟨rfl, fun _ => rfl⟩
    · exact ⟨rfl, fun _ => rfl⟩
  · exact ⟨rfl, fun _ => rfl⟩
/-- the bytes that no piece begins with -/
theorem bad_piece {s : List UInt8} {br : Nat → Bool × Nd × Nat} {k : Nat} {c : UInt8} (hc : s[k]? = some c) (h : c = 42 ∨ c = 43 ∨ c = 63 ∨ c = 93) : (pieceS s br k).1 = false := by
  rw [(pieceS_at s br k).1]
  have e : letterS s spL bsL k = (false, 0, k) := by
    rw [letter_plain hc (by rcases h with rfl | rfl | rfl | rfl <;> decide)]
    rcases h with rfl | rfl | rfl | rfl <;> rfl
  have hat : ∀ x : UInt8, isAt s k x = decide (c = x) := fun x => by unfold isAt; rw [hc]; simp
  unfold atomS
  rw [hat, hat, hat, e]
  rcases h with rfl | rfl | rfl | rfl <;> rfl
theorem rPieces_any (b k d m : Nat) (s : ByteArray) (br : Nat → Bool × Nd × Nat) (w : World) (h : RdR w b s k d 0 0) (hk : k ≤ s.size) (hs : s.size ≤ 1000000) (hd : d ≤ 40) (hm : s.size + 1 ≤ m) (hm2 : m ≤ 1500000)
    (h40 : d = 40 → ∀ j, (br j).1 = false) (hle : BrLe s.data.toList br) (hbr : altG s b d m k br) :
    Calls Try.prog 58 #[.pointer (some ⟨b, 0, none⟩)] w (RPost b s d ((piecesF s.data.toList br (s.size + 1) k []).1, noN, (piecesF s.data.toList br (s.size + 1) k []).2.2) (m + 1) w) := by
  have hlen : s.data.toList.length = s.size := by simp
  have hbN := h.lt
  have CA := Lib.hid (fun (j : Nat) W (h : RdR W b s j d 0 0) (hkj : k ≤ j) (hj : j < s.size) (hb : s[j].toNat ≠ 42 ∧ s[j].toNat ≠ 43 ∧ s[j].toNat ≠ 63 ∧ s[j].toNat ≠ 93 ∧ s[j].toNat ≠ 124 ∧ s[j].toNat ≠ 41) => rAtom_any b j d m s br W h hj hs hd hm (by omega) hb h40 (fun e g => hbr j hj hkj e g))
  have CF := Lib.hid (fun (j : Nat) W (h : RdR W b s j d 0 0) => fail_any b j d s 2 (j : Int) W h)
  have HL := Lib.hid (fun (j : Nat) (hj : j ≤ s.size) => show (pieceS s.data.toList br j).2.2 ≤ s.size ∧ ((pieceS s.data.toList br j).1 = true → j < (pieceS s.data.toList br j).2.2) ∧ (atomS s.data.toList br j).2.2 ≤ s.size by
    have h1 := pieceS_le hle (k := j) (by simp; omega)
    have h2 := atomS_le hle (k := j) (by simp; omega)
    exact ⟨by simpa using h1.1, h1.2.2, by simpa using h2.1⟩)
  obtain ⟨Q, hQ⟩ : ∃ Q, piecesF s.data.toList br (s.size + 1) k [] = Q := ⟨_, rfl⟩
  rw [hQ]
  have HQ := Lib.hid hQ
  have HR := Lib.hid h
  have hres : Try.f58.results = #[.cell 2 66] := by kernel_rfl
  obtain ⟨N, hN⟩ : ∃ N, w.heap.size = N := ⟨_, rfl⟩
  clear h hQ h40 hbr hle
  go_enter Try.func58, Try.ntmps58
  go_upto_block 0 with (first
    | (refine allocA N hN rfl rfl ?_; intro W1 hb1 hg1 hs1)
    | (refine allocA (N + 1) hs1 rfl rfl ?_; intro W2 hb2 hg2 hs2)
    | (refine wpList_build1 rfl _ rfl 1 rfl ?_)
    | (refine storeA (.tmp 3) (.tmp 6) (N + 1) ⟨rfl, rfl⟩ rfl rfl rfl hb2 (nodeC_size _ _) (nodeC_one _ rfl) ?_; intro W3 hb3 ho3 hs3
       have HA3 : Hid (PcsAt b d s w W3 true k 0 (.slice none 0 0) 0) := Lib.hid ⟨(((Only.refl w b).gr hg1).gr hg2).far ho3 (by omega), by rw [hN]; exact ⟨_, (hb1.gr hg2).of (ho3.blk (hb1.gr hg2).lt (by omega))⟩, by rw [hN]; exact ⟨_, hb3, rfl⟩, OwnR.nil _ _, fun _ => ((HR.out.gr hg1).gr hg2).of (ho3.blk ((HR.out.gr hg1).gr hg2).lt (by omega)), fun e => (by cases e)⟩
       clear hb1 hg1 hs1 hb2 hg2 hs2 hb3 ho3 HR))
  subst hN
  simp only [Act.put, List.setIfInBounds_toArray, List.set_cons_succ, List.set_cons_zero]
  go_wp2_with fail
  go_loopg [] (s.size + 1) (fun g wx => ∃ (v : Value) (n : Nat), (Hid (∃ j acc, PcsAt b d s w wx true j 0 v n ∧ k ≤ j ∧ j ≤ s.size ∧ s.size + 1 ≤ j + g ∧ n ≤ j ∧ piecesF s.data.toList br g j acc = Q)) ∨ (Q.1 = false ∧ n ≤ s.size + 1 ∧ Hid (PcsAt b d s w wx false 0 (m + 1) v n)))
  case atStart => exact ⟨_, 0, .inl (Lib.hid ⟨k, [], HA3.out, Nat.le_refl _, hk, by omega, by omega, HQ.out⟩)⟩
  case round =>
    clear HA3 HQ
    obtain ⟨v, n, hst | ⟨hq1, hn, HE⟩⟩ := hrel
    · obtain ⟨j, acc, hA, hkj, hj, hf, hnj, hG⟩ := hst.out
      have HA := Lib.hid hA
      clear hA hst
      cases gk with
      | zero => omega
      | succ f =>
        rw [piecesF_s] at hG
        have HG := Lib.hid hG
        clear hG
        obtain ⟨t, ht⟩ : ∃ t, goesOn s.data.toList j = t := ⟨_, rfl⟩
        have hgc := goesOn_cases s j hj
        rw [ht] at HG hgc
        clear ht
        go_upto_region 2 with fail
        go_cut [32] from 7 to 117 (fun s32 wx => s32 = .bool t ∧ Hid (PcsAt b d s w wx true j 0 v n))
        case first =>
          clear HG
          obtain ⟨c0, c1, -, c3, -⟩ := (HA.out.y rfl).facts
          have CM := Lib.hid (more_quiet (HA.out.y rfl))
          rcases hgc with ⟨rfl, rfl⟩ | ⟨hlt, hor, rfl⟩ | ⟨hlt, h1, h2, rfl⟩
          · have C1 := Lib.hid (CM.out false (by simp))
            clear CM
            go_wp2_with fail
            go_quiet ((go_at_call 59; exact C1.out _))
            go_wp2_with fail
            go_meet
            exact ⟨rfl, Lib.hid (HA.out.drewN _)⟩
          · have n3 : (j : Int) < (s.size : Int) := by omega
            have C1 := Lib.hid (CM.out true (by simp [hlt]))
            clear CM
            rcases hor with h1 | h1
            · go_wp2_with fail
              go_quiet ((go_at_call 59; exact C1.out _))
              go_wp2_with fail
              go_meet
              exact ⟨rfl, Lib.hid (HA.out.drewN _)⟩
            · go_wp2_with fail
              go_quiet ((go_at_call 59; exact C1.out _))
              go_wp2_with fail
              go_meet
              exact ⟨rfl, Lib.hid (HA.out.drewN _)⟩
          · have n3 : (j : Int) < (s.size : Int) := by omega
            have C1 := Lib.hid (CM.out true (by simp [hlt]))
            have b1 : ((s[j].toNat : Int) != 124) = true := by simp; omega
            have b2 : ((s[j].toNat : Int) != 41) = true := by simp; omega
            have b3 : ¬ s[j].toNat = 124 := h1
            have b4 : ¬ s[j].toNat = 41 := h2
            clear CM h1 h2
            go_wp2_with fail
            go_quiet ((go_at_call 59; exact C1.out _))
            go_wp2_with fail
            go_meet
            exact ⟨rfl, Lib.hid (HA.out.drewN _)⟩
        case rest =>
        obtain ⟨rfl, HA1⟩ := hcut
        clear HA
        cases t
        case false =>
          have hQ : Q = (true, acc, j) := HG.out.symm
          clear HG hgc CA CF HL
          subst hQ
          go_upto_region 20 with fail
          obtain ⟨cs, hcs, -⟩ := HA1.out.p
          obtain ⟨cs0, hcs0⟩ := HA1.out.r
          go_wp2_with (first
            | (refine wpList_loadR rfl _ rfl (w.heap.size + 1) rfl hcs ?_)
            | (refine storeA (.tmp 2) (.tmp 118) w.heap.size ⟨rfl, rfl⟩ rfl rfl rfl hcs0 hcs.2.1 hcs.2.2 ?_; intro W5 hb5 ho5 hs5))
          refine bodyPost_ret (v := .agg cs) (results_cell_row (p := 2) (ty := 66) hres _ _ w.heap.size _ cs (0, 0) _ rfl hb5.1 Try.underlying66 rfl (by rw [rn_size, hcs.2.1])) rfl ?_
          exact PcsAt.post (j := j) (HA1.out.yes (m + 1)) (fun _ => rfl) hbN ho5 hcs.2.1 hcs.2.2
        obtain ⟨hlt, h124, h41⟩ : ∃ h : j < s.size, s[j].toNat ≠ 124 ∧ s[j].toNat ≠ 41 := by
          rcases hgc with ⟨-, h⟩ | ⟨-, -, h⟩ | ⟨h, h1, h2, -⟩
          · cases h
          · cases h
          · exact ⟨h, h1, h2⟩
        replace HG : Hid ((if (pieceS s.data.toList br j).1 then piecesF s.data.toList br f (pieceS s.data.toList br j).2.2 (acc ++ [(pieceS s.data.toList br j).2.1]) else (false, [], (pieceS s.data.toList br j).2.2)) = Q) := Lib.hid HG.out
        clear hgc
        have n3 : (j : Int) < (s.size : Int) := by omega
        have hg : s.data.toList[j]? = some s[j] := by rw [List.getElem?_eq_getElem (by simpa using hlt)]; rfl
        obtain ⟨c0, c1, -, c3, -⟩ := (HA1.out.y rfl).facts
        go_upto_region 3 with fail
        go_quiet (fail)
        have HA2 := Lib.hid (HA1.out.drewN nq)
        clear HA1 c0 c1 c3
        obtain ⟨W4, hW4⟩ : ∃ W4, wc.drewN nq = W4 := ⟨_, rfl⟩
        rw [hW4] at HA2
        rw [hW4]
        clear hW4
        obtain ⟨c0, c1, -, c3, -⟩ := (HA2.out.y rfl).facts
        by_cases hbad : s[j].toNat = 42 ∨ s[j].toNat = 43 ∨ s[j].toNat = 63 ∨ s[j].toNat = 93
        · have hQ1 : Q.1 = false := by
            have hb := bad_piece (br := br) hg (by
              rcases hbad with h | h | h | h
              · exact .inl (UInt8.toNat_inj.1 h)
              · exact .inr (.inl (UInt8.toNat_inj.1 h))
              · exact .inr (.inr (.inl (UInt8.toNat_inj.1 h)))
              · exact .inr (.inr (.inr (UInt8.toNat_inj.1 h))))
            rw [← HG.out, hb]
            rfl
          have CF1 := Lib.hid (CF.out j _ (HA2.out.y rfl))
          clear HG hg CA CF HL h124 h41
          rcases hbad with h1 | h1 | h1 | h1
          all_goals
            go_upto_region 6 with (go_at_call 45; refine CF1.out.mono ?_; rintro e w1 ⟨rfl, hr1, ho1⟩)
            have HT : Hid (PcsAt b d s w w1 false 0 (m + 1) v n) := Lib.hid (HA2.out.onR hbN ho1 (fun e => by cases e) (fun _ => ⟨j, 2, j, by decide, by omega, hr1⟩))
            clear hr1 ho1 CF1 c0 c1 c3
            obtain ⟨cs, hcs, -⟩ := HT.out.p
            obtain ⟨cs0, hcs0⟩ := HT.out.r
            go_wp2_with (first
              | (refine wpList_loadR rfl _ rfl (w.heap.size + 1) rfl hcs ?_)
              | (refine storeA (.tmp 2) (.tmp 62) w.heap.size ⟨rfl, rfl⟩ rfl rfl rfl hcs0 hcs.2.1 hcs.2.2 ?_; intro W5 hb5 ho5 hs5))
            refine bodyPost_ret (v := .agg cs) (results_cell_row (p := 2) (ty := 66) hres _ _ w.heap.size _ cs (0, 0) _ rfl hb5.1 Try.underlying66 rfl (by rw [rn_size, hcs.2.1])) rfl ?_
            exact PcsAt.post (j := 0) (by show PcsAt b d s w _ Q.1 0 (m + 1) v n; rw [hQ1]; exact HT.out) (fun e => by rw [hQ1] at e; cases e) hbN ho5 hcs.2.1 hcs.2.2
        have q1 : ((s[j].toNat : Int) == 42) = false := by simp only [beq_eq_false_iff_ne, ne_eq]; omega
        have q2 : ((s[j].toNat : Int) == 43) = false := by simp only [beq_eq_false_iff_ne, ne_eq]; omega
        have q3 : ((s[j].toNat : Int) == 63) = false := by simp only [beq_eq_false_iff_ne, ne_eq]; omega
        have q4 : ((s[j].toNat : Int) == 93) = false := by simp only [beq_eq_false_iff_ne, ne_eq]; omega
        have CA1 := Lib.hid (CA.out j _ (HA2.out.y rfl) hkj hlt ⟨by omega, by omega, by omega, by omega, h124, h41⟩)
        obtain ⟨hl1, hl2, hl3⟩ := HL.out j hj
        have hp := pieceS_at s.data.toList br j
        obtain ⟨r, hr⟩ : ∃ r, atomS s.data.toList br j = r := ⟨_, rfl⟩
        rw [hr] at hp CA1 hl3
        clear hr
        obtain ⟨oka, na, ja⟩ := r
        obtain ⟨rp, hrp⟩ : ∃ r, pieceS s.data.toList br j = r := ⟨_, rfl⟩
        rw [hrp] at hp HG hl1 hl2
        clear hrp hbad hg CA HL CF
        obtain ⟨okp, np, jp⟩ := rp
        obtain ⟨rfl, hjp⟩ : okp = oka ∧ (oka = true → jp = if isAt s.data.toList ja 42 || isAt s.data.toList ja 43 || isAt s.data.toList ja 63 then ja + 1 else ja) := hp
        have HP := Lib.hid hjp
        clear hjp
        go_upto_region 8 with (first
          | (go_at_call 65; refine CA1.out.mono ?_; rintro e w1 ⟨⟨cs1, rfl, z1, z2⟩, ho1⟩; have HB := Lib.hid (HA2.out.out hbN ho1); obtain ⟨A, hA⟩ : ∃ A, w1.heap.size = A := ⟨_, rfl⟩; clear ho1)
          | (refine allocA A hA rfl rfl ?_; intro W6 hb6 hg6 hs6)
          | (refine storeA (.tmp 5) (.tmp 64) A ⟨rfl, rfl⟩ rfl rfl rfl hb6 z1 z2 ?_; intro W7 hb7 ho7 hs7
             have hvA : ∀ k, v.ownBlock = some k → k < A := fun k e => by have := (HB.out.l.lt k e).2; omega
             have hA2 : w.heap.size + 2 ≤ A := by have := HB.out.plt; omega
             have HC : Hid (PcsAt b d s w W7 okp ja (m + 1) v n ∧ RBx W7 A) := Lib.hid ⟨(HB.out.gr hbN hg6).onA hbN ho7 hA2 hvA, ⟨_, hb7⟩⟩
             clear hb6 hg6 hs6 hb7 ho7 HB HA2 CA1 c0 c1 c3))
        have HVA := Lib.hid hvA
        clear hvA
        simp only [Act.put, List.setIfInBounds_toArray, List.set_cons_succ, List.set_cons_zero]
        obtain ⟨t3, ht3⟩ : ∃ t3, (okp && decide (ja < s.size)) = t3 := ⟨_, rfl⟩
        go_cut [66] from 7 to 117 (fun s66 wx => s66 = .bool t3 ∧ Hid (PcsAt b d s w wx okp ja (m + 1) v n ∧ RBx wx A))
        case first =>
          cases okp
          · obtain ⟨j', e, bad, he, hj', hr⟩ := HC.out.1.x rfl
            have C1 := Lib.hid (more_any b j' d s e bad _ hr)
            clear hr
            go_wp2_with (go_at_call 59; refine C1.out.mono ?_; rintro e w2 ⟨rfl, n2, rfl⟩)
            go_meet
            exact ⟨by simp [← ht3], Lib.hid ⟨HC.out.1.drewN _, HC.out.2⟩⟩
          · have C1 := Lib.hid (more_any b ja d s 0 0 _ (HC.out.1.y rfl))
            go_wp2_with (go_at_call 59; refine C1.out.mono ?_; rintro e w2 ⟨rfl, n2, rfl⟩)
            go_meet
            exact ⟨by simp [← ht3], Lib.hid ⟨HC.out.1.drewN _, HC.out.2⟩⟩
        case rest =>
        obtain ⟨rfl, HD⟩ := hcut
        clear HC
        go_upto_if 66 with fail
        go_cut [] from 7 to 117 (fun wx => Hid (PcsAt b d s w wx okp jp (m + 1) v n ∧ RBx wx A))
        case first =>
          clear HG
          cases t3
          case true =>
            obtain ⟨rfl, hlt2⟩ : okp = true ∧ ja < s.size := by simpa using ht3
            clear ht3
            have n5 : (ja : Int) < (s.size : Int) := by omega
            have hg2 : s.data.toList[ja]? = some s[ja] := by rw [List.getElem?_eq_getElem (by simpa using hlt2)]; rfl
            have hat : ∀ x : UInt8, isAt s.data.toList ja x = decide (s[ja].toNat = x.toNat) := fun x => by unfold isAt; rw [hg2]; simp [← UInt8.toNat_inj]
            clear hg2
            obtain ⟨c0, c1, -⟩ := (HD.out.1.y rfl).facts
            go_upto_region 9 with fail
            go_quiet (fail)
            obtain ⟨W10, hW10⟩ : ∃ W10, wc.drewN nq = W10 := ⟨_, rfl⟩
            have HD1 : Hid (PcsAt b d s w W10 true ja (m + 1) v n) := Lib.hid (by rw [← hW10]; exact HD.out.1.drewN nq)
            obtain ⟨cA, hcA⟩ : RBx W10 A := by rw [← hW10]; exact HD.out.2
            rw [hW10]
            clear hW10 HD c0 c1
            by_cases e42 : s[ja].toNat = 42
            · have hjp : jp = ja + 1 := by rw [HP.out rfl, hat, hat, hat]; simp [e42]
              clear HP hat
              subst hjp
              go_wp2_with (first
                | (refine wpList_loadR rfl _ rfl A rfl hcA ?_)
                | (refine buildSliceA _ rfl (.tmp 78) rfl rfl rfl hcA.2.1 hcA.2.2 ?_; intro W8 hb8 hg8 hs8 hown8)
                | (refine wpList_build2 rfl _ _ rfl 4 rfl _ 1 1 rfl ?_)
                | (refine storeA (.tmp 5) (.tmp 80) A ⟨rfl, rfl⟩ rfl rfl rfl (hcA.gr hg8) (nodeC_size _ _) (nodeC_one _ rfl) ?_; intro W9 hb9 ho9 hs9
                   have H9 := Lib.hid ((HD1.out.gr hbN hg8).onA hbN ho9 hA2 HVA.out)
                   obtain ⟨c0, c1, -, -, -, f1, -⟩ := (H9.out.y rfl).facts))
              go_meet
              exact Lib.hid ⟨H9.out.step hbN (ja + 1) (m + 1), RBx.of ⟨_, hb9⟩ (Below.heap_setCell W9 _ _ _ (by show A ≠ b; omega))⟩
            have q42 : ((s[ja].toNat : Int) == 42) = false := by simp only [beq_eq_false_iff_ne, ne_eq]; omega
            by_cases e43 : s[ja].toNat = 43
            · have hjp : jp = ja + 1 := by rw [HP.out rfl, hat, hat, hat]; simp [e43]
              clear HP hat
              subst hjp
              go_wp2_with (first
                | (refine wpList_loadR rfl _ rfl A rfl hcA ?_)
                | (refine buildSliceA _ rfl (.tmp 90) rfl rfl rfl hcA.2.1 hcA.2.2 ?_; intro W8 hb8 hg8 hs8 hown8)
                | (refine wpList_build2 rfl _ _ rfl 5 rfl _ 1 1 rfl ?_)
                | (refine storeA (.tmp 5) (.tmp 92) A ⟨rfl, rfl⟩ rfl rfl rfl (hcA.gr hg8) (nodeC_size _ _) (nodeC_one _ rfl) ?_; intro W9 hb9 ho9 hs9
                   have H9 := Lib.hid ((HD1.out.gr hbN hg8).onA hbN ho9 hA2 HVA.out)
                   obtain ⟨c0, c1, -, -, -, f1, -⟩ := (H9.out.y rfl).facts))
              go_meet
              exact Lib.hid ⟨H9.out.step hbN (ja + 1) (m + 1), RBx.of ⟨_, hb9⟩ (Below.heap_setCell W9 _ _ _ (by show A ≠ b; omega))⟩
            have q43 : ((s[ja].toNat : Int) == 43) = false := by simp only [beq_eq_false_iff_ne, ne_eq]; omega
            by_cases e63 : s[ja].toNat = 63
            · have hjp : jp = ja + 1 := by rw [HP.out rfl, hat, hat, hat]; simp [e63]
              clear HP hat
              subst hjp
              go_wp2_with (first
                | (refine wpList_loadR rfl _ rfl A rfl hcA ?_)
                | (refine buildSliceA _ rfl (.tmp 102) rfl rfl rfl hcA.2.1 hcA.2.2 ?_; intro W8 hb8 hg8 hs8 hown8)
                | (refine wpList_build2 rfl _ _ rfl 6 rfl _ 1 1 rfl ?_)
                | (refine storeA (.tmp 5) (.tmp 104) A ⟨rfl, rfl⟩ rfl rfl rfl (hcA.gr hg8) (nodeC_size _ _) (nodeC_one _ rfl) ?_; intro W9 hb9 ho9 hs9
                   have H9 := Lib.hid ((HD1.out.gr hbN hg8).onA hbN ho9 hA2 HVA.out)
                   obtain ⟨c0, c1, -, -, -, f1, -⟩ := (H9.out.y rfl).facts))
              go_meet
              exact Lib.hid ⟨H9.out.step hbN (ja + 1) (m + 1), RBx.of ⟨_, hb9⟩ (Below.heap_setCell W9 _ _ _ (by show A ≠ b; omega))⟩
            have q63 : ((s[ja].toNat : Int) == 63) = false := by simp only [beq_eq_false_iff_ne, ne_eq]; omega
            have hjp : jp = ja := by rw [HP.out rfl, hat, hat, hat]; simp [e42, e43, e63]
            clear HP hat
            subst hjp
            go_wp2_with fail
            go_meet
            exact Lib.hid ⟨HD1.out, ⟨_, hcA⟩⟩
          cases okp
          · go_wp2_with fail
            go_meet
            exact Lib.hid ⟨HD.out.1.no _ (Nat.le_refl _), HD.out.2⟩
          · have hlt2 : ¬ ja < s.size := by simpa using ht3
            have hjp : jp = ja := by
              have e : ∀ x : UInt8, isAt s.data.toList ja x = false := fun x => by unfold isAt; rw [List.getElem?_eq_none (by simp; omega)]; rfl
              rw [HP.out rfl, e, e, e]
              rfl
            clear HP ht3
            subst hjp
            go_wp2_with fail
            go_meet
            exact HD
        case rest =>
        have HE := Lib.hid hcut.out
        clear HD hcut HP
        obtain ⟨f1, f2⟩ := HE.out.1.facts
        obtain ⟨cA, hcA⟩ := HE.out.2
        go_wp2_with (first
          | (refine wpList_loadR rfl _ rfl A rfl hcA ?_)
          | (refine buildSliceA _ rfl (.tmp 114) rfl rfl rfl hcA.2.1 hcA.2.2 ?_; intro W8 hb8 hg8 hs8 hown8
             have HE8 := Lib.hid (HE.out.1.gr hbN hg8))
          | (at_builtin; refine wpList_appR rfl (.tmp 113) (.tmp 115) rfl rfl rfl HE8.out.l rfl hb8 (by omega) (by have := HE8.out.plt; omega) ?_; intro v' W9 hown9 hgrow9
             obtain ⟨A', m', c', rfl⟩ := hown9.form
             obtain ⟨f3, f4, happ⟩ := HE8.out.app hbN hgrow9 hown9
             have HF := Lib.hid happ
             clear happ hown9 hgrow9))
        go_roundg f
        case measure => omega
        case rel =>
          refine ⟨.slice A' m' c', n + 1, ?_⟩
          cases okp
          · exact .inr ⟨by rw [← HG.out]; rfl, by omega, Lib.hid (HF.out.no 0 (Nat.le_refl _))⟩
          · exact .inl (Lib.hid ⟨jp, _, HF.out.yes 0, by have := hl2 rfl; omega, hl1, by have := hl2 rfl; omega, by have := hl2 rfl; omega, HG.out⟩)
    · obtain ⟨j, e, bad, he, hj, hr⟩ := HE.out.x rfl
      have C1 := Lib.hid (more_quiet hr false (by simp [he]))
      obtain ⟨c0, c1, -, c3, -⟩ := hr.facts
      have h1 : (e == 0) = false := by simpa using he
      clear hr
      go_upto_region 2 with fail
      go_quiet ((go_at_call 59; exact C1.out _))
      go_upto_region 20 with fail
      have HE2 := Lib.hid (HE.out.drewN nq)
      obtain ⟨cs, hcs, -⟩ := HE2.out.p
      obtain ⟨cs0, hcs0⟩ := HE2.out.r
      go_wp2_with (first
        | (refine wpList_loadR rfl _ rfl (w.heap.size + 1) rfl hcs ?_)
        | (refine storeA (.tmp 2) (.tmp 118) w.heap.size ⟨rfl, rfl⟩ rfl rfl rfl hcs0 hcs.2.1 hcs.2.2 ?_; intro W5 hb5 ho5 hs5))
      refine bodyPost_ret (v := .agg cs) (results_cell_row (p := 2) (ty := 66) hres _ _ w.heap.size _ cs (0, 0) _ rfl hb5.1 Try.underlying66 rfl (by rw [rn_size, hcs.2.1])) rfl ?_
      exact PcsAt.post (j := 0) (by show PcsAt b d s w _ Q.1 0 (m + 1) v n; rw [hq1]; exact HE2.out) (fun e => by rw [hq1] at e; cases e) hbN ho5 hcs.2.1 hcs.2.2
end Go.Proofs.Ytnlfndhgdeapeaa
