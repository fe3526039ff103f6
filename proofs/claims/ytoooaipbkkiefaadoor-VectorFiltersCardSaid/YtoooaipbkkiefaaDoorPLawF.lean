/- The walk of VectorFilters. -/
import Derived.Test.YtoooaipbkkiefaaDoorPNam
import Derived.Test.YtoooaipbkkiefaaDoorPSame
namespace Go.Proofs.YtoooaipbkkiefaaDoor.Pt
open Go.RowKit Go.Sort
set_option maxRecDepth 100000
set_option maxHeartbeats 8000000
attribute [local irreducible] wpQuiet

/-! ### a comparison and its opposite -/
def ntI (op : Int) : Int := if op = 5 then 6 else if op = 6 then 5 else if op = 7 then 10 else if op = 8 then 9 else if op = 9 then 8 else 7
theorem ord_some {a b : Nat} (ha : Fv.nanB a = false) (hb : Fv.nanB b = false) : ∃ o, FloatKind.f64.format.order a b = some o := by
  have na : ∀ c : Nat, Fv.nanB c = false → Flo.isNan c = false := by
    intro c hc
    cases e : Flo.isNan c
    · rfl
    · have := Flo.order_key c c
      rw [e] at this
      have h1 : Ieee.double.order c c = none := by simpa using this
      have h2 : FloatKind.f64.format.order c c = none := h1
      unfold Fv.nanB at hc
      rw [h2] at hc
      exact absurd hc (by decide)
  have := Flo.order_key a b
  rw [na a ha, na b hb] at this
  exact ⟨_, this⟩
theorem holds_not {op : Int} (h5 : 5 ≤ op) (h10 : op ≤ 10) {a b : Nat} (ha : Fv.nanB a = false) (hb : Fv.nanB b = false) : Fv.holdsB (ntI op) a b = !Fv.holdsB op a b := by
  obtain ⟨o, ho⟩ := ord_some ha hb
  rcases Fv.holds_rng ⟨h5, h10⟩ with rfl | rfl | rfl | rfl | rfl | rfl <;>
    (unfold Fv.holdsB ntI Fv.eqB Fv.gtB Fv.ltB; rw [ho]; cases o <;> rfl)
theorem sd_nan {left : Bool} {x y : Nat} (hx : Fv.nanB x = false) (hy : Fv.nanB y = false) : Fv.nanB (sdA left x y) = false ∧ Fv.nanB (sdB left x y) = false := by
  cases left
  · exact ⟨hy, hx⟩
  · exact ⟨hx, hy⟩
theorem sc_perm {op : Int} (h5 : 5 ≤ op) (h10 : op ≤ 10) {left : Bool} {x : Nat} {l : List Pt} (hx : Fv.nanB x = false) (hl : ∀ p ∈ l, Fv.nanB p.2 = false) : (scW op left x l ++ scW (ntI op) left x l).Perm l := by
  have e : scW (ntI op) left x l = l.filter fun p => !(Fv.holdsB op (sdA left x p.2) (sdB left x p.2)) := by
    unfold scW whP
    refine List.filter_congr fun p hp => ?_
    obtain ⟨h1, h2⟩ := sd_nan (left := left) hx (hl p hp)
    exact holds_not h5 h10 h1 h2
  rw [e]
  exact List.filter_append_perm _ l
theorem vec_perm {l r : List Pt} (h : vecB l = true) (p : r.Perm l) : norE r = 0 ∧ norV r = l.map canP := by
  obtain ⟨h1, h2⟩ := vec_ok h
  have ok : okP r = true := by
    unfold okP at h1 ⊢
    rw [List.all_eq_true] at h1 ⊢
    exact fun q hq => h1 q (p.mem_iff.1 hq)
  have nd : nodB r = true := by
    unfold nodB
    exact decide_eq_true ((p.map _).nodup_iff.2 h2.nodup)
  have h3 := norE_0 ok nd
  refine ⟨h3.1, h3.2.trans ?_⟩
  have hr : risP (l.map canP) := by
    unfold risP
    rw [List.pairwise_map]
    exact h2
  exact (ordP_of hr (p.symm.map _)).1.symm
theorem can_same (l : List Pt) : sameP (l.map canP) l = true := by
  refine sameP_of ?_
  rw [List.map_map]
  exact List.map_congr_left fun p _ => can_can p
theorem sc_all {op : Int} (h5 : 5 ≤ op) (h10 : op ≤ 10) (left : Bool) (x : Nat) (l : List Pt) : scV op x left false l = scW op left x l ∧ scE op x left false l = 0 := by
  have e1 : filB op false = true := by unfold filB; rw [decide_eq_true h5, decide_eq_true h10]; rfl
  have e2 : ¬ (op < 1 ∨ 10 < op) := by omega
  unfold scE scV
  rw [if_neg e2, if_neg e2, if_pos e1, if_pos e1]
  exact ⟨rfl, rfl⟩
theorem nt_rng (op : Int) : 5 ≤ ntI op ∧ ntI op ≤ 10 := by
  unfold ntI; repeat' split
  all_goals omega

/-! ### two kinds of rows are put together -/
theorem app_types {P : Program} {t t' e e' : TypeId} (ht : P.underlying t = some (.slice e)) (ht' : P.underlying t' = some (.slice e')) (ty : TypeId) (u v : Value) (W : World) :
    (Builtin.append_ #[t, t'] ty #[u, v]).run P W = (Builtin.append_ #[t, t] ty #[u, v]).run P W := by
  unfold Builtin.append_
  cases u <;> simp [run_underlying ht]
  case slice base n c => cases (sizeOf e).run P W <;> simp [Result.andThen, run_underlying ht']
theorem wpList_appX {P : Program} {S S' : TypeId} {ops : Array Oper} {rest : List Oper} {o : Oper} {a : Act} {W : World} {Q : Exit → Act → World → Prop} (hgd : o.guard = none) (s x : Operand)
    (ho : o.op = .call { callee := .builtin .append, args := #[s, x], argTypes := #[S, S'] }) (hty : o.type = S) {v x' : Value} (hs : a.eval s = v) (hx : a.eval x = x') {R : Value → World → Prop}
    (hr : ∃ v' W', (Builtin.append_ #[S, S'] S #[v, x']).run P W = .ok v' W' ∧ R v' W')
    (h : ∀ v' W', R v' W' → wpList P ops Q rest (a.put o.dst v') W') : wpList P ops Q (o :: rest) a W :=
  wpList_plain hgd fun _ hK => by
    obtain ⟨v', W', hr, h1⟩ := hr
    have hk := hK _ _ (h v' W' h1)
    unfold Oper.wp execOp
    simp only [ho, hty, resolve, invoke, builtin, Sem.run_bind, Sem.run_pure, Result.andThen_ok, List.map_toArray, List.map_cons, List.map_nil, hs, hx, hr]
    exact hk
theorem run_appX {W : World} {B : Nat} {v : Value} {l m : List Pc} {A : Option Addr} {c : Nat} (h : OwnT W B v l) (hs : At2 encT W A m) (hn : l.length + m.length ≤ 1099511627776) (hB : B ≤ W.heap.size) :
    ∃ v' W', (Builtin.append_ #[22, 25] 22 #[v, .slice A m.length c]).run Tryd.prog W = .ok v' W' ∧ OwnT W' B v' (l ++ m) ∧ W.grownBy W' v.ownBlock ∧ (v'.ownBlock = v.ownBlock ∨ v'.ownBlock = some W.heap.size) := by
  rw [app_types Tryd.underlying22 Tryd.underlying25]
  exact run_appR h hs hn hB

theorem walkFilters (A : Option Addr) (c : Nat) (l : List Pt) (op : Int) (x : Nat) (left : Bool) (w : World) (h : PtsAt w A l) (hw : WdP l) (hc : l.length ≤ c) (hcm : c ≤ maxLen) (ht : Fv.Tab w) (hn : Nms w) :
    Calls Tryd.prog 5 #[.slice A l.length c, .int .i64 op, .float .f64 x, .bool left] w fun e w' => e = .returned (.bool true) ∧ Gr w w' := by
  have HK := Lib.hid (known_any w ht hn)
  have HF := Lib.hid (fun W (g : Gr w W) => lawRight_any A l c W (h.gr g) hw (Nat.le_trans hc hcm))
  have HL := Lib.hid h; have HT := Lib.hid ht
  obtain ⟨v, hv⟩ : ∃ v, rgtV l = v := ⟨_, rfl⟩
  rw [hv] at HF
  clear h hw ht hn
  unfold maxLen at hcm
  cases v
  · clear hv
    go_enter Tryd.func5, Tryd.ntmps5
    go_wp2_with fail
    refine HK.out.mono ?_
    rintro e w1 ⟨rfl, g1⟩
    go_wp2_with fail
    refine (HF.out w1 g1).mono ?_
    rintro e w2 ⟨rfl, g2⟩
    go_wp2
    all_goals
      go_ret
      exact ⟨rfl, g1.trans g2⟩
  obtain ⟨hfew, hvec⟩ : fewV l = true ∧ vecB l = true := by unfold rgtV at hv; rwa [Bool.and_eq_true] at hv
  have hs := fewV_sm hfew
  have hlm : l.length ≤ 1000 := hs.1
  have HS := Lib.hid hs
  have HV := Lib.hid hvec
  obtain ⟨n, hln⟩ : ∃ n, l.length = n := ⟨_, rfl⟩
  have HN := Lib.hid hln
  rw [hln] at hlm HF hc ⊢
  clear hv hfew hvec
  by_cases h5 : op < 5
  · clear hln hs
    go_enter Tryd.func5, Tryd.ntmps5
    go_wp2_with fail
    refine HK.out.mono ?_
    rintro e w1 ⟨rfl, g1⟩
    go_wp2_with fail
    refine (HF.out w1 g1).mono ?_
    rintro e w2 ⟨rfl, g2⟩
    go_wp2
    all_goals
      go_ret
      exact ⟨rfl, g1.trans g2⟩
  by_cases h10 : 10 < op
  · clear hln hs
    go_enter Tryd.func5, Tryd.ntmps5
    go_wp2_with fail
    refine HK.out.mono ?_
    rintro e w1 ⟨rfl, g1⟩
    go_wp2_with fail
    refine (HF.out w1 g1).mono ?_
    rintro e w2 ⟨rfl, g2⟩
    go_wp2
    all_goals
      go_ret
      exact ⟨rfl, g1.trans g2⟩
  obtain ⟨b, hb⟩ : ∃ b, Fv.nanB x = b := ⟨_, rfl⟩
  have hx : (FloatKind.f64.format.order x x != some .eq) = b := hb
  cases b
  case true =>
    clear hln hs hb
    go_enter Tryd.func5, Tryd.ntmps5
    go_wp2_with fail
    refine HK.out.mono ?_
    rintro e w1 ⟨rfl, g1⟩
    go_wp2_with fail
    refine (HF.out w1 g1).mono ?_
    rintro e w2 ⟨rfl, g2⟩
    go_wp2
    all_goals
      go_ret
      exact ⟨rfl, g1.trans g2⟩
  case false =>
  have h5' : 5 ≤ op := by omega
  have h10' : op ≤ 10 := by omega
  have HB := Lib.hid hb
  have C1 := Lib.hid (fun W (g : Gr w W) => scaled_any op x left false A l c W (HL.out.gr g) hs (HT.out.gv g))
  have C2 := Lib.hid (fun W (g : Gr w W) => scaled_any (ntI op) x left false A l c W (HL.out.gr g) hs (HT.out.gv g))
  have S1 := Lib.hid (scV_sm hs op x left false)
  have S2 := Lib.hid (scV_sm hs (ntI op) x left false)
  have HP := Lib.hid (fun hl => sc_perm (left := left) (l := l) h5' h10' hb hl)
  have e1 := sc_all h5' h10' left x l
  have e2 := sc_all (nt_rng op).1 (nt_rng op).2 left x l
  rw [e1.1, e1.2] at C1
  rw [e2.1, e2.2] at C2
  rw [e1.1] at S1
  rw [e2.1] at S2
  obtain ⟨M1, hM1⟩ : ∃ M, scW op left x l = M := ⟨_, rfl⟩
  obtain ⟨M2, hM2⟩ : ∃ M, scW (ntI op) left x l = M := ⟨_, rfl⟩
  obtain ⟨n1, hn1⟩ : ∃ n, M1.length = n := ⟨_, rfl⟩
  obtain ⟨n2, hn2⟩ : ∃ n, M2.length = n := ⟨_, rfl⟩
  rw [hM1] at C1 S1 HP
  rw [hM2] at C2 S2 HP
  have hz1 : n1 ≤ 1000 := by rw [← hn1]; exact S1.out.1
  have hz2 : n2 ≤ 1000 := by rw [← hn2]; exact S2.out.1
  rw [hln] at C1 C2
  have HN1 := Lib.hid hn1; have HN2 := Lib.hid hn2
  clear hln hs hb e1 e2 hM1 hM2 hn1 hn2
  go_enter Tryd.func5, Tryd.ntmps5
  go_wp2_with fail
  refine HK.out.mono ?_
  rintro e w1 ⟨rfl, g1⟩
  go_wp2_with fail
  refine (HF.out w1 g1).mono ?_
  rintro e w2 ⟨rfl, g2⟩
  have G2 := Lib.hid (g1.trans g2)
  clear g1 g2 HK HF
  go_wp2
  go_loopw [9] (fun i9 wr => ∃ k : Nat, k ≤ n ∧ i9 = .int .i64 k ∧ Hid (∀ p ∈ l.take k, Fv.nanB p.2 = false) ∧ Hid (Gr w2 wr)) (fun i9 _ => n - (intOf i9).toNat)
  case atStart => exact ⟨0, Nat.zero_le _, rfl, Lib.hid (by simp), Lib.hid (Gr.refl _)⟩
  case round =>
    obtain ⟨k, hk, rfl, HA, hg⟩ := hrel
    have G3 := Lib.hid (G2.out.trans hg.out)
    by_cases hkl : k < n
    · have k3 : k < l.length := by rw [HN.out]; exact hkl
      obtain ⟨b1, o1, s1, m1, rfl, -, c1, -⟩ := (HL.out.gr G3.out).cell k3
      have htk : l.take (k + 1) = l.take k ++ [l[k]] := List.take_succ_eq_append_getElem k3
      obtain ⟨y, hy⟩ : ∃ y, l[k] = y := ⟨_, rfl⟩
      rw [hy] at c1 htk
      obtain ⟨b2, hb2⟩ : ∃ b, Fv.nanB y.2 = b := ⟨_, rfl⟩
      have hx2 : (FloatKind.f64.format.order y.2 y.2 != some .eq) = b2 := hb2
      have HB2 := Lib.hid hb2
      have HTK := Lib.hid htk
      clear hb2 hy htk k3
      have f1 : (k : Int) < (n : Int) := by omega
      have f2 : (0 : Int) ≤ (k : Int) := by omega
      cases b2
      · go_wp2_with fail
        go_quiet (fail)
        go_wp2
        go_roundw
        case rel => exact ⟨k + 1, by omega, by go_num, Lib.hid (by
          rw [HTK.out]
          intro p hp
          rcases List.mem_append.1 hp with h | h
          · exact HA.out p h
          · rw [List.mem_singleton.1 h]; exact HB2.out), Lib.hid (hg.out.drewN _)⟩
        case measure => simp [intOf]; omega
      · go_wp2_with fail
        go_quiet (fail)
        go_wp2
        go_ret
        exact ⟨rfl, G3.out.drewN _⟩
    · obtain rfl : k = n := by omega
      have HPM := Lib.hid (HP.out (by have := HA.out; rwa [← HN.out, List.take_length] at this))
      have hnn : n1 + n2 = k := by have := HPM.out.length_eq; rw [List.length_append, HN1.out, HN2.out, HN.out] at this; exact this
      have HNO := Lib.hid (vec_perm HV.out HPM.out)
      obtain ⟨wo, rfl⟩ : ∃ wo : World, wo = wr := ⟨_, rfl⟩
      clear HA hg G2 HP HPM
      go_upto_region 10 with fail
      go_cut [10] from 52 to 57 (fun s wx => s = .int .i64 (ntI op) ∧ Hid (Gr wo wx))
      case first =>
        have HO := Lib.hid (Fv.holds_rng ⟨h5', h10'⟩)
        clear h5 h10 h5' h10' HL HT HS HV HNO G3 C1 C2 S1 S2 HB
        rcases HO.out with rfl | rfl | rfl | rfl | rfl | rfl
        all_goals
          go_wp2
          go_meet
          exact ⟨rfl, Lib.hid ((Gr.refl _).alloc _ _)⟩
      case rest =>
      obtain ⟨rfl, HGC⟩ := hcut
      obtain ⟨w5, rfl⟩ : ∃ wa : World, wa = wc := ⟨_, rfl⟩
      have G5 := Lib.hid (G3.out.trans HGC.out)
      clear HGC G3
      go_wp2_with fail
      refine (C1.out _ G5.out).mono ?_
      rintro e w6 ⟨A1, c1, he, hp1, hc1, hm1, g6⟩
      rw [HN1.out] at he hc1
      subst he
      have P1 := Lib.hid hp1; have G6 := Lib.hid (G5.out.trans g6); clear hp1 g6 G5 C1
      go_wp2_with fail
      refine (C2.out _ G6.out).mono ?_
      rintro e w7 ⟨A2, c2, he, hp2, hc2, hm2, g7⟩
      rw [HN2.out] at he hc2
      subst he
      have Q1 := Lib.hid (P1.out.gr g7); have P2 := Lib.hid hp2; have G7 := Lib.hid (G6.out.trans g7); clear hp2 g7 G6 C2 P1
      have f1 : (n1 : Int) + (n2 : Int) = (k : Int) := by omega
      have f2 : IntKind.i64.wrap (k : Int) = (k : Int) := IntWalk.i64_in _ (by omega)
      obtain ⟨cs1, at1, r1⟩ := Q1.out
      obtain ⟨cs2, at2, r2⟩ := P2.out
      have z1 : cs1.length = n1 := r1.len.trans HN1.out
      have z2 : cs2.length = n2 := r2.len.trans HN2.out
      have ga : Gr w7 (w7.alloc (.cells #[] 42)) := (Gr.refl _).alloc _ _
      have HA1 := Lib.hid (run_appX (B := w7.heap.size) (own2_made (enc := encT) (T := 42) (W := w7) #[] 0 (Nat.le_refl _) (by unfold maxLen; omega) rfl) (c := c1) (at1.gr ga) (by rw [z1]; simp; omega) ga.size)
      rw [z1] at HA1
      have H1 := Lib.hid at1; have H2 := Lib.hid at2; have R1 := Lib.hid r1; have R2 := Lib.hid r2; have Z1 := Lib.hid z1; have Z2 := Lib.hid z2; have GA := Lib.hid ga
      clear at1 at2 r1 r2 z1 z2 ga Q1 P2
      go_upto_region 15 with fail
      go_wp2_with
        (first
            | (at_builtin
               refine wpList_appX rfl (.tmp 88) (.tmp 89) (by rfl) (by rfl) (by rfl) (by rfl) HA1.out ?_
               rintro v8 w8 ⟨ho8, hg8, hv8⟩)
            | (at_builtin
               have g8 : Gr w7 w8 := GA.out.grown hg8 (fun q hq => by
                 have hq' : some w7.heap.size = some q := hq
                 have := Option.some.inj hq'
                 omega)
               have HA2 : ∃ v' W', (Builtin.append_ #[22, 25] 22 #[v8, .slice A2 n2 c2]).run Tryd.prog w8 = .ok v' W' ∧ OwnT W' w7.heap.size v' ([] ++ cs1 ++ cs2) ∧ w8.grownBy W' v8.ownBlock ∧ (v'.ownBlock = v8.ownBlock ∨ v'.ownBlock = some w8.heap.size) := by
                 have := run_appX ho8 (c := c2) (H2.out.gr g8) (by rw [Z2.out]; simp [Z1.out]; omega) g8.size
                 rw [Z2.out] at this
                 exact this
               refine wpList_appX rfl (.tmp 90) (.tmp 91) (by rfl) (by rfl) (by rfl) (by rfl) HA2 ?_
               rintro v9 w9 ⟨ho9, hg9, hv9⟩
               have g9 : Gr w7 w9 := g8.grown hg9 (fun q hq => (ho8.lt hq).1)
               obtain ⟨A9, c9, rfl, at9, -, -, -⟩ := ho9.form (fun _ => rfl)
               have ez : ([] ++ cs1 ++ cs2).length = k := by simp [Z1.out, Z2.out]; omega
               have pts9 : PtsAt w9 A9 (M1 ++ M2) := ⟨[] ++ cs1 ++ cs2, at9, by rw [List.nil_append]; exact (R1.out.gr g9).append (R2.out.gr g9)⟩
               have ez2 : (M1 ++ M2).length = k := by rw [List.length_append, HN1.out, HN2.out]; exact hnn
               have CN := normal_any A9 (M1 ++ M2) c9 w9 pts9 ⟨by rw [ez2]; exact hlm, fun p hp => by
                 rcases List.mem_append.1 hp with h | h
                 · exact S1.out.2 p h
                 · exact S2.out.2 p h⟩ (HT.out.gv (G7.out.trans g9))
               rw [ez2, HNO.out.1, HNO.out.2] at CN
               rw [ez]
               have HCN := Lib.hid CN
               have G9 := Lib.hid (G7.out.trans g9)
               clear CN ez ez2 pts9 at9 ho9 hg9 hv9 ho8 hg8 hv8 HA2 g8 g9 HA1 GA H1 H2 R1 R2 Z1 Z2 G7))
      go_wp2_with fail
      refine HCN.out.mono ?_
      rintro e w10 ⟨A10, c10, he, hp10, -, -, g10⟩
      have ez : (l.map canP).length = k := by rw [List.length_map]; exact HN.out
      rw [ez] at he
      subst he
      have CS := vsame_any A10 A (l.map canP) l c10 c w10 hp10 (HL.out.gr (G9.out.trans g10)) ⟨by rw [ez]; exact hlm, fun p hp => by
        obtain ⟨q, hq, rfl⟩ := List.mem_map.1 hp
        exact HS.out.2 q hq⟩ HS.out (HT.out.gv (G9.out.trans g10))
      rw [ez, HN.out, can_same] at CS
      have HCS := Lib.hid CS
      have G10 := Lib.hid (G9.out.trans g10)
      clear CS ez hp10 g10
      go_wp2_with fail
      refine HCS.out.mono ?_
      rintro e w11 ⟨rfl, g11⟩
      go_wp2
      go_ret
      exact ⟨rfl, G10.out.trans g11⟩
end Go.Proofs.YtoooaipbkkiefaaDoor.Pt
