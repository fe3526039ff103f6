/- The library's stable sort over samples: swaps, rotations. -/
import Derived.Test.YtllhkegefinlbaaGreatDoorGSm
import Derived.Test.YtllhkegefinlbaaGreatDoorGRCh
namespace Go.Proofs.YtllhkegefinlbaaGreatDoor.Pt
open Go.RowKit
set_option maxRecDepth 100000
set_option maxHeartbeats 1000000

/-- rows of two kinds lie in two blocks -/
theorem row_ne {T T' s s' B B' n n' : Nat} {W : World} {v v' : Value} {cs cs' : List Value} (h : W.ownsRow B T s v n cs) (h' : W.ownsRow B' T' s' v' n' cs') (hT : T ≠ T') : v.ownBlock = none ∨ v.ownBlock ≠ v'.ownBlock := by
  rcases h.2 with ⟨rfl, -⟩ | ⟨g, cap, cur, rfl, -, hg, -⟩
  · exact .inl rfl
  · refine .inr fun e => ?_
    rcases h'.2 with ⟨rfl, -⟩ | ⟨g', cap', cur', rfl, -, hg', -⟩
    · cases e
    · simp only [Value.ownBlock, Option.some.injEq] at e
      subst e
      rw [hg] at hg'
      injection hg' with e
      injection e with e1 e2 e3
      exact hT e2
/-- out, done -/
structure RAg (w W : World) (D : Nat) (bs : List Bool) (v : Value) (cs : List Pc) (l : List Pt) : Prop where
  p : PSt w W v cs l
  d : OwnB W w.heap.size (.slice (some ⟨D, 0, none⟩) bs.length bs.length) bs
  off : ∀ (k : Nat) (c : Pc) (q : Pt), cs[k]? = some c → l[k]? = some q → 0 < q.1.length → ∀ b, c.1.v.ownBlock = some b → b ≠ D
section
variable {w W W' : World} {D : Nat} {bs : List Bool} {v v' : Value} {cs ds : List Pc} {l r : List Pt}
theorem RAg.hD (h : RAg w W D bs v cs l) : w.heap.size ≤ D ∧ D < W.heap.size := Own1.lt h.d rfl
theorem RAg.vd (h : RAg w W D bs v cs l) : v.ownBlock ≠ some D := by
  rcases row_ne h.p.row h.d (by decide) with e | e
  · rw [e]; simp
  · exact e
theorem RAg.gr (h : RAg w W D bs v cs l) (g : Gr W W') : RAg w W' D bs v cs l := ⟨h.p.gr g, h.d.gr g, h.off⟩
/-- another block was written -/
theorem RAg.away (h : RAg w W D bs v cs l) {row : Option Nat} (g : W.grownBy W' row) (h1 : ∀ k, row = some k → w.heap.size ≤ k ∧ k ≠ D ∧ v.ownBlock ≠ some k ∧ ∀ (i : Nat) (c : Pc) (q : Pt), cs[i]? = some c → l[i]? = some q → 0 < q.1.length → c.1.v.ownBlock ≠ some k) : RAg w W' D bs v cs l := by
  have hne : v.ownBlock = none ∨ v.ownBlock ≠ row := by
    cases row with
    | none => cases v.ownBlock <;> simp
    | some k => exact .inr (h1 k rfl).2.2.1
  refine ⟨⟨h.p.g.grown g (fun k hk => (h1 k hk).1), h.p.row.kept g hne, ⟨h.p.rds.len, fun k c q hc hq => ⟨(h.p.rds.rd k c q hc hq).1, (h.p.rds.rd k c q hc hq).2.only g (fun h0 b hb e => (h1 b e).2.2.2 k c q hc hq h0 hb)⟩⟩, h.p.off⟩, h.d.kept g ?_, h.off⟩
  refine .inr fun e => ?_
  exact (h1 D e.symm).2.1 rfl
/-- a mark is set -/
theorem RAg.mark (h : RAg w W D bs v cs l) {j : Nat} (hj : j < bs.length) (b : Bool) :
    W.cell? ⟨D, j, none⟩ = some (.bool bs[j]) ∧ W.frozen? ⟨D, j, none⟩ = false ∧ RAg w (W.setCell ⟨D, j, none⟩ (.bool b)) D (bs.set j b) v cs l ∧ W.grownBy (W.setCell ⟨D, j, none⟩ (.bool b)) (some D) := by
  obtain ⟨c1, c2⟩ := Own1.cellAt h.d rfl hj
  obtain ⟨s1, s2⟩ := Own1.stored h.d rfl j b
  refine ⟨c1, c2, ⟨⟨h.p.g.setCell h.hD.1 _, h.p.row.kept s2 (.inr h.vd), ⟨h.p.rds.len, fun k c q hc hq => ⟨(h.p.rds.rd k c q hc hq).1, (h.p.rds.rd k c q hc hq).2.only s2 (fun h0 a ha e => h.off k c q hc hq h0 a ha (by injection e with e; exact e.symm))⟩⟩, h.p.off⟩, ?_, h.off⟩, s2⟩
  rw [List.length_set]
  exact s1
/-- what is appended to out -/
theorem RAg.app (h : RAg w W D bs v cs l) (hr : Rds W ds r) (ho1 : ∀ (k : Nat) (c : Pc) (p : Pt), ds[k]? = some c → r[k]? = some p → 0 < p.1.length → ∀ b, c.1.v.ownBlock = some b → v.ownBlock ≠ some b ∧ b ≠ D)
    (ho : OwnT W' w.heap.size v' (cs ++ ds)) (hg : W.grownBy W' v.ownBlock) (hv : v'.ownBlock = v.ownBlock ∨ v'.ownBlock = some W.heap.size) : RAg w W' D bs v' (cs ++ ds) (l ++ r) := by
  refine ⟨h.p.app hr (fun k c p hc hp h0 b hb => (ho1 k c p hc hp h0 b hb).1) ho hg hv, h.d.kept hg (.inr fun e => h.vd e.symm), fun k c p hc hp h0 b hb => ?_⟩
  by_cases hk : k < cs.length
  · rw [List.getElem?_append_left hk] at hc
    rw [List.getElem?_append_left (by rw [← h.p.rds.len]; exact hk)] at hp
    exact h.off k c p hc hp h0 b hb
  · rw [List.getElem?_append_right (by omega)] at hc
    rw [List.getElem?_append_right (by rw [← h.p.rds.len]; omega), ← h.p.rds.len] at hp
    exact (ho1 _ c p hc hp h0 b hb).2
end
/-- within a round: the group's points and values, its labels -/
structure RIn (w W : World) (B D : Nat) (bs : List Bool) (v : Value) (cs : List Pc) (l : List Pt) (vi : Value) (ci : List Pc) (ps : List Pt) (vv : Value) (qs : List Nat) (K : Sl) (x : List Lb) : Prop where
  a : RAg w W D bs v cs l
  hD : D < B
  hB : B ≤ W.heap.size
  hw : w.heap.size ≤ B
  vlt : ∀ k, v.ownBlock = some k → k < B
  olt : ∀ (i : Nat) (c : Pc) (q : Pt), cs[i]? = some c → l[i]? = some q → 0 < q.1.length → ∀ b, c.1.v.ownBlock = some b → b < B
  row : OwnT W B vi ci
  rds : Rds w ci ps
  vals : OwnF W B vv qs
  key : LabV W K x
  koff : 0 < x.length → ∀ b, K.v.ownBlock = some b → b < B ∧ b ≠ D ∧ v.ownBlock ≠ some b
section
variable {w W W' : World} {B D : Nat} {bs : List Bool} {v : Value} {cs : List Pc} {l : List Pt} {vi : Value} {ci : List Pc} {ps : List Pt} {vv : Value} {qs : List Nat} {K : Sl} {x : List Lb}
theorem RIn.start (h : RAg w W D bs v cs l) (hk : LabV W K x) (ho : 0 < x.length → ∀ b, K.v.ownBlock = some b → b < W.heap.size ∧ b ≠ D ∧ v.ownBlock ≠ some b) : RIn w W W.heap.size D bs v cs l (.slice none 0 0) [] [] (.slice none 0 0) [] K x :=
  ⟨h, h.hD.2, Nat.le_refl _, h.p.g.size, fun _ hk => (h.p.row.lt hk).2, fun i c q hc hq h0 _ hb => (h.p.rds.rd i c q hc hq).2.lt h0 hb, Own2.nil _ _, Rds.nil _, Own1.nil _ _, hk, ho⟩
theorem RIn.gr (h : RIn w W B D bs v cs l vi ci ps vv qs K x) (g : Gr W W') : RIn w W' B D bs v cs l vi ci ps vv qs K x :=
  ⟨h.a.gr g, h.hD, Nat.le_trans h.hB g.size, h.hw, h.vlt, h.olt, h.row.gr g, h.rds, h.vals.gr g, h.key.gr g, h.koff⟩
theorem RIn.mark (h : RIn w W B D bs v cs l vi ci ps vv qs K x) {j : Nat} (hj : j < bs.length) (b : Bool) :
    W.cell? ⟨D, j, none⟩ = some (.bool bs[j]) ∧ W.frozen? ⟨D, j, none⟩ = false ∧ RIn w (W.setCell ⟨D, j, none⟩ (.bool b)) B D (bs.set j b) v cs l vi ci ps vv qs K x := by
  obtain ⟨m1, m2, m3, m4⟩ := h.a.mark hj b
  have hD := h.hD
  have n1 : ∀ {u : Value}, (∀ k, u.ownBlock = some k → B ≤ k ∧ k < W.heap.size) → (u.ownBlock = none ∨ u.ownBlock ≠ some D) := fun {u} hu => by
    refine .inr fun e => ?_
    have := (hu D e).1
    omega
  exact ⟨m1, m2, m3, hD, Nat.le_trans h.hB m4.size, h.hw, h.vlt, h.olt, h.row.kept m4 (n1 fun k hk => h.row.lt hk), h.rds, h.vals.kept m4 (n1 fun k hk => h.vals.lt hk), h.key.only m4 (fun h0 a ha e => (h.koff h0 a ha).2.1 (by injection e with e; exact e.symm)), h.koff⟩
theorem RIn.away (h : RIn w W B D bs v cs l vi ci ps vv qs K x) {row : Option Nat} (g : W.grownBy W' row) (hr : ∀ k, row = some k → B ≤ k) : RAg w W' D bs v cs l ∧ LabV W' K x := by
  have hD := h.hD
  refine ⟨h.a.away g fun k hk => ?_, h.key.only g (fun h0 a ha e => ?_)⟩
  · have hb := hr k hk
    refine ⟨Nat.le_trans h.hw hb, by omega, fun e => by have := h.vlt k e; omega, fun i c q hc hq h0 e => by have := h.olt i c q hc hq h0 k e; omega⟩
  · have := hr a e
    have := (h.koff h0 a ha).1
    omega
/-- a point more -/
theorem RIn.appI (h : RIn w W B D bs v cs l vi ci ps vv qs K x) {vi' : Value} {c : Pc} {p : Pt} (hr : Rd w c p) (ho : OwnT W' B vi' (ci ++ [c])) (hg : W.grownBy W' vi.ownBlock) : RIn w W' B D bs v cs l vi' (ci ++ [c]) (ps ++ [p]) vv qs K x := by
  obtain ⟨a1, a2⟩ := h.away hg (fun k hk => (h.row.lt hk).1)
  exact ⟨a1, h.hD, Nat.le_trans h.hB hg.size, h.hw, h.vlt, h.olt, ho, h.rds.append (Rds.one hr), h.vals.kept hg (row_ne h.vals h.row (by decide)), a2, h.koff⟩
/-- a value more -/
theorem RIn.appV (h : RIn w W B D bs v cs l vi ci ps vv qs K x) {vv' : Value} {y : Nat} (ho : OwnF W' B vv' (qs ++ [y])) (hg : W.grownBy W' vv.ownBlock) : RIn w W' B D bs v cs l vi ci ps vv' (qs ++ [y]) K x := by
  obtain ⟨a1, a2⟩ := h.away hg (fun k hk => (h.vals.lt hk).1)
  exact ⟨a1, h.hD, Nat.le_trans h.hB hg.size, h.hw, h.vlt, h.olt, h.row.kept hg (row_ne h.row h.vals (by decide)), h.rds, ho, a2, h.koff⟩
end
end Go.Proofs.YtllhkegefinlbaaGreatDoor.Pt
namespace Go.Proofs.YtllhkegefinlbaaGreatDoor.Gs
open Go.RowKit Go.Sort
set_option maxRecDepth 100000
variable {tp : Bool} {ca : Nat}
set_option maxHeartbeats 4000000

/-- the row under way: it is so now, and nothing else of what was there has changed -/
structure Rw (w W : World) (b o : Nat) (l : List (Po tp)) : Prop where
  r : RowP W b o l
  g : Only w W b
theorem Rw.refl {w : World} {b o : Nat} {l : List (Po tp)} (h : RowP w b o l) : Rw w w b o l := ⟨h, Only.refl _ _⟩
theorem Rw.trans {a w W : World} {b o : Nat} {l m : List (Po tp)} (h : Rw a w b o l) (g : Rw w W b o m) : Rw a W b o m := ⟨g.r, h.g.trans g.g⟩
theorem Rw.drew {w W : World} {b o : Nat} {l : List (Po tp)} (h : Rw w W b o l) : Rw w W.drew b o l := ⟨h.r, h.g.drewN 1⟩
theorem Rw.gr {w W W' : World} {b o : Nat} {l : List (Po tp)} (h : Rw w W b o l) (g : Gr W W') : Rw w W' b o l := ⟨h.r.gr g, h.g.gr g⟩
theorem Rw.swap {w W : World} {b o : Nat} {l : List (Po tp)} (h : Rw w W b o l) {p q : Nat} (hp : p < l.length) (hq : q < l.length) :
    Rw w ((((W.setCell ⟨b, o + p * 2, none⟩ (.slice (l[q]).sa (l[q]).sn (l[q]).sc)).setCell ⟨b, o + p * 2 + 1, none⟩ (.float .f64 (l[q]).fb)).setCell ⟨b, o + q * 2, none⟩ (.slice (l[p]).sa (l[p]).sn (l[p]).sc)).setCell ⟨b, o + q * 2 + 1, none⟩ (.float .f64 (l[p]).fb)) b o (swp2 l p q) :=
  ⟨h.r.swap hp hq, (((h.g.setCell (p := ⟨b, o + p * 2, none⟩) rfl _).setCell (p := ⟨b, o + p * 2 + 1, none⟩) rfl _).setCell (p := ⟨b, o + q * 2, none⟩) rfl _).setCell (p := ⟨b, o + q * 2 + 1, none⟩) rfl _⟩

theorem swapRange_any (fv : Value) (b o c x y n : Nat) (l : List (Po tp)) (w : World) (h : RowP w b o l) (hl : l.length ≤ 1099511627776) (hx : x + n ≤ l.length) (hy : y + n ≤ l.length) :
    Calls Tryz.prog 107 #[.slice (some ⟨b, o, none⟩) l.length c, .int .i64 x, .int .i64 y, .int .i64 n, fv] w fun e w' => e = .returned (.tuple #[]) ∧ Rw w w' b o (swpR x y n l) := by
  have H := Lib.hid (Rw.refl h)
  clear h
  go_enter Tryz.func107, Tryz.ntmps107
  go_wp2
  go_loopw [10] (fun i wr => ∃ k : Nat, k ≤ n ∧ i = .int .i64 k ∧ Hid (Rw w wr b o (swpR x y k l))) (fun i _ => n - (intOf i).toNat)
  case atStart => exact ⟨0, Nat.zero_le _, rfl, H⟩
  case round =>
    obtain ⟨k, hk, rfl, HR⟩ := hrel
    by_cases hlt : k < n
    · have hp : x + k < (swpR x y k l).length := by rw [swpR_len]; omega
      have hq : y + k < (swpR x y k l).length := by rw [swpR_len]; omega
      obtain ⟨c1, c2, f1, f2⟩ := HR.out.r.cell hp
      obtain ⟨d1, d2, g1, g2⟩ := HR.out.r.cell hq
      have HN := Lib.hid ((HR.out.drew).swap hp hq)
      obtain ⟨e1, e2, i1, i2⟩ := (HR.out.r.store hp (swpR x y k l)[y + k]).cell (k := y + k) (by simpa using hq)
      obtain ⟨u, hu⟩ : ∃ u, (swpR x y k l)[x + k] = u := ⟨_, rfl⟩
      obtain ⟨v, hv⟩ : ∃ v, (swpR x y k l)[y + k] = v := ⟨_, rfl⟩
      rw [hu] at c1 c2 HN
      rw [hv] at d1 d2 HN e1 e2 i1 i2
      generalize ((swpR x y k l).set (x + k) v)[y + k]'(by simpa using hq) = z at e1 e2
      clear hu hv hp hq HR
      have p1 : (0 : Int) ≤ (x : Int) + k := by omega
      have p2 : (x : Int) + k < (l.length : Int) := by omega
      have p3 : (0 : Int) ≤ (y : Int) + k := by omega
      have p4 : (y : Int) + k < (l.length : Int) := by omega
      have p5 : ((x : Int) + k).toNat = x + k := by omega
      have p6 : ((y : Int) + k).toNat = y + k := by omega
      have w1 : IntKind.i64.wrap ((x : Int) + k) = (x : Int) + k := by rw [IntKind.wrap_i64]; omega
      have w2 : IntKind.i64.wrap ((y : Int) + k) = (y : Int) + k := by rw [IntKind.wrap_i64]; omega
      have k1 : (k : Int) < (n : Int) := by omega
      go_wp2_with fail
      go_big_region
      all_goals go_wp2
      go_roundw
      case rel => exact ⟨k + 1, by omega, by go_num, HN⟩
      case measure => simp [intOf]; omega
    · obtain rfl : k = n := by omega
      go_wp2
      go_end0
      exact ⟨rfl, HR.out⟩
theorem swapParts_any (fv : Value) (b o c n x y k : Nat) (P X M Y S : List (Po tp)) (w : World) (h : RowP w b o (P ++ (X ++ (M ++ (Y ++ S))))) (hn : P.length + (X.length + (M.length + (Y.length + S.length))) = n) (hl : n ≤ 1099511627776) (hx : P.length = x) (hy : x + X.length + M.length = y) (hX : X.length = k) (hY : Y.length = k) :
    Calls Tryz.prog 107 #[.slice (some ⟨b, o, none⟩) n c, .int .i64 x, .int .i64 y, .int .i64 k, fv] w fun e w' => e = .returned (.tuple #[]) ∧ Rw w w' b o (P ++ (Y ++ (M ++ (X ++ S)))) := by
  have hlen : (P ++ (X ++ (M ++ (Y ++ S)))).length = n := by simp; omega
  have := swapRange_any fv b o c x y k _ w h (by omega) (by omega) (by omega)
  rw [hlen] at this
  refine this.mono fun e w' ⟨he, hr⟩ => ⟨he, ?_⟩
  have e1 := swpR_parts P X M Y S (by omega)
  rw [hX, hx] at e1
  rw [show x + k + M.length = y by omega] at e1
  rwa [e1] at hr

/-- two neighbours of whatever lengths change places -/
theorem rotate_any (fv : Value) (b o c n x m y : Nat) (P U V S : List (Po tp)) (w : World) (h : RowP w b o (P ++ (U ++ (V ++ S)))) (hn : P.length + (U.length + (V.length + S.length)) = n) (hl : n ≤ 1099511627776) (hx : P.length = x) (hm : x + U.length = m) (hy : m + V.length = y) (hU : 0 < U.length) (hV : 0 < V.length) :
    Calls Tryz.prog 104 #[.slice (some ⟨b, o, none⟩) n c, .int .i64 x, .int .i64 m, .int .i64 y, fv] w fun e w' => e = .returned (.tuple #[]) ∧ Rw w w' b o (P ++ (V ++ (U ++ S))) := by
  have H := Lib.hid (Rw.refl h)
  have CS := Lib.hid (fun x y k P X M Y S w h => swapParts_any (tp := tp) fv b o c n x y k P X M Y S w h)
  have b1 : (y : Int) - m = (V.length : Int) := by omega
  have b2 : (m : Int) - x = (U.length : Int) := by omega
  obtain ⟨F, hF⟩ : ∃ F, P ++ (V ++ (U ++ S)) = F := ⟨_, rfl⟩
  have HF := Lib.hid hF
  rw [hF]
  clear h hF
  go_enter Tryz.func104, Tryz.ntmps104
  go_wp2
  go_loopw [10, 11] (fun vi vj wr => ∃ (i j p : Nat) (P X Y S : List (Po tp)), vi = .int .i64 i ∧ vj = .int .i64 j ∧ 0 < i ∧ 0 < j ∧ p + i = m ∧ p + (i + j) ≤ n ∧ Hid (P.length = p ∧ X.length = i ∧ Y.length = j ∧ p + (i + (j + S.length)) = n) ∧ Hid (P ++ (Y ++ (X ++ S)) = F) ∧ Hid (Rw w wr b o (P ++ (X ++ (Y ++ S))))) (fun vi vj _ => (intOf vi).toNat + (intOf vj).toNat)
  case atStart => exact ⟨U.length, V.length, x, P, U, V, S, by go_num, by go_num, hU, hV, by omega, by omega, Lib.hid ⟨hx, rfl, rfl, by omega⟩, HF, H⟩
  case round =>
    clear H HF hU hV hn hm hx hy b1 b2
    obtain ⟨i, j, p, P, X, Y, S, rfl, rfl, hi, hj, hm, hn, HL, HF, HR⟩ := hrel
    have d1 : ((m : Int) - (i : Int)) = (p : Int) := by omega
    by_cases hne : i = j
    · subst hne
      have C1 := Lib.hid (CS.out p m i P X [] Y S _ HR.out.r (by obtain ⟨h1, h2, h3, h4⟩ := HL.out; simp; omega) hl HL.out.1 (by obtain ⟨h1, h2, h3, h4⟩ := HL.out; simp; omega) HL.out.2.1 HL.out.2.2.1)
      clear CS
      simp only [List.nil_append] at C1
      go_wp2_with fail
      refine C1.out.mono ?_
      rintro e w1 ⟨rfl, hr⟩
      have HN := Lib.hid (HR.out.trans hr)
      rw [HF.out] at HN
      clear hr
      go_wp2
      go_end0
      exact ⟨rfl, HN.out⟩
    · have n1 : ((i : Int) != (j : Int)) = true := by simp; omega
      by_cases hgt : j < i
      · obtain ⟨X1, X2, hX, hX1⟩ : ∃ X1 X2, X = X1 ++ X2 ∧ X1.length = j := ⟨X.take j, X.drop j, (List.take_append_drop _ _).symm, by obtain ⟨h1, h2, h3, h4⟩ := HL.out; simp; omega⟩
        obtain ⟨q, hq⟩ : ∃ q, i = q + j := ⟨i - j, by omega⟩
        have HX : Hid (X = X1 ++ X2 ∧ X1.length = j ∧ X2.length = q) := Lib.hid ⟨hX, hX1, by obtain ⟨h1, h2, h3, h4⟩ := HL.out; rw [hX, List.length_append] at h2; omega⟩
        have C1 := Lib.hid (CS.out p m j P X1 X2 Y S _ (by have := HR.out.r; rw [HX.out.1] at this; simpa only [List.append_assoc] using this) (by obtain ⟨h1, h2, h3, h4⟩ := HL.out; obtain ⟨g1, g2, g3⟩ := HX.out; omega) hl HL.out.1 (by obtain ⟨h1, h2, h3, h4⟩ := HL.out; obtain ⟨g1, g2, g3⟩ := HX.out; omega) hX1 HL.out.2.2.1)
        clear CS hX hX1
        have n2 : (j : Int) < (i : Int) := by omega
        have d3 : (i : Int) - j = (q : Int) := by omega
        have HI : Hid (¬ i = j ∧ j < i ∧ i = q + j) := Lib.hid ⟨hne, hgt, hq⟩
        clear hne hgt hq
        go_wp2_with fail
        refine C1.out.mono ?_
        rintro e w1 ⟨rfl, hr⟩
        have HN := Lib.hid (HR.out.trans hr)
        clear hr
        go_wp2
        obtain ⟨hne, hgt, hq⟩ := HI.out
        go_roundw
        case rel => exact ⟨q, j, p + j, P ++ Y, X2, X1, S, by go_num, rfl, by omega, hj, by omega, by omega, Lib.hid (by obtain ⟨h1, h2, h3, h4⟩ := HL.out; obtain ⟨g1, g2, g3⟩ := HX.out; simp; omega), Lib.hid (by have := HF.out; rw [HX.out.1] at this; simpa only [List.append_assoc] using this), Lib.hid (by have := HN.out; simpa only [List.append_assoc] using this)⟩
        case measure => simp [intOf]; omega
      · obtain ⟨q, hq⟩ : ∃ q, j = q + i := ⟨j - i, by omega⟩
        obtain ⟨Y1, Y2, hY, hY1⟩ : ∃ Y1 Y2, Y = Y1 ++ Y2 ∧ Y1.length = q := ⟨Y.take q, Y.drop q, (List.take_append_drop _ _).symm, by obtain ⟨h1, h2, h3, h4⟩ := HL.out; simp; omega⟩
        have HX : Hid (Y = Y1 ++ Y2 ∧ Y1.length = q ∧ Y2.length = i) := Lib.hid ⟨hY, hY1, by obtain ⟨h1, h2, h3, h4⟩ := HL.out; rw [hY, List.length_append] at h3; omega⟩
        have C1 := Lib.hid (CS.out p (m + q) i P X Y1 Y2 S _ (by have := HR.out.r; rw [HX.out.1] at this; simpa only [List.append_assoc] using this) (by obtain ⟨h1, h2, h3, h4⟩ := HL.out; obtain ⟨g1, g2, g3⟩ := HX.out; omega) hl HL.out.1 (by obtain ⟨h1, h2, h3, h4⟩ := HL.out; obtain ⟨g1, g2, g3⟩ := HX.out; omega) HL.out.2.1 HX.out.2.2)
        clear CS hY hY1
        have n2 : ¬ (j : Int) < (i : Int) := by omega
        have d2 : ((m : Int) + (j : Int)) - i = ((m + q : Nat) : Int) := by omega
        have d3 : (j : Int) - i = (q : Int) := by omega
        have HI : Hid (¬ i = j ∧ ¬ j < i ∧ j = q + i) := Lib.hid ⟨hne, hgt, hq⟩
        clear hne hgt hq
        go_wp2_with fail
        refine C1.out.mono ?_
        rintro e w1 ⟨rfl, hr⟩
        have HN := Lib.hid (HR.out.trans hr)
        clear hr
        go_wp2
        obtain ⟨hne, hgt, hq⟩ := HI.out
        go_roundw
        case rel => exact ⟨i, q, p, P, Y2, Y1, X ++ S, rfl, by go_num, hi, by omega, hm, by omega, Lib.hid (by obtain ⟨h1, h2, h3, h4⟩ := HL.out; obtain ⟨g1, g2, g3⟩ := HX.out; simp; omega), Lib.hid (by have := HF.out; rw [HX.out.1] at this; simpa only [List.append_assoc] using this), Lib.hid (by have := HN.out; simpa only [List.append_assoc] using this)⟩
        case measure => simp [intOf]; omega
end Go.Proofs.YtllhkegefinlbaaGreatDoor.Gs
