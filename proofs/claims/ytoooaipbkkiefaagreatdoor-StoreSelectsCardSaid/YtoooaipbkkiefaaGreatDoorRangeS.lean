/- Series CutS LastS RangeS, in one text. -/
import Derived.Test.YtoooaipbkkiefaaGreatDoorNewR
import Derived.Deep.RegionHeld3
/-! Series, Len of a store; clones. -/
namespace Go.Proofs.YtoooaipbkkiefaaGreatDoor
open Go.RowKit Go.Sort
set_option maxRecDepth 100000
set_option maxHeartbeats 4000000

theorem pflat_one (l : List Sm) : ∀ u ∈ l.flatMap encP, u.oneCell' = true := fun u hu => by
  obtain ⟨x, -, hx⟩ := List.mem_flatMap.1 hu
  simp [encP] at hx
  rcases hx with rfl | rfl <;> rfl
theorem pflat_at {W : World} {A : Option Addr} {l : List Sm} (h : At2 encP W A l) (h0 : 0 < l.length) : ∃ b o, A = some ⟨b, o, none⟩ ∧ ∀ j u, (l.flatMap encP)[j]? = some u → W.cell? ⟨b, o + j, none⟩ = some u := by
  obtain ⟨b, o, e, hc⟩ := h h0
  refine ⟨b, o, e, fun j u hu => ?_⟩
  have hj : j < l.length * 2 := by have := (List.getElem?_eq_some_iff.1 hu).1; rwa [flat2_len encP (fun _ => rfl)] at this
  have hi : j / 2 < l.length := by omega
  have hx := List.getElem?_eq_getElem hi
  obtain ⟨g1, g2⟩ := flat2_get encP (fun _ => rfl) l _ _ hx
  obtain ⟨c1, c2⟩ := hc _ _ hx _ _ rfl
  rcases Nat.mod_two_eq_zero_or_one j with e | e
  · have e2 : j / 2 * 2 = j := by omega
    rw [e2] at c1 g1
    rw [hu] at g1; cases g1; exact c1
  · have e2 : j / 2 * 2 + 1 = j := by omega
    rw [Nat.add_assoc, e2] at c2
    rw [e2] at g2
    rw [hu] at g2; cases g2; exact c2
/-- labels of a clone -/
def LabC (W : World) (B : Nat) (A : Option Addr) (x : List Lb) : Prop := LabsAt W A x ∧ (0 < x.length → ∃ g o, A = some ⟨g, o, none⟩ ∧ B ≤ g ∧ Row W g o x)
theorem Row.on {W W' : World} {b o N : Nat} {x : List Lb} (h : Row W b o x) (g : W.grownBy W' (some N)) (hne : b ≠ N) : Row W' b o x := by
  intro i y hy
  obtain ⟨⟨c1, f1⟩, c2, f2⟩ := h i y hy
  have hb : W'.heap[b]? = W.heap[b]? := g.block b (World.block_lt_of_cell? W _ c1) (by simpa using hne)
  exact ⟨⟨(World.cell?_of_block (a := ⟨b, _, none⟩) hb).trans c1, (World.frozen?_of_block (a := ⟨b, _, none⟩) hb).trans f1⟩, (World.cell?_of_block (a := ⟨b, _, none⟩) hb).trans c2, (World.frozen?_of_block (a := ⟨b, _, none⟩) hb).trans f2⟩
theorem LabC.on {W W' : World} {B N : Nat} {A : Option Addr} {x : List Lb} (h : LabC W B A x) (g : W.grownBy W' (some N)) (hN : N < B) : LabC W' B A x := by
  by_cases h0 : 0 < x.length
  · obtain ⟨b, o, rfl, hb, hr⟩ := h.2 h0
    have hr' := hr.on g (by omega)
    exact ⟨hr'.labs, fun _ => ⟨b, o, rfl, hb, hr'⟩⟩
  · exact ⟨fun h => absurd h h0, fun h => absurd h h0⟩
theorem LabC.gr {W W' : World} {B : Nat} {A : Option Addr} {x : List Lb} (h : LabC W B A x) (g : Gr W W') : LabC W' B A x := by
  by_cases h0 : 0 < x.length
  · obtain ⟨b, o, rfl, hb, hr⟩ := h.2 h0
    have hlt : b < W.heap.size := World.block_lt_of_cell? W _ (hr 0 _ (List.getElem?_eq_getElem h0)).1.1
    have hr' : Row W' b o x := by
      intro i y hy
      obtain ⟨⟨c1, f1⟩, c2, f2⟩ := hr i y hy
      have hb := g.b.block b hlt
      exact ⟨⟨g.cell c1, (World.frozen?_of_block (a := ⟨b, _, none⟩) hb).trans f1⟩, g.cell c2, (World.frozen?_of_block (a := ⟨b, _, none⟩) hb).trans f2⟩
    exact ⟨hr'.labs, fun _ => ⟨b, o, rfl, hb, hr'⟩⟩
  · exact ⟨fun h => absurd h h0, fun h => absurd h h0⟩
theorem lclone_any (A : Option Addr) (c : Nat) (x : List Lb) (w : World) (h : LabsAt w A x) (hl : x.length ≤ 1099511627776) :
    Calls Tryz.prog 153 #[.slice A x.length c] w fun e w' => ∃ A' c', e = .returned (.slice A' x.length c') ∧ LabC w' w.heap.size A' x ∧ Gr w w' := by
  by_cases h0 : 0 < x.length
  · obtain ⟨b, o, rfl, -⟩ := h h0
    refine (clone_any b o c x w h h0 hl).mono ?_
    rintro e w' ⟨g, o', c', rfl, hg, -, -, hr, gr⟩
    exact ⟨_, c', rfl, ⟨hr.labs, fun _ => ⟨g, o', rfl, hg, hr⟩⟩, gr⟩
  · have e : x = [] := List.eq_nil_of_length_eq_zero (by omega)
    subst e
    refine (clone_none A c w).mono ?_
    rintro e w' ⟨A', c', rfl, gr⟩
    exact ⟨A', c', rfl, ⟨LabsAt.none_ _ _, fun h => absurd h (by simp)⟩, gr⟩
theorem StAt.cell {W : World} {S : Nat} {gs : List Se} (h : StAt W S gs) : ∃ A c cs, W.cell? ⟨S, 0, none⟩ = some (.slice A gs.length c) ∧ SerR W A cs gs ∧ gs.length ≤ 1000 ∧ S < W.heap.size := by
  obtain ⟨A, c, M, cs, h1, h2, -, h3⟩ := h
  exact ⟨A, c, cs, cell_of_row W S 0 _ _ _ h1, h2, h3, (Array.getElem?_eq_some_iff.1 h1).1⟩
theorem len_any (S : Nat) (gs : List Se) (w : World) (h : StAt w S gs) :
    Calls Tryz.prog 20 #[.pointer (some ⟨S, 0, none⟩)] w fun e w' => e = .returned (.int .i64 gs.length) ∧ w = w' := by
  obtain ⟨A, c, cs, c1, -, -, -⟩ := h.cell
  go_enter Tryz.func20, Tryz.ntmps20
  go_wp2
  go_ret
  exact ⟨rfl, rfl⟩
/-- what Series tells -/
def SeriesPost (gs : List Se) (i : Int) (w : World) (e : Ending) (w' : World) : Prop :=
  Gr w w' ∧ ((∃ (k : Nat) (s : Se) (A1 A2 : Option Addr) (c1 c2 : Nat), i = k ∧ gs[k]? = some s ∧ e = .returned (.tuple #[.agg #[.slice A1 s.1.length c1, .slice A2 s.2.length c2], .bool true]) ∧ LabC w' w.heap.size A1 s.1 ∧ SmV w' w.heap.size ⟨A2, s.2.length, c2⟩ s.2) ∨
    (i < 0 ∨ (gs.length : Int) ≤ i) ∧ e = .returned (.tuple #[.agg #[.slice none 0 0, .slice none 0 0], .bool false]))
theorem results_cell2 {P : Program} {fn : Func} {p q : Tmp} {ty : TypeId} (h : fn.results = #[.cell p ty, .tmp q]) (tmps : Array Value) (w : World) (g : Nat) (t : TypeId) (cs : Array Value) (fr : Nat × Nat) (d : TypeDesc)
    (hp : tmps.getD p undef = .pointer (some ⟨g, 0, none⟩)) (hg : w.heap[g]? = some (.cells cs t fr))
    (hu : P.underlying ty = some d) (hd : (match d with | .struct _ | .array _ _ => true | _ => false) = true) (hi : (P.info? ty).map (·.size) = some cs.size) :
    (results fn tmps).run P w = .ok (.tuple #[.agg cs, tmps.getD q undef]) w := by
  have hp' : tmps[p]?.getD undef = .pointer (some ⟨g, 0, none⟩) := by simpa using hp
  simp [results, h, hp', asAddr, run_loadVar_row w g t ty cs fr d hg hu hd hi]
theorem ser_size : (Tryz.prog.info? 87).map (·.size) = some 2 := by kernel_rfl
/-- a box of two cells, written anew -/
theorem box2 {W : World} {b : Nat} {u v : Value} {T : TypeId} (h : W.heap[b]? = some (.cells #[u, v] T (0, 0))) (u' v' : Value) : ((W.setCell ⟨b, 0, none⟩ u').setCell ⟨b, 1, none⟩ v').heap[b]? = some (.cells #[u', v'] T (0, 0)) := by
  have h1 := heap_setCell_same W b 0 _ _ u' h
  have h2 := heap_setCell_same _ b 1 _ _ v' h1
  simpa using h2
end Go.Proofs.YtoooaipbkkiefaaGreatDoor
/-! A stretch of a series' samples. -/
namespace Go.Proofs.YtoooaipbkkiefaaGreatDoor
open Go.RowKit Go.Sort
set_option maxRecDepth 100000
set_option maxHeartbeats 4000000

/-- how many samples have times at most t -/
def cntT (l : List Sm) (t : Int) : Nat := l.countP fun q => decide (q.1 ≤ t)
theorem cntT_le (l : List Sm) (t : Int) : cntT l t ≤ l.length := List.countP_le_length
theorem cnt_range (l : List Sm) (t : Int) : (List.range l.length).countP (fun i => !decide (t < ((l[i]?).getD (0, 0)).1)) = cntT l t := by
  unfold cntT
  have e : l = (List.range l.length).map fun i => (l[i]?).getD (0, 0) := by
    apply List.ext_getElem
    · simp
    · intro i h1 h2; simp [List.getElem?_eq_getElem h1]
  conv => rhs; rw [e, List.countP_map]
  refine congrArg (fun f => List.countP f (List.range l.length)) ?_
  funext i
  simp only [Function.comp]
  rw [Bool.eq_iff_iff]
  simp
theorem upTo1_any (W : World) (ba bt : Nat) (b o c : Nat) (l : List Sm) (t : Int) (k : Nat) (hk : k < l.length) (ha : W.cell? ⟨ba, 0, none⟩ = some (.slice (some ⟨b, o, none⟩) l.length c)) (ht : W.cell? ⟨bt, 0, none⟩ = some (.int .i64 t)) (hc : W.cell? ⟨b, o + k * 2, none⟩ = some (.int .i64 ((l[k]?).getD (0, 0)).1)) :
    Calls Tryz.prog 105 #[.int .i64 k, .pointer (some ⟨ba, 0, none⟩), .pointer (some ⟨bt, 0, none⟩)] W fun e w' => e = .returned (.bool (decide (t < ((l[k]?).getD (0, 0)).1))) ∧ ∃ q, w' = W.drewN q := by
  obtain ⟨x, hx⟩ : ∃ x, ((l[k]?).getD (0, 0)).1 = x := ⟨_, rfl⟩
  rw [hx] at hc ⊢
  have n1 : (k : Int) < (l.length : Int) := by omega
  have n2 : (0 : Int) ≤ (k : Int) := by omega
  clear hx hk
  go_enter Tryz.func105, Tryz.ntmps105
  go_wp2_with fail
  go_quiet (fail)
  go_wp2
  go_ret
  exact ⟨by first | rfl | simp, _, rfl⟩
theorem upTo_any (A : Option Addr) (c : Nat) (l : List Sm) (t : Int) (w : World) (h : At2 encP w A l) (ha : AscT l) (hl : l.length ≤ 1099511627776) :
    Calls Tryz.prog 76 #[.slice A l.length c, .int .i64 t] w fun e w' => e = .returned (.int .i64 (cntT l t)) ∧ Gr w w' := by
  have eg : ∀ args w, (callFunc 105 args).run Tryz.prog w = .ok (.enter 105 args) w := enters_of Tryz.func105 (by kernel_rfl) rfl
  have hmf : ∀ (fn : Fn) (first cap : Array Value) (w : World), (Instr.makeFunc fn first cap).run Tryz.prog w = .ok (.func fn first cap) w := fun _ _ _ _ => rfl
  obtain ⟨W1, hW1, g1, hb1⟩ := fresh w #[.slice A l.length c] 45
  obtain ⟨W2, hW2, g2, hb2⟩ := fresh W1 #[.int .i64 t] 3
  have a1 := hb1 0 (.slice A l.length c) rfl
  have t2 := hb2 0 (.int .i64 t) rfl
  have a2 := g2.cell a1
  have hs1 : W1.heap.size = w.heap.size + 1 := by rw [← hW1]; simp
  have hmono : ∀ a b, a ≤ b → b < l.length → decide (t < ((l[a]?).getD (0, 0)).1) = true → decide (t < ((l[b]?).getD (0, 0)).1) = true := fun a b hab hb hp => by
    have e1 : l[a]? = some l[a] := List.getElem?_eq_getElem (by omega)
    have e2 : l[b]? = some l[b] := List.getElem?_eq_getElem hb
    rw [e1] at hp
    rw [e2]
    simp only [Option.getD_some, decide_eq_true_eq] at hp ⊢
    rcases Nat.lt_or_ge a b with hlt | hge
    · have := List.pairwise_iff_getElem.1 ha a b (by omega) hb hlt
      omega
    · have : a = b := by omega
      subst this; exact hp
  have CS := Lib.hid (Any.sort_Search Tryz.searchI 105 #[.pointer (some ⟨w.heap.size, 0, none⟩), .pointer (some ⟨W1.heap.size, 0, none⟩)] l.length (fun i => decide (t < ((l[i]?).getD (0, 0)).1)) W2 eg (by omega) (fun m os i hi => by
    obtain ⟨b, o, rfl, hcells⟩ := (h.gr (g1.trans g2)) (by omega)
    have hx := List.getElem?_eq_getElem hi
    obtain ⟨d1, -⟩ := hcells i _ hx _ _ rfl
    have gG : Gr W2 (grow (W2.drewN m) os) := Gn.gr ⟨m, os, rfl⟩
    refine (upTo1_any _ w.heap.size W1.heap.size b o c l t i hi (gG.cell a2) (gG.cell t2) (by rw [hx]; exact gG.cell d1)).mono ?_
    rintro e w' ⟨rfl, q, rfl⟩
    exact ⟨rfl, q, #[], by rw [grow_empty]⟩) hmono)
  have HCS : Hid (Calls Tryz.prog 104 #[.int .i64 l.length, .func (.func 105) #[] #[.pointer (some ⟨w.heap.size, 0, none⟩), .pointer (some ⟨w.heap.size + 1, 0, none⟩)]] W2 fun e w' => e = .returned (.int .i64 (cntT l t)) ∧ Gr W2 w') := Lib.hid (by
    have := CS.out
    rw [cnt_range, hs1] at this
    exact this.mono fun e w' ⟨h1, q, os, h2⟩ => ⟨h1, Gn.gr ⟨q, os, h2⟩⟩)
  have HW1 := Lib.hid hW1; have HW2 := Lib.hid hW2; have HG := Lib.hid (g1.trans g2)
  clear CS hmono eg h ha hW1 hW2 g1 g2 hb1 hb2 a1 t2 hs1
  go_enter Tryz.func76, Tryz.ntmps76
  go_upto_region 1 with fail
  rw [HW1.out, HW2.out]
  go_wp2_with fail
  refine HCS.out.mono ?_
  rintro e w3 ⟨rfl, g3⟩
  go_wp2
  go_ret
  exact ⟨rfl, HG.out.trans g3⟩
/-- what Series' samples are, told by their slice -/
def SampPost (gs : List Se) (i : Int) (w : World) (e : Ending) (w' : World) : Prop := w = w' ∧ ((∃ (k : Nat) (s : Se) (A : Option Addr) (c : Nat), i = k ∧ gs[k]? = some s ∧ e = .returned (.slice A s.2.length c) ∧ At2 encP w A s.2 ∧ s.2.length ≤ c) ∨ (i < 0 ∨ (gs.length : Int) ≤ i) ∧ e = .returned (.slice none 0 0))
theorem samples_any (S : Nat) (gs : List Se) (i : Int) (w : World) (h : StAt w S gs) :
    Calls Tryz.prog 42 #[.pointer (some ⟨S, 0, none⟩), .int .i64 i] w (SampPost gs i w) := by
  obtain ⟨A, c, cs, c1, hser, hn, hSl⟩ := h.cell
  by_cases hneg : i < 0
  · have n1 : decide (i < 0) = true := decide_eq_true hneg
    clear h hser
    go_enter Tryz.func42, Tryz.ntmps42
    go_wp2
    go_ret
    exact ⟨rfl, .inr ⟨.inl hneg, rfl⟩⟩
  · have n1 : decide (i < 0) = false := decide_eq_false hneg
    by_cases hge : (gs.length : Int) ≤ i
    · clear h hser
      go_enter Tryz.func42, Tryz.ntmps42
      go_wp2
      go_ret
      exact ⟨rfl, .inr ⟨.inr hge, rfl⟩⟩
    · obtain ⟨k, rfl⟩ : ∃ k : Nat, i = k := ⟨i.toNat, by omega⟩
      have hk : k < gs.length := by omega
      have n2 : decide ((k : Int) ≥ (gs.length : Int)) = false := decide_eq_false (by omega)
      obtain ⟨s, hs⟩ : ∃ s, gs[k]? = some s := ⟨_, List.getElem?_eq_getElem hk⟩
      obtain ⟨cc, hc⟩ : ∃ cc, cs[k]? = some cc := ⟨_, List.getElem?_eq_getElem (by rw [hser.len]; exact hk)⟩
      obtain ⟨-, e2, hat2, hcap⟩ := hser.s k cc s hc hs
      obtain ⟨b, o, rfl, hcells⟩ := hser.row (by rw [hser.len]; omega)
      obtain ⟨-, d2⟩ := hcells k cc hc _ _ rfl
      obtain ⟨lv, ⟨sa, sn, sc⟩⟩ := cc
      simp only [Sl.v] at d2 e2 hat2 hcap
      subst e2
      have n3 : (k : Int) < (gs.length : Int) := by omega
      have n4 : (0 : Int) ≤ (k : Int) := by omega
      have HF := Lib.hid hs; have HA := Lib.hid hat2
      clear hs hc hcells hat2 h hser
      go_enter Tryz.func42, Tryz.ntmps42
      go_wp2
      go_ret
      exact ⟨rfl, .inl ⟨k, s, sa, sc, rfl, HF.out, rfl, HA.out, hcap⟩⟩
/-- those later than 'from' and at most at 'to' -/
def cutL (l : List Sm) (f t : Int) : List Sm := (l.take (cntT l t)).drop (cntT l f)
theorem cutL_len (l : List Sm) (f t : Int) : (cutL l f t).length = cntT l t - cntT l f := by
  have := cntT_le l t
  unfold cutL
  simp
  omega
def CutPost (l : List Sm) (f t : Int) (w : World) (e : Ending) (w' : World) : Prop := Gr w w' ∧ ∃ A' c', e = .returned (.slice A' (cutL l f t).length c') ∧ At2 encP w' A' (cutL l f t)
theorem cut_any (A : Option Addr) (c : Nat) (l : List Sm) (f t : Int) (w : World) (h : At2 encP w A l) (ha : AscT l) (hl : l.length ≤ 1099511627776) (hc : l.length ≤ c) :
    Calls Tryz.prog 41 #[.slice A l.length c, .int .i64 f, .int .i64 t] w (CutPost l f t w) := by
  have CF := Lib.hid (upTo_any A c l f w h ha hl)
  have CT := Lib.hid (fun W (g : Gr w W) => upTo_any A c l t W (h.gr g) ha hl)
  have H := Lib.hid h
  have hle1 := cntT_le l f
  have hle2 := cntT_le l t
  have HLEN := Lib.hid (cutL_len l f t)
  have HDEF : Hid (cutL l f t = (l.take (cntT l t)).drop (cntT l f)) := Lib.hid rfl
  obtain ⟨lo, hlo⟩ : ∃ n, cntT l f = n := ⟨_, rfl⟩
  obtain ⟨hi, hhi⟩ : ∃ n, cntT l t = n := ⟨_, rfl⟩
  rw [hlo] at CF hle1 HLEN HDEF
  rw [hhi] at CT hle2 HLEN HDEF
  have HPOST : Hid (∀ W A' c', Gr w W → At2 encP W A' (cutL l f t) → CutPost l f t w (.returned (.slice A' (hi - lo) c')) W) := Lib.hid (fun W A' c' g hat => ⟨g, A', c', by rw [HLEN.out], hat⟩)
  clear h ha hlo hhi
  go_enter Tryz.func41, Tryz.ntmps41
  go_wp2_with fail
  refine CF.out.mono ?_
  rintro e w1 ⟨rfl, g1⟩
  go_wp2_with fail
  refine (CT.out _ g1).mono ?_
  rintro e w2 ⟨rfl, g2⟩
  have HG := Lib.hid (g1.trans g2)
  by_cases hlt : hi ≤ lo
  · have n1 : decide ((lo : Int) ≥ (hi : Int)) = true := decide_eq_true (by omega)
    have n1' : (hi : Int) ≤ (lo : Int) := by omega
    have hz : hi - lo = 0 := by omega
    have HE := Lib.hid (HPOST.out w2 none 0 HG.out (fun h0 => absurd h0 (by rw [HLEN.out]; omega)))
    rw [hz] at HE
    clear hz
    go_wp2
    go_ret
    exact HE.out
  · obtain ⟨b, o, rfl, hcells⟩ := H.out (by omega)
    have n1' : ¬ (hi : Int) ≤ (lo : Int) := by omega
    have f1 : (0 : Int) ≤ (lo : Int) := by omega
    have f2 : (lo : Int) ≤ (hi : Int) := by omega
    have f3 : (hi : Int) ≤ (c : Int) := by omega
    have f4 : (hi : Int) ≤ (hi : Int) := by omega
    have f5 : (0 : Int) ≤ (hi : Int) := by omega
    have HOUT := Lib.hid (HPOST.out w2 (some ⟨b, o + lo * 2, none⟩) (hi - lo) HG.out (fun _ => ⟨b, o + lo * 2, rfl, fun i x hx u v hu => by
      rw [HDEF.out, List.getElem?_drop] at hx
      have hx2 : l[lo + i]? = some x := by
        rw [List.getElem?_take] at hx
        split at hx
        · exact hx
        · cases hx
      obtain ⟨h1, h2⟩ := hcells _ x hx2 u v hu
      rw [show o + lo * 2 + i * 2 = o + (lo + i) * 2 by omega]
      exact ⟨HG.out.cell h1, HG.out.cell h2⟩⟩))
    clear hcells
    go_wp2
    go_ret
    exact HOUT.out
end Go.Proofs.YtoooaipbkkiefaaGreatDoor
/-! The last value; the samples of a stretch. -/
namespace Go.Proofs.YtoooaipbkkiefaaGreatDoor
open Go.RowKit Go.Sort
set_option maxRecDepth 100000
set_option maxHeartbeats 4000000

theorem asc_lasts : ∀ {l : List Sm}, AscT l → AscT (lasts l)
  | [], _ => List.Pairwise.nil
  | [x], h => h
  | x :: y :: r, h => by
    obtain ⟨h1, h2⟩ := List.pairwise_cons.1 h
    unfold lasts
    split
    · exact asc_lasts h2
    · exact List.pairwise_cons.2 ⟨fun q hq => h1 q (lasts_mem hq), asc_lasts h2⟩
theorem StL.asc {gs : List Se} {l : List Rwm} (h : StL gs l) : ∀ s ∈ gs, AscT s.2 := fun s hs => by
  obtain ⟨r, h1, -, h3⟩ := h.s s hs
  rw [h3]; exact asc_lasts h1
/-- what stands above: at less back, as far as the machine's numbers go -/
def frm (at_ back : Int) : Int := if at_ - back < -9223372036854775808 then -9223372036854775808 else at_ - back
/-- samples of series i -/
def smpsAt (gs : List Se) (i : Int) : List Sm := if 0 ≤ i then match gs[i.toNat]? with
  | some s => s.2
  | none => []
  else []
theorem samples_l (S : Nat) (gs : List Se) (i : Int) (w : World) (h : StAt w S gs) :
    Calls Tryz.prog 42 #[.pointer (some ⟨S, 0, none⟩), .int .i64 i] w fun e w' => w = w' ∧ ∃ A c, e = .returned (.slice A (smpsAt gs i).length c) ∧ At2 encP w A (smpsAt gs i) ∧ (smpsAt gs i).length ≤ c := by
  refine (samples_any S gs i w h).mono ?_
  rintro e w' ⟨rfl, ⟨k, s, A, c, rfl, hs, rfl, hat, hc⟩ | ⟨hi, rfl⟩⟩
  · have e : smpsAt gs k = s.2 := by
      unfold smpsAt
      rw [if_pos (by omega), Int.toNat_natCast, hs]
    rw [e]
    exact ⟨rfl, A, c, rfl, hat, hc⟩
  · have e : smpsAt gs i = [] := by
      unfold smpsAt
      split
      · rw [List.getElem?_eq_none (by omega)]
      · rfl
    rw [e]
    exact ⟨rfl, none, 0, rfl, At2.nil _ _, Nat.le_refl _⟩
def lastP (l : List Sm) (at_ back : Int) : Option Nat := if back < 1 then none else match (cutL l (frm at_ back) at_).getLast? with
  | some q => if staleB q.2 then none else some q.2
  | none => none
def LastPost (o : Option Nat) (w : World) (e : Ending) (w' : World) : Prop := Gr w w' ∧ e = .returned (.tuple #[.float .f64 (o.getD 0), .bool o.isSome])
theorem last_any (S : Nat) (gs : List Se) (i at_ back : Int) (w : World) (h : StAt w S gs) (ht : Tab w) (ha : ∀ s ∈ gs, AscT s.2 ∧ s.2.length ≤ 1000) (i1 : I64 at_) (i2 : I64 back) :
    Calls Tryz.prog 14 #[.pointer (some ⟨S, 0, none⟩), .int .i64 i, .int .i64 at_, .int .i64 back] w (LastPost (lastP (smpsAt gs i) at_ back) w) := by
  by_cases hb : back < 1
  · have n1 : decide (back < 1) = true := decide_eq_true hb
    have HE : Hid (∀ W, Gr w W → LastPost (lastP (smpsAt gs i) at_ back) w (.returned (.tuple #[.float .f64 0, .bool false])) W) := Lib.hid (fun W g => by
      unfold lastP
      rw [if_pos hb]
      exact ⟨g, rfl⟩)
    clear h ht ha
    go_enter Tryz.func14, Tryz.ntmps14
    go_wp2
    go_ret2
    exact HE.out _ (Gr.refl _)
  · have n1 : decide (back < 1) = false := decide_eq_false hb
    have n1' : ¬ back < 1 := hb
    have HLA : Hid (AscT (smpsAt gs i) ∧ (smpsAt gs i).length ≤ 1000) := Lib.hid (by
      unfold smpsAt
      split
      · cases e : gs[i.toNat]? with
        | none => exact ⟨List.Pairwise.nil, Nat.zero_le _⟩
        | some s => exact ha s (List.mem_of_getElem? e)
      · exact ⟨List.Pairwise.nil, Nat.zero_le _⟩)
    have CS := Lib.hid (samples_l S gs i w h)
    have HT := Lib.hid ht
    have HDEF : Hid (lastP (smpsAt gs i) at_ back = match (cutL (smpsAt gs i) (frm at_ back) at_).getLast? with
      | some q => if staleB q.2 then none else some q.2
      | none => none) := Lib.hid (by unfold lastP; rw [if_neg hb])
    obtain ⟨l, hl⟩ : ∃ l, smpsAt gs i = l := ⟨_, rfl⟩
    rw [hl] at HLA CS HDEF ⊢
    obtain ⟨P, hP⟩ : ∃ P, lastP l at_ back = P := ⟨_, rfl⟩
    rw [hP] at HDEF ⊢
    have CC := Lib.hid (fun A c (hat : At2 encP w A l) (hc : l.length ≤ c) => cut_any A c l (frm at_ back) at_ w hat HLA.out.1 (by have := HLA.out.2; omega) hc)
    have HML : Hid ((cutL l (frm at_ back) at_).length ≤ 1000) := Lib.hid (by rw [cutL_len]; have := cntT_le l at_; have := HLA.out.2; omega)
    have HFR : Hid (frm at_ back = if at_ - back < -9223372036854775808 then -9223372036854775808 else at_ - back) := Lib.hid rfl
    obtain ⟨L, hL⟩ : ∃ L, cutL l (frm at_ back) at_ = L := ⟨_, rfl⟩
    have CC2 : Hid (∀ A c, At2 encP w A l → l.length ≤ c → Calls Tryz.prog 41 #[.slice A l.length c, .int .i64 (frm at_ back), .int .i64 at_] w fun e w' => Gr w w' ∧ ∃ A' c', e = .returned (.slice A' L.length c') ∧ At2 encP w' A' L) := Lib.hid (fun A c h1 h2 => by
      have := CC.out A c h1 h2
      unfold CutPost at this
      rwa [hL] at this)
    rw [hL] at HDEF HML
    obtain ⟨fr, hfr⟩ : ∃ fr, frm at_ back = fr := ⟨_, rfl⟩
    rw [hfr] at CC2 HFR
    obtain ⟨hw1, hw2⟩ := i1
    obtain ⟨hw3, hw4⟩ := i2
    have tail : ∀ (Q : Prop), Q → Q := fun _ h => h
    clear h ht ha CC hl hP hL hfr tail HLA
    have HNONE : Hid (L.length = 0 → ∀ W, Gr w W → LastPost P w (.returned (.tuple #[.float .f64 0, .bool false])) W) := Lib.hid (fun h0 W g => by
      have : L = [] := List.eq_nil_of_length_eq_zero h0
      subst this
      rw [HDEF.out]
      exact ⟨g, rfl⟩)
    have HSOME : Hid (∀ k q, L.length = k + 1 → L[k]? = some q → ∀ W, Gr w W → LastPost P w (.returned (.tuple #[.float .f64 (if staleB q.2 then 0 else q.2), .bool (!staleB q.2)])) W) := Lib.hid (fun k q hk hq W g => by
      have : L.getLast? = some q := by rw [List.getLast?_eq_getElem?, hk]; simpa using hq
      rw [HDEF.out, this]
      refine ⟨g, ?_⟩
      show _ = Ending.returned (.tuple #[.float .f64 (((if staleB q.2 then none else some q.2) : Option Nat).getD 0), .bool ((if staleB q.2 then none else some q.2) : Option Nat).isSome])
      cases staleB q.2 <;> rfl)
    clear HDEF
    by_cases hov : at_ - back < -9223372036854775808
    · have HF2 : Hid (fr = -9223372036854775808) := Lib.hid (by rw [HFR.out, if_pos hov])
      have ww : IntKind.i64.wrap (at_ - back) = at_ - back + 18446744073709551616 := by rw [IntKind.wrap_i64]; omega
      have n2 : decide (at_ - back + 18446744073709551616 > at_) = true := decide_eq_true (by omega)
      have n2' : at_ < at_ - back + 18446744073709551616 := by omega
      go_enter Tryz.func14, Tryz.ntmps14
      go_wp2_with (first
        | (go_at_call 42; refine CS.out.mono ?_; rintro e w' ⟨rfl, A, c, rfl, hat, hc⟩)
        | fail)
      rw [HF2.out] at CC2
      refine (CC2.out A c hat hc).mono ?_
      rintro e w2 ⟨g2, A', c', rfl, hat2⟩
      have HG2 := Lib.hid g2
      have HT2 := Lib.hid (HT.out.gr g2)
      clear n2 n2' ww hat hc CC2 CS g2
      by_cases hm : L.length = 0
      · have HE := Lib.hid (HNONE.out hm w2 HG2.out)
        rw [hm]
        clear hat2 hm
        go_wp2
        go_ret2
        exact HE.out
      · obtain ⟨k, hk⟩ : ∃ k, L.length = k + 1 := ⟨L.length - 1, by omega⟩
        obtain ⟨q, hq⟩ : ∃ q, L[k]? = some q := ⟨_, List.getElem?_eq_getElem (by omega)⟩
        obtain ⟨b, o, rfl, hcells⟩ := hat2 (by omega)
        obtain ⟨-, d2⟩ := hcells k q hq _ _ rfl
        have hk1 : k ≤ 1000 := by have := HML.out; omega
        have HS := Lib.hid (HSOME.out k q hk hq)
        obtain ⟨qt, qv⟩ := q
        simp only at d2 HS
        have CZ := Lib.hid (stalef_any qv w2 HT2.out)
        rw [hk]
        have w3 : IntKind.i64.wrap ((k : Int) + 1 - 1) = (k : Int) := by rw [IntKind.wrap_i64]; omega
        have f1 : (0 : Int) ≤ (k : Int) := by omega
        have f2 : (k : Int) < (k : Int) + 1 := by omega
        have f3 : ((k : Int) + 1 == 0) = false := by simp; omega
        clear hq hcells hm hk
        obtain ⟨z, hz⟩ : ∃ z, staleB qv = z := ⟨_, rfl⟩
        rw [hz] at CZ HS
        clear hz
        cases z
        · go_wp2_with (go_at_call 43; refine CZ.out.mono ?_; rintro e w4 ⟨rfl, n4, rfl⟩)
          go_ret2
          exact HS.out _ (HG2.out.drewN _)
        · go_wp2_with (go_at_call 43; refine CZ.out.mono ?_; rintro e w4 ⟨rfl, n4, rfl⟩)
          go_ret2
          exact HS.out _ (HG2.out.drewN _)
    · have HF2 : Hid (fr = at_ - back) := Lib.hid (by rw [HFR.out, if_neg hov])
      have ww : IntKind.i64.wrap (at_ - back) = at_ - back := by rw [IntKind.wrap_i64]; omega
      have n2 : decide (at_ - back > at_) = false := decide_eq_false (by omega)
      have n2' : ¬ at_ < at_ - back := by omega
      go_enter Tryz.func14, Tryz.ntmps14
      go_wp2_with (first
        | (go_at_call 42; refine CS.out.mono ?_; rintro e w' ⟨rfl, A, c, rfl, hat, hc⟩)
        | fail)
      rw [HF2.out] at CC2
      refine (CC2.out A c hat hc).mono ?_
      rintro e w2 ⟨g2, A', c', rfl, hat2⟩
      have HG2 := Lib.hid g2
      have HT2 := Lib.hid (HT.out.gr g2)
      clear n2 n2' ww hat hc CC2 CS g2
      by_cases hm : L.length = 0
      · have HE := Lib.hid (HNONE.out hm w2 HG2.out)
        rw [hm]
        clear hat2 hm
        go_wp2
        go_ret2
        exact HE.out
      · obtain ⟨k, hk⟩ : ∃ k, L.length = k + 1 := ⟨L.length - 1, by omega⟩
        obtain ⟨q, hq⟩ : ∃ q, L[k]? = some q := ⟨_, List.getElem?_eq_getElem (by omega)⟩
        obtain ⟨b, o, rfl, hcells⟩ := hat2 (by omega)
        obtain ⟨-, d2⟩ := hcells k q hq _ _ rfl
        have hk1 : k ≤ 1000 := by have := HML.out; omega
        have HS := Lib.hid (HSOME.out k q hk hq)
        obtain ⟨qt, qv⟩ := q
        simp only at d2 HS
        have CZ := Lib.hid (stalef_any qv w2 HT2.out)
        rw [hk]
        have w3 : IntKind.i64.wrap ((k : Int) + 1 - 1) = (k : Int) := by rw [IntKind.wrap_i64]; omega
        have f1 : (0 : Int) ≤ (k : Int) := by omega
        have f2 : (k : Int) < (k : Int) + 1 := by omega
        have f3 : ((k : Int) + 1 == 0) = false := by simp; omega
        clear hq hcells hm hk
        obtain ⟨z, hz⟩ : ∃ z, staleB qv = z := ⟨_, rfl⟩
        rw [hz] at CZ HS
        clear hz
        cases z
        · go_wp2_with (go_at_call 43; refine CZ.out.mono ?_; rintro e w4 ⟨rfl, n4, rfl⟩)
          go_ret2
          exact HS.out _ (HG2.out.drewN _)
        · go_wp2_with (go_at_call 43; refine CZ.out.mono ?_; rintro e w4 ⟨rfl, n4, rfl⟩)
          go_ret2
          exact HS.out _ (HG2.out.drewN _)
end Go.Proofs.YtoooaipbkkiefaaGreatDoor
/-! Range: the samples of a stretch that are not stale. -/
namespace Go.Proofs.YtoooaipbkkiefaaGreatDoor
open Go.RowKit Go.Sort
set_option maxRecDepth 100000
set_option maxHeartbeats 4000000

def live (l : List Sm) : List Sm := l.filter fun q => !staleB q.2
theorem live_s {l : List Sm} {k : Nat} {q : Sm} (h : l[k]? = some q) : live (l.take (k + 1)) = live (l.take k) ++ if staleB q.2 then [] else [q] := by
  have hk := (List.getElem?_eq_some_iff.1 h).1
  have e : l[k] = q := by rw [List.getElem?_eq_getElem hk] at h; exact Option.some.inj h
  unfold live
  rw [List.take_succ_eq_append_getElem hk, List.filter_append, e]
  cases h2 : staleB q.2 <;> simp [h2]
theorem live_len (l : List Sm) : (live l).length ≤ l.length := List.length_filter_le _ _
/-- what Range tells -/
def rangeP (l : List Sm) (f t : Int) : List Sm := live (cutL l f t)
def RangePost (l : List Sm) (w : World) (e : Ending) (w' : World) : Prop := Gr w w' ∧ ∃ v, e = .returned v ∧ OwnP w' w.heap.size v l
theorem range_any (S : Nat) (gs : List Se) (i f t : Int) (w : World) (h : StAt w S gs) (ht : Tab w) (ha : ∀ s ∈ gs, AscT s.2 ∧ s.2.length ≤ 1000) :
    Calls Tryz.prog 18 #[.pointer (some ⟨S, 0, none⟩), .int .i64 i, .int .i64 f, .int .i64 t] w (RangePost (rangeP (smpsAt gs i) f t) w) := by
  have HLA : Hid (AscT (smpsAt gs i) ∧ (smpsAt gs i).length ≤ 1000) := Lib.hid (by
    unfold smpsAt
    split
    · cases e : gs[i.toNat]? with
      | none => exact ⟨List.Pairwise.nil, Nat.zero_le _⟩
      | some s => exact ha s (List.mem_of_getElem? e)
    · exact ⟨List.Pairwise.nil, Nat.zero_le _⟩)
  have CS := Lib.hid (samples_l S gs i w h)
  have HT := Lib.hid ht
  have HDEF : Hid (rangeP (smpsAt gs i) f t = live (cutL (smpsAt gs i) f t)) := Lib.hid rfl
  obtain ⟨l, hl⟩ : ∃ l, smpsAt gs i = l := ⟨_, rfl⟩
  rw [hl] at HLA CS HDEF ⊢
  have CC := Lib.hid (fun A c (hat : At2 encP w A l) (hc : l.length ≤ c) => cut_any A c l f t w hat HLA.out.1 (by have := HLA.out.2; omega) hc)
  have HML : Hid ((cutL l f t).length ≤ 1000) := Lib.hid (by rw [cutL_len]; have := cntT_le l t; have := HLA.out.2; omega)
  obtain ⟨L, hL⟩ : ∃ L, cutL l f t = L := ⟨_, rfl⟩
  have CC2 : Hid (∀ A c, At2 encP w A l → l.length ≤ c → Calls Tryz.prog 41 #[.slice A l.length c, .int .i64 f, .int .i64 t] w fun e w' => Gr w w' ∧ ∃ A' c', e = .returned (.slice A' L.length c') ∧ At2 encP w' A' L) := Lib.hid (fun A c h1 h2 => by
    have := CC.out A c h1 h2
    unfold CutPost at this
    rwa [hL] at this)
  rw [hL] at HDEF HML
  obtain ⟨R, hR⟩ : ∃ R, rangeP l f t = R := ⟨_, rfl⟩
  rw [hR] at HDEF ⊢
  clear h ht ha CC hl hL hR HLA
  go_enter Tryz.func18, Tryz.ntmps18
  go_wp2_with (first
    | (go_at_call 42; refine CS.out.mono ?_; rintro e w' ⟨rfl, A, c, rfl, hat, hc⟩)
    | fail)
  refine (CC2.out A c hat hc).mono ?_
  rintro e w2 ⟨g2, A', c', rfl, hat2⟩
  have HG2 := Lib.hid g2
  have HAT := Lib.hid hat2
  clear hat hc CC2 CS g2 hat2
  go_wp2
  go_loopw [9, 19] (fun v i9 wr => ∃ k : Nat, k ≤ L.length ∧ i9 = .int .i64 k ∧ Hid (OwnP wr w2.heap.size v (live (L.take k))) ∧ Hid (Gr w2 wr)) (fun _ i9 _ => L.length - (intOf i9).toNat)
  case atStart => exact ⟨0, Nat.zero_le _, rfl, Lib.hid (by simpa [live] using Own2.nil _ _), Lib.hid (Gr.refl _)⟩
  case round =>
    obtain ⟨k, hk, rfl, HO, HG⟩ := hrel
    have HGW := Lib.hid (HG2.out.trans HG.out)
    by_cases hlt : k < L.length
    · obtain ⟨q, hq⟩ : ∃ q, L[k]? = some q := ⟨_, List.getElem?_eq_getElem hlt⟩
      obtain ⟨b, o, rfl, hcells⟩ := (HAT.out.gr HG.out) (by omega)
      obtain ⟨d1, d2⟩ := hcells k q hq _ _ rfl
      have HLS := Lib.hid (live_s hq)
      have hk1 : (live (L.take k)).length ≤ 1000 := by
        have h1 := live_len (L.take k)
        have := HML.out
        simp at h1
        omega
      obtain ⟨qt, qv⟩ := q
      simp only at d1 d2 HLS
      have hml := HML.out
      have n1 : (k : Int) < (L.length : Int) := by omega
      have n2 : (0 : Int) ≤ (k : Int) := by omega
      obtain ⟨X, hX, g0, hb⟩ := fresh wr #[.int .i64 qt, .float .f64 qv] 60
      have b0 := hb 0 (.int .i64 qt) rfl
      have b1 := hb 1 (.float .f64 qv) rfl
      have HX := Lib.hid hX; have G0 := Lib.hid g0
      have CZ := Lib.hid (stalef_any qv X (HT.out.gr (HGW.out.trans g0)))
      clear hq hcells hX g0 hb
      go_upto_region 5 with fail
      rw [HX.out]
      clear d1 d2
      obtain ⟨z, hz⟩ : ∃ z, staleB qv = z := ⟨_, rfl⟩
      rw [hz] at CZ HLS
      clear hz
      cases z
      · go_wp2_with (first
          | (go_at_call 43; refine CZ.out.mono ?_; rintro e w4 ⟨rfl, n4, rfl⟩; have gX4 : Gr wr (X.drewN n4) := G0.out.drewN n4; have HO4 := Lib.hid (Own2.gr HO.out (gX4.alloc #[.int .i64 qt, .float .f64 qv] 60)); have HSZ : Hid (w2.heap.size ≤ ((X.drewN n4).alloc (.cells #[.int .i64 qt, .float .f64 qv] 60)).heap.size) := Lib.hid ((HG.out.trans (gX4.alloc _ _)).size); have HG4 := Lib.hid (HG.out.trans (gX4.alloc #[.int .i64 qt, .float .f64 qv] 60)))
          | (at_builtin
             refine wpList_app2 rfl (.tmp 27) (.tmp 29) (by rfl) (by rfl) (by rfl) (by rfl) (run_appP (c := 1) (m := [(qt, qv)]) HO4.out (at2_one (enc := encP) _ (qt, qv) _ _ rfl _) (by simp; omega) HSZ.out) ?_
             rintro v5 w5 ⟨ho5, hg5, -⟩
             have HO5 : Hid (OwnP w5 w2.heap.size v5 (live (L.take (k + 1)))) := Lib.hid (by rw [HLS.out]; exact ho5)
             have HG5 : Hid (Gr w2 w5) := Lib.hid ⟨HG4.out.b.grown hg5 HG4.out.size (fun k hk => (HO.out.lt hk).1)⟩
             clear ho5 hg5))
        go_roundw
        case rel => exact ⟨k + 1, by omega, by go_num, HO5, HG5⟩
        case measure => simp [intOf]; omega
      · have HO5 : Hid (∀ W, Gr wr W → OwnP W w2.heap.size u9 (live (L.take (k + 1)))) := Lib.hid (fun W g => by
          rw [HLS.out]
          simpa using Own2.gr HO.out g)
        go_wp2_with (go_at_call 43; refine CZ.out.mono ?_; rintro e w4 ⟨rfl, n4, rfl⟩)
        go_roundw
        case rel => exact ⟨k + 1, by omega, by go_num, Lib.hid (HO5.out _ (G0.out.drewN _)), Lib.hid (HG.out.trans (G0.out.drewN _))⟩
        case measure => simp [intOf]; omega
    · obtain rfl : k = L.length := by omega
      have HE : Hid (RangePost R w (.returned u9) wr) := Lib.hid ⟨HGW.out, u9, rfl, by
        have := HO.out
        rw [List.take_length] at this
        rw [HDEF.out]; exact this.mono HG2.out.size⟩
      have n3 : ¬ (L.length : Int) < (L.length : Int) := by omega
      clear HO
      go_wp2
      go_ret
      exact HE.out
end Go.Proofs.YtoooaipbkkiefaaGreatDoor
