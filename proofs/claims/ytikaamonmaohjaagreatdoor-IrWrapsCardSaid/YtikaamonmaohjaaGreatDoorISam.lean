/- sameClean: of one plan; of two kinds. -/
import Derived.Test.YtikaamonmaohjaaGreatDoorIEach
import Derived.BigQuiet
import Derived.Test.YtikaamonmaohjaaGreatDoorIClL
import Derived.Test.YtikaamonmaohjaaGreatDoorIRng
namespace Go.Proofs.YtikaamonmaohjaaGreatDoor.Ir
open Go.RowKit Go.Shelf Go.Sort
set_option maxRecDepth 100000
set_option maxHeartbeats 4000000
attribute [local irreducible] wpQuiet

theorem seq_same (A B : Option Addr) (c d : Nat) (l : List ByteArray) (w : World) (h : StrsAt w A l) (h' : StrsAt w B l) (hl : l.length ≤ 1000000) :
    Calls Tryz.prog 100 #[.slice A l.length c, .slice B l.length d] w fun e w' => e = .returned (.bool true) ∧ Gr w w' := by
  by_cases h0 : 0 < l.length
  · obtain ⟨b, o, rfl, hc⟩ := h h0
    obtain ⟨b', o', rfl, hc'⟩ := h' h0
    have key : ∀ (b o : Nat), (∀ i x, l[i]? = some x → w.cell? ⟨b, o + i, none⟩ = some (.string x)) → ∀ j, j < l.length → w.cell? ⟨b, o + j, none⟩ = some (.string (l.getD j ByteArray.empty)) := fun b o hc j hj => by
      have := hc j _ (List.getElem?_eq_getElem hj)
      rw [List.getD_eq_getElem?_getD, List.getElem?_eq_getElem hj]
      exact this
    refine (Tryz.slices_Equal_string b o l.length c b' o' l.length d l l w (Nat.le_refl _) (Nat.le_refl _) (by omega) (by omega) (key b o hc) (key b' o' hc')).mono ?_
    rintro e w' ⟨rfl, q, rfl⟩
    exact ⟨by rw [decide_eq_true rfl], (Gr.refl w).drewN q⟩
  · have hn : l.length = 0 := by omega
    rw [hn]
    refine (Tryz.slices_Equal_string_empty A B c 0 d w (by omega)).mono ?_
    rintro e w' ⟨rfl, rfl⟩
    exact ⟨rfl, Gr.refl _⟩
theorem meq_same (A B : Option Addr) (c d : Nat) (l : List Mt) (w : World) (h : MatsAt w A l) (h' : MatsAt w B l) (hl : l.length ≤ 1000000) :
    Calls Tryz.prog 67 #[.slice A l.length c, .slice B l.length d] w fun e w' => e = .returned (.bool true) ∧ Gr w w' := by
  have HA := Lib.hid h; have HB := Lib.hid h'
  clear h h'
  go_enter Tryz.func67, Tryz.ntmps67
  go_wp2
  go_loopw [13] (fun i wr => ∃ k : Nat, k ≤ l.length ∧ i = .int .i64 k ∧ Gr w wr) (fun i _ => l.length - (intOf i).toNat)
  case atStart => exact ⟨0, Nat.zero_le _, rfl, Gr.refl _⟩
  case round =>
    obtain ⟨k, hk, rfl, hg⟩ := hrel
    by_cases hlt : k < l.length
    · obtain ⟨b, o, hb, hc⟩ := HA.out (by omega)
      obtain ⟨b', o', hb', hc'⟩ := HB.out (by omega)
      subst hb hb'
      obtain ⟨x, hx⟩ : ∃ x, l[k] = x := ⟨_, rfl⟩
      have hx? : l[k]? = some x := by rw [List.getElem?_eq_getElem hlt, hx]
      obtain ⟨c1, c2, c3⟩ := hc k x hx?
      obtain ⟨d1, d2, d3⟩ := hc' k x hx?
      have c1 := hg.cell c1; have c2 := hg.cell c2; have c3 := hg.cell c3
      have d1 := hg.cell d1; have d2 := hg.cell d2; have d3 := hg.cell d3
      have hkz : (0 : Int) ≤ (k : Int) := by omega
      have hki : (k : Int) < (l.length : Int) := by omega
      clear hx hx? hc hc'
      go_upto_region 6 with fail
      go_quiet (fail)
      go_wp2
      go_roundw
      case rel => exact ⟨k + 1, by omega, by go_num, hg.drewN _⟩
      case measure => simp [intOf]; omega
    · obtain rfl : k = l.length := by omega
      go_wp2
      go_ret
      exact ⟨rfl, hg⟩
theorem sgrp (how : Int) (A B : Option Addr) (c d : Nat) (l : List ByteArray) (w : World) (h : StrsAt w A l) (h' : StrsAt w B l) (hl : l.length ≤ 1000000) :
    Calls Tryz.prog 68 #[.agg #[.int .i64 how, .slice A l.length c], .agg #[.int .i64 how, .slice B l.length d]] w fun e w' => e = .returned (.bool true) ∧ Gr w w' := by
  obtain ⟨W1, hW1, g1, b1, s1⟩ := ibox w #[.int .i64 how, .slice A l.length c] 26
  obtain ⟨W2, hW2, g2, b2, s2⟩ := ibox W1 #[.int .i64 how, .slice B l.length d] 26
  have hg := g1.trans g2
  have c0 := (cell_h (hgr g2 b1) 0).trans rfl
  have c1 := (cell_h (hgr g2 b1) 1).trans rfl
  have d0 := (cell_h b2 0).trans rfl
  have d1 := (cell_h b2 1).trans rfl
  have CC := Lib.hid (seq_same A B c d l W2 (h.gr hg) (h'.gr hg) hl)
  obtain ⟨N, hN⟩ : ∃ N, w.heap.size = N := ⟨_, rfl⟩
  rw [s1, hN] at d0 d1
  rw [hN] at c0 c1
  obtain ⟨n, hn⟩ : ∃ n, l.length = n := ⟨_, rfl⟩
  rw [hn] at c1 d1 CC hW1 hW2 ⊢
  have HN := Lib.hid hN; have HW1 := Lib.hid hW1; have HW2 := Lib.hid hW2; have HG := Lib.hid hg
  clear hN hW1 hW2 hg b1 b2 g1 g2 h h' s1 s2 hn
  go_enter Tryz.func68, Tryz.ntmps68
  go_upto_region 1 with fail
  rw [HW1.out, HW2.out, HN.out]
  go_wp2_with (go_at_call 100; refine CC.out.mono ?_; rintro e w3 ⟨rfl, g3⟩)
  go_ret
  exact ⟨rfl, HG.out.trans g3⟩
theorem smch (xh : Int) (A B : Option Addr) (c d : Nat) (xn : List ByteArray) (card : Int) (A' B' : Option Addr) (c' d' : Nat) (inc : List ByteArray) (w : World) (h1 : StrsAt w A xn) (h2 : StrsAt w B xn) (h3 : StrsAt w A' inc) (h4 : StrsAt w B' inc) (hl : xn.length ≤ 1000000) (hl' : inc.length ≤ 1000000) :
    Calls Tryz.prog 69 #[.agg #[.int .i64 xh, .slice A xn.length c, .int .i64 card, .slice A' inc.length c'], .agg #[.int .i64 xh, .slice B xn.length d, .int .i64 card, .slice B' inc.length d']] w fun e w' => e = .returned (.bool true) ∧ Gr w w' := by
  obtain ⟨W1, hW1, g1, b1, s1⟩ := ibox w #[.int .i64 xh, .slice A xn.length c, .int .i64 card, .slice A' inc.length c'] 28
  obtain ⟨W2, hW2, g2, b2, s2⟩ := ibox W1 #[.int .i64 xh, .slice B xn.length d, .int .i64 card, .slice B' inc.length d'] 28
  have hg := g1.trans g2
  have c0 := (cell_h (hgr g2 b1) 0).trans rfl
  have c1 := (cell_h (hgr g2 b1) 1).trans rfl
  have c2 := (cell_h (hgr g2 b1) 2).trans rfl
  have c3 := (cell_h (hgr g2 b1) 3).trans rfl
  have d0 := (cell_h b2 0).trans rfl
  have d1 := (cell_h b2 1).trans rfl
  have d2 := (cell_h b2 2).trans rfl
  have d3 := (cell_h b2 3).trans rfl
  have CC := Lib.hid (fun W (g : Gr W2 W) => seq_same A' B' c' d' inc W (h3.gr (hg.trans g)) (h4.gr (hg.trans g)) hl')
  have CG := Lib.hid (sgrp xh A B c d xn W2 (h1.gr hg) (h2.gr hg) hl)
  obtain ⟨N, hN⟩ : ∃ N, w.heap.size = N := ⟨_, rfl⟩
  rw [s1, hN] at d0 d1 d2 d3
  rw [hN] at c0 c1 c2 c3
  obtain ⟨n, hn⟩ : ∃ n, xn.length = n := ⟨_, rfl⟩
  obtain ⟨m, hm⟩ : ∃ m, inc.length = m := ⟨_, rfl⟩
  rw [hn] at c1 d1 CG
  rw [hm] at c3 d3 CC
  rw [hn, hm] at hW1 hW2 ⊢
  have HN := Lib.hid hN; have HW1 := Lib.hid hW1; have HW2 := Lib.hid hW2; have HG := Lib.hid hg
  have HC : Hid (∀ W, Gr W2 W → (W.cell? ⟨N, 2, none⟩ = some (.int .i64 card) ∧ W.cell? ⟨N, 3, none⟩ = some (.slice A' m c')) ∧ W.cell? ⟨N + 1, 2, none⟩ = some (.int .i64 card) ∧ W.cell? ⟨N + 1, 3, none⟩ = some (.slice B' m d')) := Lib.hid (fun W g => ⟨⟨g.cell c2, g.cell c3⟩, g.cell d2, g.cell d3⟩)
  clear hN hW1 hW2 hg b1 b2 g1 g2 h1 h2 h3 h4 s1 s2 hn hm
  go_enter Tryz.func69, Tryz.ntmps69
  go_upto_region 1 with fail
  rw [HW1.out, HW2.out, HN.out]
  go_wp2_with (first
    | (go_at_call 68; refine CG.out.mono ?_; rintro e w3 ⟨rfl, g3⟩; obtain ⟨⟨e2, e3⟩, f2, f3⟩ := HC.out w3 g3)
    | (go_at_call 100; refine (CC.out _ g3).mono ?_; rintro e w4 ⟨rfl, g4⟩))
  go_ret
  exact ⟨rfl, (HG.out.trans g3).trans g4⟩
end Go.Proofs.YtikaamonmaohjaaGreatDoor.Ir
namespace Go.Proofs.YtikaamonmaohjaaGreatDoor.Ir
open Go.RowKit Go.Shelf Go.Sort
set_option maxRecDepth 100000
set_option maxHeartbeats 8000000
attribute [local irreducible] wpQuiet

def SamC (F : FuncId) (w : World) (t : Tr) : Prop := ∀ (p q : Np) (W : World), Gr w W → TrP W t p → TrP W t q → Calls Tryz.prog F #[.agg (nV t.d p t.ks.length).toArray, .agg (nV t.d q t.ks.length).toArray] W fun e w' => e = .returned (.bool true) ∧ Gr W w'
theorem eqf_same (F : FuncId) (eg : ∀ args w, (callFunc F args).run Tryz.prog w = .ok (.enter F args) w) (A B : Option Addr) (c d : Nat) (ks : List Tr) (w : World) (hA : 0 < ks.length → ∃ b o, A = some ⟨b, o, none⟩ ∧ KidsAt w b o ks) (hB : 0 < ks.length → ∃ b o, B = some ⟨b, o, none⟩ ∧ KidsAt w b o ks) (hlen : ks.length ≤ 1000) (hF : ∀ t ∈ ks, SamC F w t) :
    Calls Tryz.prog 70 #[.slice A ks.length c, .slice B ks.length d, .func (.func F) #[] #[]] w fun e w' => e = .returned (.bool true) ∧ Gr w w' := by
  have HA := Lib.hid hA; have HB := Lib.hid hB; have HF := Lib.hid hF
  clear hA hB hF
  go_enter Tryz.func70, Tryz.ntmps70
  go_wp2
  go_loopw [17] (fun i wr => ∃ k : Nat, k ≤ ks.length ∧ i = .int .i64 k ∧ Gr w wr) (fun i _ => ks.length - (intOf i).toNat)
  case atStart => exact ⟨0, Nat.zero_le _, rfl, Gr.refl _⟩
  case round =>
    obtain ⟨k, hk, rfl, hg⟩ := hrel
    by_cases hlt : k < ks.length
    · obtain ⟨b, o, hb, hKa⟩ := HA.out (by omega)
      obtain ⟨b', o', hb', hKb⟩ := HB.out (by omega)
      subst hb hb'
      obtain ⟨p, hc, hp⟩ := (KidsAt.gr hg b o ks hKa).get hlt
      obtain ⟨q, hd, hq⟩ := (KidsAt.gr hg b' o' ks hKb).get hlt
      have HFk := Lib.hid (HF.out ks[k] (List.getElem_mem hlt))
      obtain ⟨t, htt⟩ : ∃ t, ks[k] = t := ⟨_, rfl⟩
      rw [htt] at hc hd hp hq HFk
      obtain ⟨W2, hW2, g2, hb2, -, -⟩ := nbox wr (nV t.d p t.ks.length) 31
      obtain ⟨W3, hW3, g3, hb3, -, -⟩ := nbox W2 (nV t.d q t.ks.length) 31
      have hd2 := hd.gr g2
      have hb2' := hb2.gr g3
      have hgg := hg.trans (g2.trans g3)
      have CC := Lib.hid (HFk.out p q W3 hgg (TrP.gr (g2.trans g3) t p hp) (TrP.gr (g2.trans g3) t q hq))
      have HW2 := Lib.hid hW2; have HW3 := Lib.hid hW3; have HGG := Lib.hid hgg
      have hkz : (0 : Int) ≤ (k : Int) := by omega
      have hki : (k : Int) < (ks.length : Int) := by omega
      clear htt hW2 hW3 hKa hKb hp hq hd g2 g3 hb2 hg hgg
      go_upto_region 6 with (first
        | (refine load_node rfl (.tmp 20) rfl _ _ rfl hc ?_)
        | (refine store_node rfl (.tmp 8) (.tmp 21) rfl rfl rfl rfl ?_; rw [HW2.out]))
      go_upto_region 7 with (first
        | (refine load_node rfl (.tmp 24) rfl _ _ rfl hd2 ?_)
        | (refine store_node rfl (.tmp 9) (.tmp 25) rfl rfl rfl rfl ?_; rw [HW3.out]))
      go_wp2_with (first
        | (refine load_node rfl (.tmp 8) rfl _ _ rfl hb2' ?_)
        | (refine load_node rfl (.tmp 9) rfl _ _ rfl hb3 ?_))
      refine CC.out.mono ?_
      rintro e w4 ⟨rfl, g4⟩
      have hg4 := HGG.out.trans g4
      clear g4
      go_wp2
      go_roundw
      case rel => exact ⟨k + 1, by omega, by go_num, hg4⟩
      case measure => simp [intOf]; omega
    · obtain rfl : k = ks.length := by omega
      go_wp2
      go_ret
      exact ⟨rfl, hg⟩
theorem same_kinds (d d' : Nf) (p q : Np) (n m : Nat) (w : World) (h : d.k ≠ d'.k) :
    Calls Tryz.prog 26 #[.agg (nV d p n).toArray, .agg (nV d' q m).toArray] w fun e w' => e = .returned (.bool false) ∧ Gr w w' := by
  obtain ⟨W1, hW1, g1, b1, s1⟩ := ibox w (nV d p n).toArray 31
  obtain ⟨W2, hW2, g2, b2, s2⟩ := ibox W1 (nV d' q m).toArray 31
  have hg := g1.trans g2
  obtain ⟨c0, -⟩ := (box_cells (hgr g2 b1)).all
  obtain ⟨d0, -⟩ := (box_cells b2).all
  obtain ⟨N, hN⟩ : ∃ N, w.heap.size = N := ⟨_, rfl⟩
  rw [s1, hN] at d0
  rw [hN] at c0
  obtain ⟨x, hx⟩ : ∃ x, d.k = x := ⟨_, rfl⟩
  obtain ⟨y, hy⟩ : ∃ y, d'.k = y := ⟨_, rfl⟩
  rw [hx] at c0 h; rw [hy] at d0 h
  have hne : (x == y) = false := by simpa using h
  have HN := Lib.hid hN; have HW1 := Lib.hid hW1; have HW2 := Lib.hid hW2; have HG := Lib.hid hg
  clear hN hW1 hW2 hg b1 b2 g1 g2 s1 s2 h hx hy
  go_enter Tryz.func26, Tryz.ntmps26
  go_upto_region 1 with fail
  rw [HW1.out, HW2.out, HN.out]
  go_wp2
  go_ret
  exact ⟨rfl, HG.out⟩
end Go.Proofs.YtikaamonmaohjaaGreatDoor.Ir
