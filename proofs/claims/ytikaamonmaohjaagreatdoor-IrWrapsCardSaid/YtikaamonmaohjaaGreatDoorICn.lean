/- checkNode: may what a node has be? -/
import Derived.Test.YtikaamonmaohjaaGreatDoorIGrp
import Derived.Test.YtikaamonmaohjaaGreatDoorIShp
import Derived.Test.YtikaamonmaohjaaGreatDoorLParts
namespace Go.Proofs.YtikaamonmaohjaaGreatDoor.Ir
open Go.RowKit
set_option maxRecDepth 100000
set_option maxHeartbeats 4000000
attribute [local irreducible] wpQuiet

def chkM (card how : Int) (ns inc : List ByteArray) : Bool := chkG how ns && ((card == 0 || card == 1 || card == 2) && (!(card == 0 && decide (0 < inc.length)) && (chkG 1 inc && !(how == 1 && inc.any (hasN ns)))))
theorem chkM_1 {card how : Int} {ns inc : List ByteArray} (h : chkG how ns = false) : chkM card how ns inc = false := by unfold chkM; rw [h]; rfl
theorem chkM_2 {card how : Int} {ns inc : List ByteArray} (h : ¬ (card = 0 ∨ card = 1 ∨ card = 2)) : chkM card how ns inc = false := by
  have e0 : (card == 0) = false := by simp; omega
  have e1 : (card == 1) = false := by simp; omega
  have e2 : (card == 2) = false := by simp; omega
  unfold chkM; rw [e0, e1, e2]; simp
theorem chkM_3 {how : Int} {ns inc : List ByteArray} (h : 0 < inc.length) : chkM 0 how ns inc = false := by
  unfold chkM; rw [decide_eq_true h]; simp
theorem chkM_4 {card how : Int} {ns inc : List ByteArray} (h : chkG 1 inc = false) : chkM card how ns inc = false := by unfold chkM; rw [h]; simp
theorem chkM_5 {card how : Int} {ns inc : List ByteArray} (h1 : chkG how ns = true) (h2 : card = 0 ∨ card = 1 ∨ card = 2) (h3 : card = 0 → inc.length = 0) (h4 : chkG 1 inc = true) : chkM card how ns inc = !(how == 1 && inc.any (hasN ns)) := by
  unfold chkM
  rw [h1, h4]
  rcases h2 with rfl | rfl | rfl
  · rw [decide_eq_false (by have := h3 rfl; omega)]; simp
  · simp
  · simp
/-- a match in memory, as it is handed over -/
def mchV (how : Int) (N : Option Addr) (nn d : Nat) (card : Int) (I : Option Addr) (ni di : Nat) : Value := .agg #[.int .i64 how, .slice N nn d, .int .i64 card, .slice I ni di]
theorem jcheck_any (card how : Int) (N I : Option Addr) (ns inc : List ByteArray) (d di : Nat) (w : World) (hN : StrsAt w N ns) (hI : StrsAt w I inc) (hl : ns.length ≤ d) (hd : d ≤ maxLen) (hz : ∀ s ∈ ns, s.size ≤ maxLen) (hli : inc.length ≤ di) (hdi : di ≤ maxLen) (hzi : ∀ s ∈ inc, s.size ≤ maxLen) :
    Calls Tryz.prog 41 #[mchV how N ns.length d card I inc.length di] w fun e w' => e = .returned (.int .i64 (ckV (chkM card how ns inc))) ∧ Gr w w' := by
  unfold mchV
  obtain ⟨nn, hnn⟩ : ∃ nn, ns.length = nn := ⟨_, rfl⟩
  obtain ⟨ni, hni⟩ : ∃ ni, inc.length = ni := ⟨_, rfl⟩
  obtain ⟨W1, hW1, g1, hb1⟩ := fresh w #[.int .i64 how, .slice N nn d, .int .i64 card, .slice I ni di] 28
  have a0 := hb1 0 (.int .i64 how) rfl
  have a1 := hb1 1 (.slice N nn d) rfl
  have a2 := hb1 2 (.int .i64 card) rfl
  have a3 := hb1 3 (.slice I ni di) rfl
  have C1 := check_any N ns d how W1 (hN.gr g1) hl hd hz
  have C2 := Lib.hid (fun W (g : Gr W1 W) => check_any I inc di 1 W ((hI.gr g1).gr g) hli hdi hzi)
  have HI := Lib.hid (hI.gr g1)
  have HNS := Lib.hid (hN.gr g1)
  rw [hnn] at C1
  rw [hni] at C2
  have HNN := Lib.hid hnn; have HNI := Lib.hid hni
  have HW1 := Lib.hid hW1; have HG1 := Lib.hid g1
  obtain ⟨P, hP⟩ : ∃ P, w.heap.size = P := ⟨_, rfl⟩
  rw [hP] at a0 a1 a2 a3
  have HP := Lib.hid hP
  have h3 := @chkM_3 how ns inc
  rw [hni] at h3 ⊢
  have H3 := Lib.hid h3
  rw [hnn]
  have hdi' : ni ≤ 9223372036854775807 := by have := hli; unfold maxLen at hdi; omega
  have hni2 : ni ≤ di := by rw [← hni]; exact hli
  clear hN hI hl hd hz hli hdi hzi hW1 g1 hb1 hP hnn hni h3
  cases hc1 : chkG how ns
  · rw [hc1, show ckV false = 1 from rfl] at C1
    have C1 := Lib.hid C1
    rw [chkM_1 hc1]
    clear hc1
    go_enter Tryz.func41, Tryz.ntmps41
    go_upto_region 1 with fail
    rw [HW1.out, HP.out]
    go_wp2_with fail
    refine C1.out.mono ?_
    rintro e w2 ⟨rfl, g2⟩
    have G2 := Lib.hid (HG1.out.trans g2)
    clear g2 C1
    go_wp2
    go_ret
    exact ⟨rfl, G2.out⟩
  have hn32 : ns.length ≤ 32 := by
    unfold chkG at hc1
    simp only [Bool.and_eq_true, decide_eq_true_eq] at hc1
    exact hc1.1.1.2
  have CN := fun s W (g : Gr W1 W) => contains_any N ns d s W (HNS.out.gr g) (by omega)
  rw [HNN.out] at CN
  have CN := Lib.hid CN
  rw [hc1, show ckV true = 0 from rfl] at C1
  have C1 := Lib.hid C1
  by_cases hcd : card = 0 ∨ card = 1 ∨ card = 2
  · by_cases hz0 : card = 0 ∧ 0 < ni
    · obtain ⟨rfl, hz1⟩ := hz0
      rw [H3.out hz1]
      clear hc1 hcd
      go_enter Tryz.func41, Tryz.ntmps41
      go_upto_region 1 with fail
      rw [HW1.out, HP.out]
      go_wp2_with fail
      refine C1.out.mono ?_
      rintro e w2 ⟨rfl, g2⟩
      have b0 := g2.cell a0; have b1 := g2.cell a1; have b2 := g2.cell a2; have b3 := g2.cell a3
      have G2 := Lib.hid (HG1.out.trans g2)
      clear g2 C1 a0 a1 a2 a3
      go_wp2
      go_ret
      exact ⟨rfl, G2.out⟩
    · cases hc2 : chkG 1 inc
      · rw [hc2, show ckV false = 1 from rfl] at C2
        rw [chkM_4 hc2]
        clear hc1 hc2
        rcases hcd with rfl | rfl | rfl
        · obtain rfl : ni = 0 := by omega
          clear hz0
          go_enter Tryz.func41, Tryz.ntmps41
          go_upto_region 1 with fail
          rw [HW1.out, HP.out]
          go_wp2_with fail
          refine C1.out.mono ?_
          rintro e w2 ⟨rfl, g2⟩
          have b0 := g2.cell a0; have b1 := g2.cell a1; have b2 := g2.cell a2; have b3 := g2.cell a3
          have G2 := Lib.hid g2
          clear g2 C1 a0 a1 a2 a3
          go_wp2_with fail
          refine (C2.out _ G2.out).mono ?_
          rintro e w3 ⟨rfl, g3⟩
          have G3 := Lib.hid (HG1.out.trans (G2.out.trans g3))
          clear g3 C2 b0 b1 b2 b3
          go_wp2
          go_ret
          exact ⟨rfl, G3.out⟩
        all_goals
          clear hz0
          go_enter Tryz.func41, Tryz.ntmps41
          go_upto_region 1 with fail
          rw [HW1.out, HP.out]
          go_wp2_with fail
          refine C1.out.mono ?_
          rintro e w2 ⟨rfl, g2⟩
          have b0 := g2.cell a0; have b1 := g2.cell a1; have b2 := g2.cell a2; have b3 := g2.cell a3
          have G2 := Lib.hid g2
          clear g2 C1 a0 a1 a2 a3
          go_wp2_with fail
          refine (C2.out _ G2.out).mono ?_
          rintro e w3 ⟨rfl, g3⟩
          have G3 := Lib.hid (HG1.out.trans (G2.out.trans g3))
          clear g3 C2 b0 b1 b2 b3
          go_wp2
          go_ret
          exact ⟨rfl, G3.out⟩
      · rw [hc2, show ckV true = 0 from rfl] at C2
        have hi32 : ni ≤ 32 := by
          unfold chkG at hc2
          simp only [Bool.and_eq_true, decide_eq_true_eq] at hc2
          rw [← HNI.out]; exact hc2.1.1.2
        rw [chkM_5 hc1 hcd (fun e => by rw [HNI.out]; omega) hc2]
        clear hc1 hc2
        obtain ⟨r, hr⟩ : ∃ r, (!(how == 1 && inc.any (hasN ns))) = r := ⟨_, rfl⟩
        have HR := Lib.hid hr
        rw [hr]
        clear hr
        have hz1 : card = 0 → ni = 0 := fun e => by omega
        have HZ1 := Lib.hid hz1
        clear hz0 hz1
        rcases hcd with rfl | rfl | rfl
        · obtain rfl : ni = 0 := HZ1.out rfl
          have hr1 : r = true := by
            rw [← HR.out, show inc = [] from List.eq_nil_of_length_eq_zero HNI.out]; simp
          subst hr1
          go_enter Tryz.func41, Tryz.ntmps41
          go_upto_region 1 with fail
          rw [HW1.out, HP.out]
          go_wp2_with fail
          refine C1.out.mono ?_
          rintro e w2 ⟨rfl, g2⟩
          have b0 := g2.cell a0; have b1 := g2.cell a1; have b2 := g2.cell a2; have b3 := g2.cell a3
          have G2 := Lib.hid g2
          clear g2 C1 a0 a1 a2 a3
          go_wp2_with fail
          refine (C2.out _ G2.out).mono ?_
          rintro e w3 ⟨rfl, g3⟩
          have G3 := Lib.hid (HG1.out.trans (G2.out.trans g3))
          have c0 := g3.cell b0; have c1 := g3.cell b1; have c2 := g3.cell b2; have c3 := g3.cell b3
          clear g3 C2 b0 b1 b2 b3
          go_wp2
          refine wp_loop_rounds 1 ?_
          rw [rounds_succ]
          go_wp2
          go_ret
          exact ⟨rfl, G3.out⟩
        all_goals
          go_enter Tryz.func41, Tryz.ntmps41
          go_upto_region 1 with fail
          rw [HW1.out, HP.out]
          go_wp2_with fail
          refine C1.out.mono ?_
          rintro e w2 ⟨rfl, g2⟩
          have b0 := g2.cell a0; have b1 := g2.cell a1; have b2 := g2.cell a2; have b3 := g2.cell a3
          have G2 := Lib.hid g2
          clear g2 C1
          go_wp2_with fail
          refine (C2.out _ G2.out).mono ?_
          rintro e w3 ⟨rfl, g3⟩
          have G3 := Lib.hid (G2.out.trans g3)
          have c3 := g3.cell b3
          clear g3 C2 b0 b1 b2 b3
          go_wp2
          go_loopw [45] (fun i wr => ∃ k : Nat, k ≤ ni ∧ i = .int .i64 k ∧ Hid ((how == 1 && (inc.take k).any (hasN ns)) = false) ∧ Hid (Gr W1 wr)) (fun i _ => ni - (intOf i).toNat)
          case atStart => exact ⟨0, Nat.zero_le _, rfl, Lib.hid (by simp), G3⟩
          case round =>
            obtain ⟨k, hk, rfl, HU, HG⟩ := hrel
            have c0 := HG.out.cell a0; have c1 := HG.out.cell a1
            by_cases hlt : k < ni
            · have hkl : k < inc.length := by rw [HNI.out]; exact hlt
              obtain ⟨b', o, rfl, e1⟩ := (HI.out.gr HG.out).at_ hkl
              have HTK := Lib.hid (List.take_succ_eq_append_getElem hkl)
              have HMM := Lib.hid (List.getElem_mem hkl)
              obtain ⟨s, hs⟩ : ∃ s, inc[k]'hkl = s := ⟨_, rfl⟩
              rw [hs] at e1 HTK HMM
              have CN1 := CN.out s wr HG.out
              obtain ⟨t, ht⟩ : ∃ t, hasN ns s = t := ⟨_, rfl⟩
              rw [ht] at CN1
              have CN1 := Lib.hid CN1
              have HT := Lib.hid ht
              have n1 : (k : Int) < (ni : Int) := by omega
              clear hs ht
              by_cases h1 : how = 1
              · subst h1
                cases t
                · have HN1 : Hid (((1 : Int) == 1 && (inc.take (k + 1)).any (hasN ns)) = false) := Lib.hid (by
                    have := HU.out
                    rw [HTK.out, List.any_append]
                    simp at this ⊢
                    exact ⟨this, by simpa using HT.out⟩)
                  go_wp2_with fail
                  refine CN1.out.mono ?_
                  rintro e w5 ⟨rfl, q, rfl⟩
                  go_wp2
                  go_roundw
                  case rel => exact ⟨k + 1, by omega, by go_num, HN1, Lib.hid (HG.out.drewN _)⟩
                  case measure => simp [intOf]; omega
                · have HN1 : Hid (r = false) := Lib.hid (by
                    rw [← HR.out]
                    have : inc.any (hasN ns) = true := List.any_eq_true.2 ⟨s, HMM.out, HT.out⟩
                    rw [this]; rfl)
                  go_wp2_with fail
                  refine CN1.out.mono ?_
                  rintro e w5 ⟨rfl, q, rfl⟩
                  go_wp2
                  go_ret
                  exact ⟨by rw [HN1.out]; rfl, HG1.out.trans (HG.out.drewN _)⟩
              · have hb : (how == 1) = false := by simpa using h1
                have HN1 : Hid ((how == 1 && (inc.take (k + 1)).any (hasN ns)) = false) := Lib.hid (by rw [hb]; rfl)
                go_wp2
                go_roundw
                case rel => exact ⟨k + 1, by omega, by go_num, HN1, HG⟩
                case measure => simp [intOf]; omega
            · obtain rfl : k = ni := by omega
              have HN1 : Hid (r = true) := Lib.hid (by
                have := HU.out
                rw [List.take_of_length_le (Nat.le_of_eq HNI.out)] at this
                rw [← HR.out, this]; rfl)
              go_wp2
              go_ret
              exact ⟨by rw [HN1.out]; rfl, HG1.out.trans HG.out⟩
  · rw [chkM_2 hcd]
    have e0 : (card != 0) = true := by simp; omega
    have e1 : (card != 1) = true := by simp; omega
    have e2 : (card != 2) = true := by simp; omega
    clear hc1 hcd
    go_enter Tryz.func41, Tryz.ntmps41
    go_upto_region 1 with fail
    rw [HW1.out, HP.out]
    go_wp2_with fail
    refine C1.out.mono ?_
    rintro e w2 ⟨rfl, g2⟩
    have b0 := g2.cell a0; have b1 := g2.cell a1; have b2 := g2.cell a2; have b3 := g2.cell a3
    have G2 := Lib.hid (HG1.out.trans g2)
    clear g2 C1 a0 a1 a2 a3
    go_wp2
    go_ret
    exact ⟨rfl, G2.out⟩
end Go.Proofs.YtikaamonmaohjaaGreatDoor.Ir
namespace Go.Proofs.YtikaamonmaohjaaGreatDoor.Ir
open Go.RowKit
set_option maxRecDepth 100000
set_option maxHeartbeats 4000000

/-- checkNode's answer -/
def errN (d : Nf) (nk : Nat) : Int :=
  if okK d.k = false ∨ (nk : Int) ≠ kdN d.k then 1
  else if hM d.k = true ∧ checkA d.m ≠ 0 then checkA d.m
  else if tmE (hO d.k) (hL d.k) (hS d.k) d.of d.rg d.st ≠ 0 then tmE (hO d.k) (hL d.k) (hS d.k) d.of d.rg d.st
  else if hF d.k = true ∧ fnB d.k d.fn = false then 1
  else if hX d.k = true then ckV (chkM d.card d.xh d.xn d.inc)
  else if hG d.k = true then ckV (chkG d.gh d.gn)
  else if hLb d.k = true ∧ (nameB d.name = false ∨ 256 < d.value.size) then 1 else 0
theorem sh_one (k fn : Int) : (shKV k fn).all (·.oneCell') = true := by simp [shKV, shV, Value.oneCell']
theorem load_shape {ops : Array Oper} {rest : List Oper} {o : Oper} {a : Act} {w : World} {Q : Exit → Act → World → Prop} (hgd : o.guard = none) (x : Operand) (ho : o.op = .load 77 x) (b : Nat) (hx : a.eval x = .pointer (some ⟨b, 0, none⟩)) {k fn : Int} (hc : w.rangeAt b 0 (shKV k fn).toList)
    (h : wpList Tryz.prog ops Q rest (a.put o.dst (.agg (shKV k fn))) w) : wpList Tryz.prog ops Q (o :: rest) a w :=
  wpList_load_mid hgd 77 x ho b 0 hx (shKV k fn).toList _ hc Tryz.underlying77 rfl (by rw [show (shKV k fn).toList.length = 11 from rfl]; kernel_rfl) (by rw [Array.toArray_toList]; exact h)
/-- the ways of the kinds: which has matchers, a function, and what is asked last -/
theorem kind_ways {k : Int} (h : okK k = true) :
    (hM k = false ∧ hF k = false ∧ hX k = false ∧ hG k = false ∧ hLb k = false) ∨ (hM k = true ∧ hF k = false ∧ hX k = false ∧ hG k = false ∧ hLb k = false) ∨ (hM k = true ∧ hF k = true ∧ hX k = false ∧ hG k = false ∧ hLb k = false) ∨ (hM k = false ∧ hF k = true ∧ hX k = false ∧ hG k = false ∧ hLb k = false) ∨ (hM k = false ∧ hF k = true ∧ hX k = true ∧ hG k = false ∧ hLb k = false) ∨ (hM k = false ∧ hF k = true ∧ hX k = false ∧ hG k = true ∧ hLb k = false) ∨ (hM k = false ∧ hF k = false ∧ hX k = false ∧ hG k = false ∧ hLb k = true) := by
  rcases kind13 k with rfl | rfl | rfl | rfl | rfl | rfl | rfl | rfl | rfl | rfl | rfl | rfl | rfl | hno
  all_goals first | decide | skip
  unfold okK at h
  simp only [Bool.and_eq_true, decide_eq_true_eq] at h
  omega
theorem hF_k {k : Int} (h : hF k = true) : k = 4 ∨ k = 5 ∨ k = 6 ∨ k = 7 ∨ k = 8 := by
  unfold hF at h
  simp only [Bool.or_eq_true, beq_iff_eq] at h
  omega
section
variable {o : Oper} {a : Act} {w : World} {K : Act → World → Prop} {Q : Exit → Act → World → Prop} {d : Nf} {p : Np} {nk : Nat}
theorem load_nodeW (x : Operand) (ho : o.op = .load 31 x) (b of : Nat) (hx : a.eval x = .pointer (some ⟨b, of, none⟩)) (hc : CellsAt w b of (nV d p nk))
    (h : K (a.put o.dst (.agg (nV d p nk).toArray)) w) : o.wp Tryz.prog a w K Q :=
  wp_load_mid 31 x ho b of hx (nV d p nk) _ hc Tryz.underlying31 rfl info_node h
end
end Go.Proofs.YtikaamonmaohjaaGreatDoor.Ir
