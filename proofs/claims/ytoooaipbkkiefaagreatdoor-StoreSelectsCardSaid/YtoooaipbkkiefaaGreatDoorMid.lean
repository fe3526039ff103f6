/- Between two rounds of a range over a pattern's parts. -/
import Derived.Test.YtoooaipbkkiefaaGreatDoorGr
import Derived.Maps.OwnSet
import Derived.Maps.OwnOps
import Derived.Maps.RangeWalk
import Derived.Maps.Views
import Derived.Carry
import Derived.Test.YtoooaipbkkiefaaGreatDoorShelfI
import Derived.Lib.SlKeysI
import Derived.Laws.Bits64
import Derived.Laws.Bits64b
import Derived.Test.YtoooaipbkkiefaaGreatDoorBytes
import Derived.Deep.RegionHeld3
import GoSem.Op.String
import Derived.Lib.Strings
import Derived.Lib.IndexLaws
import Derived.Test.YtoooaipbkkiefaaGreatDoorShelf
import Derived.Deep.LoopGhost
import Derived.Deep.RegionLaw
import Derived.RangeFuncNested
import Derived.RangeFuncBound
import Derived.RangeFuncCalls
import Derived.RangeFuncLeaves
import Derived.Shelf.Abstract
import Derived.Shelf.RegionOpen
import Derived.OwnWalkIn
import Derived.TacticsInMore
import Derived.LoopNIn
import Derived.LoopIn
namespace Go.Proofs.YtoooaipbkkiefaaGreatDoor
open Go.RowKit Go.Maps
set_option maxRecDepth 100000
set_option maxHeartbeats 4000000
attribute [local irreducible] wpQuiet

def kI (i : Nat) : Lit := .int .i64 i
theorem kI_key (l : List Nat) : ∀ x ∈ l.map kI, WideAt.IsKeyLit x := fun x hx => by
  obtain ⟨i, -, rfl⟩ := List.mem_map.1 hx
  trivial
theorem law_I : Keyed Tryz.prog 3 := int_keyed Tryz.underlying3
/-- a set of numbers as it is laid -/
abbrev stI (l : List Nat) : DataW Unit := setOf (.agg []) (l.map kI)
theorem stI_snoc (l : List Nat) (i : Nat) : stI (l ++ [i]) = (stI l).put (kI i) (.agg []) := by
  show setOf (.agg []) ((l ++ [i]).map kI) = _
  rw [List.map_append]
  exact setOf_snoc _ _ _
theorem stI_has (l : List Nat) (x : Int) : Maps.has (stI l) (.int .i64 x) = true ↔ ∃ i ∈ l, x = (i : Int) := by
  rw [has_setOf _ _ _ (kI_key l), List.any_eq_true]
  constructor
  · rintro ⟨y, hy, h⟩
    obtain ⟨i, hi, rfl⟩ := List.mem_map.1 hy
    refine ⟨i, hi, ?_⟩
    simpa [kI, Lit.sameKey, eq_comm] using h
  · rintro ⟨i, hi, rfl⟩
    exact ⟨kI i, List.mem_map_of_mem hi, by simp [kI, Lit.sameKey]⟩
/-- a row of numbers that is read -/
def IntsAt (W : World) (A : Option Addr) (l : List Nat) : Prop := 0 < l.length → ∃ b o, A = some ⟨b, o, none⟩ ∧ ∀ (k : Nat) (x : Nat), l[k]? = some x → W.cell? ⟨b, o + k, none⟩ = some (.int .i64 x)
theorem IntsAt.gr {W W' : World} {A : Option Addr} {l : List Nat} (h : IntsAt W A l) (g : Gr W W') : IntsAt W' A l := fun h0 => by
  obtain ⟨b, o, e, hc⟩ := h h0
  exact ⟨b, o, e, fun k x hx => g.cell (hc k x hx)⟩
/-- what rarest answers: a row of numbers, whether one is asked for -/
def RarI (PP : List Nat → Bool → Prop) (w W : World) (e : Ending) (w' : World) : Prop :=
  Gr W w' ∧ ∃ a ns cc f, e = .returned (.tuple #[.slice a (List.length ns) cc, .bool f]) ∧ IntsAt w a ns ∧ ns.length ≤ 1000000000 ∧ (∀ x ∈ ns, x ≤ 1000000000) ∧ PP ns f
/-- the candidates: a map of the call's own whose keys are a list's numbers -/
def CandP (PP : List Nat → Bool → Prop) (N : Nat) (w : World) (e : Ending) (w' : World) : Prop :=
  ∃ b k ns f l, e = .returned (.map (some b)) ∧ w.heap.size ≤ b ∧ Gr w w' ∧ PP ns f ∧ w'.ownsMap Tryz.prog 3 (unitElem (H := Unit)) b k (stI l) ∧ k ≤ 2000000000 ∧ (f = true → l = ns) ∧ (f = false → l = ns ++ List.range N)
theorem Gr.row {w w1 w2 : World} {row : Option Nat} (h : Gr w w1) (g : w1.grownBy w2 row) (hb : ∀ k, row = some k → w.heap.size ≤ k) : Gr w w2 := ⟨h.b.grown g h.b.size hb⟩
theorem Gr.gbI {W W' : World} (g : Gr W W') : W.grownBy W' none := ⟨g.b.os, g.b.tape, g.b.output, g.b.size, fun i hi _ => g.b.block i hi⟩

theorem cand_any (PP : List Nat → Bool → Prop) (S : Nat) (A : Option Addr) (n c : Nat) (A0 : Option Addr) (N c0 : Nat) (w : World) (hN : N ≤ 1000000000) (hs : w.cell? ⟨S, 0, none⟩ = some (.slice A0 N c0))
    (hR : ∀ W, Gr w W → Calls Tryz.prog 66 #[.pointer (some ⟨S, 0, none⟩), .slice A n c] W (RarI PP w W)) :
    Calls Tryz.prog 31 #[.pointer (some ⟨S, 0, none⟩), .slice A n c] w (CandP PP N w) := by
  have HR := Lib.hid hR; have HS := Lib.hid hs
  have hmm := @run_makeMap Tryz.prog
  clear hR hs
  go_enter Tryz.func31, Tryz.ntmps31
  go_wp2_with fail
  refine (HR.out _ ⟨(Below.refl _ _).alloc (Nat.le_refl _) _⟩).mono ?_
  rintro e w1 ⟨g1, a, ns, cc, f, rfl, hi, hnl, hnb, hP⟩
  have HO : Hid (w1.ownsMap Tryz.prog 3 (unitElem (H := Unit)) w.heap.size 0 (stI [])) := Lib.hid ((World.ownsMap_made w Tryz.prog 3 _).kept g1.gbI (by simp))
  have G1 : Hid (Gr w w1) := Lib.hid (Gr.trans ⟨(Below.refl _ _).alloc (Nat.le_refl _) _⟩ g1)
  have HI := Lib.hid hi; have HB := Lib.hid hnb; have HP := Lib.hid hP
  clear g1 hi hnb hP hmm
  obtain ⟨L, hL⟩ : ∃ L, ns.length = L := ⟨_, rfl⟩
  rw [hL] at hnl ⊢
  have HL := Lib.hid hL
  clear hL
  go_wp2
  go_loopw [20] (fun i wr => ∃ k : Nat, k ≤ L ∧ i = .int .i64 k ∧ Hid (wr.ownsMap Tryz.prog 3 (unitElem (H := Unit)) w.heap.size k (stI (ns.take k))) ∧ Hid (Gr w wr)) (fun i _ => L - (intOf i).toNat)
  case atStart => exact ⟨0, Nat.zero_le _, rfl, HO, G1⟩
  case round =>
    obtain ⟨k, hk, rfl, HO2, G2⟩ := hrel
    by_cases hlt : k < L
    · have h3 : k < ns.length := by rw [HL.out]; exact hlt
      obtain ⟨b, o, rfl, hc⟩ := HI.out (by omega)
      have c1 := G2.out.cell (hc k _ (List.getElem?_eq_getElem h3))
      have htk : ns.take (k + 1) = ns.take k ++ [ns[k]] := List.take_succ_eq_append_getElem h3
      have hb1 := HB.out _ (List.getElem_mem h3)
      obtain ⟨x, hx⟩ : ∃ x, ns[k] = x := ⟨_, rfl⟩
      rw [hx] at c1 htk hb1
      have HTK := Lib.hid htk
      clear hx htk hc h3
      have hkey : keyOf Tryz.prog 3 (.int .i64 (x : Int)) = some (kI x) := keyOf_int_mk Tryz.underlying3 (WalkArith.wf_i64 (by omega))
      have HK := Lib.hid hkey
      clear hkey
      have f1 : (k : Int) < (L : Int) := by omega
      have f2 : (0 : Int) ≤ (k : Int) := by omega
      go_wp2_with (at_mapUpdate; refine wpList_mapUpdate_own _ rfl _ _ _ 82 rfl 3 96 law_I Tryz.underlying82 (unitElem (H := Unit)) w.heap.size k _ rfl HO2.out (by unfold maxLen; omega) _ _ _ rfl rfl HK.out _ [] unitElem_mk ?_; intro w3 hown1 hgrow1)
      go_roundw
      case rel => exact ⟨k + 1, by omega, by go_num, Lib.hid (by rw [HTK.out, stI_snoc]; exact hown1), Lib.hid (G2.out.row hgrow1 (fun j hj => by cases hj; exact Nat.le_refl _))⟩
      case measure => simp [intOf]; omega
    · obtain rfl : k = L := by omega
      have HO3 : Hid (wr.ownsMap Tryz.prog 3 (unitElem (H := Unit)) w.heap.size k (stI ns)) := Lib.hid (by have := HO2.out; rwa [← HL.out, List.take_length, HL.out] at this)
      cases f
      case true =>
        go_wp2
        go_ret
        exact ⟨_, k, ns, true, ns, rfl, Nat.le_refl _, G2.out, HP.out, HO3.out, by omega, (fun _ => rfl), (fun h => by cases h)⟩
      case false =>
        have HSR := G2.out.cell HS.out
        go_wp2
        go_loopw [35] (fun i w5 => ∃ j : Nat, j ≤ N ∧ i = .int .i64 j ∧ Hid (w5.ownsMap Tryz.prog 3 (unitElem (H := Unit)) w.heap.size (k + j) (stI (ns ++ List.range j))) ∧ Hid (Gr w w5)) (fun i _ => N - (intOf i).toNat)
        case atStart => exact ⟨0, Nat.zero_le _, rfl, Lib.hid (by simpa using HO3.out), G2⟩
        case round =>
          obtain ⟨j, hj, rfl, HO4, G3⟩ := hrel
          by_cases hjl : j < N
          · have hkey : keyOf Tryz.prog 3 (.int .i64 (j : Int)) = some (kI j) := keyOf_int_mk Tryz.underlying3 (WalkArith.wf_i64 (by omega))
            have HK := Lib.hid hkey
            have HTK : Hid (ns ++ List.range (j + 1) = (ns ++ List.range j) ++ [j]) := Lib.hid (by rw [List.range_succ, List.append_assoc])
            clear hkey
            have f1 : (j : Int) < (N : Int) := by omega
            have f2 : (0 : Int) ≤ (j : Int) := by omega
            go_wp2_with (at_mapUpdate; refine wpList_mapUpdate_own _ rfl _ _ _ 82 rfl 3 96 law_I Tryz.underlying82 (unitElem (H := Unit)) w.heap.size (k + j) _ rfl HO4.out (by unfold maxLen; omega) _ _ _ rfl rfl HK.out _ [] unitElem_mk ?_; intro w3 hown1 hgrow1)
            go_roundw
            case rel => exact ⟨j + 1, by omega, by go_num, Lib.hid (by rw [HTK.out, stI_snoc]; exact hown1), Lib.hid (G3.out.row hgrow1 (fun j hj => by cases hj; exact Nat.le_refl _))⟩
            case measure => simp [intOf]; omega
          · obtain rfl : j = N := by omega
            go_wp2
            go_ret
            exact ⟨_, k + j, ns, false, _, rfl, Nat.le_refl _, G3.out, HP.out, HO4.out, by omega, (fun h => by cases h), fun _ => rfl⟩
end Go.Proofs.YtoooaipbkkiefaaGreatDoor
namespace Go.Proofs.YtoooaipbkkiefaaGreatDoor
open Go.RowKit Go.Maps Go.Sort Go.Shelf
set_option maxRecDepth 100000
set_option maxHeartbeats 1000000

/-- maps.Keys makes one cell that holds the map -/
theorem keysI_any (mb : Option Nat) (W : World) :
    Calls Tryz.prog 35 #[.map mb] W fun e w' => e = .returned (.func (.func 71) #[] #[.pointer (some ⟨W.heap.size, 0, none⟩)]) ∧ w' = W.alloc (.cells #[.map mb] 82) :=
  (callsIn_wide (n := 5)).1 (AnyZI.keys_in Tryz.keysI Fence.wide 5 trivial rfl mb W)
theorem sortsI (m : Nat) : AnyZI.SortsIn Tryz.prog Tryz.sortedI_ren Fence.wide m :=
  ⟨fun blk off cap ss W hH hblk hsz => callsIn_wide.2 (AnyM.slices_Sort_int Tryz.sortI blk off cap ss W hH hblk hsz),
   fun p cap W => callsIn_wide.2 (AnyM.slices_Sort_int_none Tryz.sortI p cap W)⟩
theorem sortedI_any {H : Type} (b nn : Nat) (D0 : DataW H) (R : Value → Option (DataW H × List MemPlace)) (w : World) (hown : w.ownsMap Tryz.prog 3 R b nn D0) (hmax : Maps.size D0 ≤ maxLen) (hbytes : Maps.size D0 * 8 ≤ 140737488355328) :
    Calls Tryz.prog 34 #[.func (.func 71) #[] #[.pointer (some ⟨w.heap.size, 0, none⟩)]] (w.alloc (.cells #[.map (some b)] 82)) fun e w' =>
      ∃ (v : Value) (ss : List Int), e = .returned v ∧ ss.Perm (intKeys D0) ∧ w'.ownsRow w.heap.size 3 1 v ss.length ((ss.mergeSort leI).map encZ) ∧ Gr (w.alloc (.cells #[.map (some b)] 82)) w' := by
  refine (callsIn_wide (n := 5)).1 ?_
  have hbl := hown.lt
  have hseq : SeqGives Fence.wide 2 Tryz.prog 71 #[.pointer (some ⟨w.heap.size, 0, none⟩)] encZ (fun ss => ss.Perm (intKeys D0)) (Maps.size D0) (w.alloc (.cells #[.map (some b)] 82)) :=
    AnyZI.keys_gives (ρ := Tryz.keysI_ren) { Tryz.keysI with } Fence.wide _ trivial rfl (by omega) w.heap.size b nn D0 _ (by simp) (by simp) (by
      obtain ⟨es, clock, hb, Ft, hs, hD⟩ := hown
      exact ⟨es, clock, (Below.heap_alloc _ _ b hbl).trans hb, Ft, hs, hD⟩)
  have cS := AnyZI.sorted_in Tryz.sortedI Fence.wide 5 trivial trivial trivial trivial rfl (by omega) (sortsI _) (enters_of Tryz.func70 (by kernel_rfl) rfl) 71 #[.pointer (some ⟨w.heap.size, 0, none⟩)] trivial (enters_of Tryz.func71 (by kernel_rfl) rfl) _ _ hmax hbytes _ hseq
  change CallsIn _ _ Tryz.prog 34 _ _ _ at cS
  refine cS.mono ?_
  rintro e w' ⟨v, ss, rfl, hS, hrow, hnil, hb⟩
  exact ⟨v, ss, rfl, hS, ownsRow_base_a hrow (by simp), ⟨hb⟩⟩
/-- what is selected of a set, in order -/
theorem sorted_eq {w : World} {b nn N : Nat} {D : DataW Unit} {fl : Nat → Bool} {R : Value → Option (DataW Unit × List MemPlace)} (hown : w.ownsMap Tryz.prog 3 R b nn D) (hm : ∀ y : Int, Maps.has D (.int .i64 y) = true ↔ ∃ i, i < N ∧ fl i = true ∧ y = (i : Int)) {ss : List Int} (hp : ss.Perm (intKeys D)) :
    ss.mergeSort leI = ((List.range N).filter fl).map fun i : Nat => (i : Int) := by
  have inj : ∀ l : List Nat, l.Pairwise (· < ·) → (l.map fun i : Nat => (i : Int)).Pairwise (fun a b => leI a b = true) := fun l h => List.pairwise_map.2 (h.imp fun {a b} e => by simp only [leI, decide_eq_true_eq]; omega)
  have hs : ((List.range N).filter fl).Pairwise (· < ·) := List.Pairwise.filter _ List.pairwise_lt_range
  have hnd : (((List.range N).filter fl).map fun i : Nat => (i : Int)).Nodup := List.pairwise_map.2 (hs.imp fun {a b} e => by omega)
  have hc : CollectedI D (fun _ => false) (((List.range N).filter fl).map fun i : Nat => (i : Int)) := ⟨hnd, fun x => by
    rw [hm x, List.mem_map]
    constructor
    · rintro ⟨i, hi, rfl⟩
      have := List.mem_filter.1 hi
      exact ⟨⟨i, List.mem_range.1 this.1, this.2, rfl⟩, rfl⟩
    · rintro ⟨⟨i, h1, h2, rfl⟩, -⟩
      exact ⟨i, List.mem_filter.2 ⟨List.mem_range.2 h1, h2⟩, rfl⟩⟩
  rw [mergeSort_of_perm_i (hp.trans (hc.perm hown law_I Tryz.underlying3 fun _ => rfl).symm), List.mergeSort_of_pairwise (inj _ hs)]
end Go.Proofs.YtoooaipbkkiefaaGreatDoor
namespace Go.Proofs.YtoooaipbkkiefaaGreatDoor
open Go.RowKit Go.Maps Go.Sort
set_option maxRecDepth 100000
set_option maxHeartbeats 4000000
attribute [local irreducible] wpQuiet

/-- what All answers; what rarest answers of it -/
def AllI (PP : List Nat → Bool → Prop) (S nm : Nat) (W : World) (e : Ending) (w' : World) : Prop :=
  Gr W w' ∧ ∃ A c, e = .returned (.slice A nm c) ∧ ∀ W', Gr w' W' → Calls Tryz.prog 66 #[.pointer (some ⟨S, 0, none⟩), .slice A nm c] W' (RarI PP w' W')
/-- the map as the loop has left it: of the keys that it had, those still to come and those that match -/
def LeftP (D0 D : DataW Unit) (left : Lit → Bool) (fl : Nat → Bool) : Prop := ∀ y : Int, Maps.has D (.int .i64 y) = true ↔ Maps.has D0 (.int .i64 y) = true ∧ (left (.int .i64 y) = true ∨ fl y.toNat = true)
theorem LeftP.start (D : DataW Unit) (fl : Nat → Bool) : LeftP D D (Maps.has D) fl := fun _ => ⟨fun h => ⟨h, .inl h⟩, fun h => h.1⟩
theorem sameKey_int (x y : Int) : (Lit.int .i64 y).sameKey (.int .i64 x) = decide (y = x) := by simp [Lit.sameKey]
theorem LeftP.stays {D0 D : DataW Unit} {left : Lit → Bool} {fl : Nat → Bool} (h : LeftP D0 D left fl) {x : Int} (hf : fl x.toNat = true) : LeftP D0 D (fun z => left z && !z.sameKey (.int .i64 x)) fl := fun y => by
  rw [h y]
  simp only [sameKey_int]
  by_cases e : y = x
  · subst e; simp [hf]
  · simp [e]
theorem LeftP.struck {D0 D : DataW Unit} {left : Lit → Bool} {fl : Nat → Bool} (h : LeftP D0 D left fl) {x : Int} (hf : fl x.toNat = false) : LeftP D0 (D.del (.int .i64 x)) (fun z => left z && !z.sameKey (.int .i64 x)) fl := fun y => by
  simp only [sameKey_int]
  by_cases e : y = x
  · subst e; simp [hf, has_del_same]
  · rw [has_del_other (by simpa using e), h y]; simp [e]
/-- the series, one by one -/
def SerC (M : Nat) (A0 : Option Addr) (N : Nat) (fl : Nat → Bool) (w : World) : Prop := 0 < N → ∃ b o, A0 = some ⟨b, o, none⟩ ∧ ∀ i, i < N → ∃ B ni di, w.cell? ⟨b, o + i * 2, none⟩ = some (.slice B ni di) ∧
  ∀ W, Gr w W → Calls Tryz.prog 33 #[.pointer (some ⟨M, 0, none⟩), .slice B ni di] W fun e w' => e = .returned (.bool (fl i)) ∧ Gr W w'

/-- the numbers of the series that match -/
def selN (N : Nat) (fl : Nat → Bool) : List Nat := (List.range N).filter fl
theorem ints_form {W : World} {B : Nat} {v : Value} {l : List Nat} (h : W.ownsRow B 3 1 v l.length (l.map fun i : Nat => Value.int .i64 i)) : ∃ A c, v = .slice A l.length c ∧ IntsAt W A l := by
  have hcl := fun (g : Nat) (hg : v.ownBlock = some g) => h.cells hg
  rcases h.2 with ⟨e, e0⟩ | ⟨g, cap, cur, rfl, hb, hg, h1, h2, h3, h4⟩
  · exact ⟨none, 0, by rw [e, e0], fun hh => absurd hh (by omega)⟩
  · refine ⟨_, cap, rfl, fun h0 => ⟨g, 0, rfl, fun i x hx => ?_⟩⟩
    have d1 := hcl g rfl i (.int .i64 x) (by rw [List.getElem?_map, hx]; rfl)
    have e : (⟨g, 0, none⟩ : Addr).add i = ⟨g, 0 + i, none⟩ := by unfold Addr.add; split <;> simp_all
    rw [e] at d1
    exact d1
/-- what Select answers -/
def SelP (N : Nat) (fl : Nat → Bool) (w : World) (e : Ending) (w' : World) : Prop := ∃ A c, e = .returned (.slice A (selN N fl).length c) ∧ IntsAt w' A (selN N fl) ∧ Gr w w'

theorem sel_any (PP : List Nat → Bool → Prop) (S M nm : Nat) (A0 : Option Addr) (N c0 : Nat) (fl : Nat → Bool) (w : World) (hN : N ≤ 1000000000) (hs : w.cell? ⟨S, 0, none⟩ = some (.slice A0 N c0))
    (hA : ∀ W, Gr w W → Calls Tryz.prog 32 #[.pointer (some ⟨M, 0, none⟩)] W (AllI PP S nm W)) (hC : SerC M A0 N fl w)
    (hP : ∀ ns f l, PP ns f → (f = true → l = ns) → (f = false → l = ns ++ List.range N) → (∀ i ∈ l, i < N) ∧ (∀ i, i < N → fl i = true → i ∈ l)) :
    Calls Tryz.prog 10 #[.pointer (some ⟨S, 0, none⟩), .pointer (some ⟨M, 0, none⟩)] w (SelP N fl w) := by
  have HA := Lib.hid hA; have HS := Lib.hid hs; have HC := Lib.hid hC; have HP := Lib.hid hP
  clear hA hs hC hP
  go_enter Tryz.func10, Tryz.ntmps10
  go_wp2_with fail
  refine (HA.out _ (Gr.refl _)).mono ?_
  rintro e w1 ⟨g1, A, c, rfl, hR⟩
  have CC := Lib.hid (cand_any PP S A nm c A0 N c0 w1 hN (g1.cell HS.out) hR)
  go_wp2_with fail
  refine CC.out.mono ?_
  rintro e w2 ⟨b, k, ns, f, l, rfl, hb, g2, hPP, ho, hk, l1, l2⟩
  have HL := Lib.hid (HP.out ns f l hPP l1 l2)
  have HO := Lib.hid ho
  have hb' : w.heap.size ≤ b := Nat.le_trans g1.b.size hb
  have G2 := Lib.hid (g1.trans g2)
  have HH := Lib.hid (stI_has l)
  obtain ⟨D0, hD0⟩ : ∃ D, stI l = D := ⟨_, rfl⟩
  rw [hD0] at HO HH
  clear CC hR g1 g2 hPP ho hb l1 l2 hD0 HP HA
  go_wp2_with (at_range; refine wpList_range_own _ rfl _ 82 rfl 3 96 law_I Tryz.underlying82 _ b k _ rfl HO.out ?_; intro w0 hrg0 hg0 hs0)
  go_frame
  have hr0 := G2.out.b.size
  obtain ⟨r, hr⟩ : ∃ r, w2.heap.size = r := ⟨_, rfl⟩
  rw [hr] at hrg0 hr0 ⊢
  go_loopw [6] (fun _ wr => ∃ (D : DataW Unit) (left : Lit → Bool) (cnt : Nat), Hid (wr.ranges Tryz.prog 3 (unitElem (H := Unit)) b r k D left cnt) ∧ Hid (LeftP D0 D left fl) ∧ Hid (Gr w wr)) (fun _ wr => wr.rangeLeft b r)
  case atStart => exact ⟨_, _, _, Lib.hid hrg0, Lib.hid (LeftP.start _ _), Lib.hid (G2.out.row hg0 (fun j hj => by cases hj))⟩
  case round =>
    obtain ⟨D, left, cnt, HRG, HLF, HG⟩ := hrel
    go_wp2_with (at_next; refine wpList_next_ranges _ rfl _ rfl 3 law_I (unitElem (H := Unit)) (Value.int .i64) (fun _ : Unit => Value.agg #[]) (fun key kl hkey => by obtain ⟨x, rfl, _⟩ := Maps.keyOf_int_inv Tryz.underlying3 hkey; exact ⟨x, rfl⟩) (fun v y hv => ⟨(), (unitElem_inv hv).1⟩) b r k _ _ _ rfl HRG.out ?_ ?_)
    · -- nothing is left
      intro _ hl0
      have hd : ∀ y : Int, Maps.has D (.int .i64 y) = true ↔ ∃ i, i < N ∧ fl i = true ∧ y = (i : Int) := fun y => by
        rw [HLF.out y, hl0]
        constructor
        · rintro ⟨h1, h2⟩
          obtain ⟨i, hi, rfl⟩ := (HH.out _).1 h1
          rcases h2 with h2 | h2
          · cases h2
          · exact ⟨i, HL.out.1 i hi, by rwa [Int.toNat_natCast] at h2, rfl⟩
        · rintro ⟨i, h1, h2, rfl⟩
          exact ⟨(HH.out _).2 ⟨i, HL.out.2 i h1 h2, rfl⟩, .inr (by rw [Int.toNat_natCast]; exact h2)⟩
      have ho5 := HRG.out.owns
      have hz : Maps.size D ≤ N := by
        have e1 := congrArg List.length (sorted_eq ho5 hd (List.Perm.refl _))
        rw [List.length_mergeSort, List.length_map] at e1
        have e2 : ((List.range N).filter fl).length ≤ N := by have := List.length_filter_le fl (List.range N); rwa [List.length_range] at this
        have e3 : (intKeys D).length = Maps.size D := by
          obtain ⟨es, rfl, -⟩ := ho5.entries law_I
          simp [intKeys, Maps.size]
        omega
      have CK := Lib.hid (keysI_any (some b) wr)
      have CS := Lib.hid (sortedI_any b k D _ wr ho5 (by unfold maxLen; omega) (by omega))
      have HD := Lib.hid hd; have HO5 := Lib.hid ho5
      clear hl0 hd ho5 hz
      go_wp2_with fail
      refine CK.out.mono ?_
      rintro e w5 ⟨rfl, rfl⟩
      go_wp2_with fail
      refine CS.out.mono ?_
      rintro e w6 ⟨v, ss, rfl, hp, hrow, g6⟩
      have e1 := sorted_eq HO5.out HD.out hp
      have e2 : ss.length = (selN N fl).length := by rw [← List.length_mergeSort (le := leI), e1, List.length_map]; rfl
      rw [e1, e2, List.map_map] at hrow
      obtain ⟨A9, c9, rfl, hi9⟩ := ints_form hrow
      have HI9 := Lib.hid hi9; have G9 := Lib.hid (HG.out.trans (Gr.trans ((Gr.refl _).alloc _ _) g6))
      clear e1 e2 hp hrow hi9 g6
      obtain ⟨L9, hL9⟩ : ∃ L, (selN N fl).length = L := ⟨_, rfl⟩
      have HL9 := Lib.hid hL9
      rw [hL9]
      clear hL9
      go_wp2
      go_ret
      exact ⟨A9, c9, by rw [HL9.out]; rfl, HI9.out, G9.out⟩
    · -- an entry has come
      intro x _ kl y w5 cnt1 hkey hlk hy hat hrg1 hlt hg1 hs1 hen
      obtain ⟨x', ex, rfl, hwx⟩ := Maps.keyOf_int_inv Tryz.underlying3 hkey
      cases ex
      have hx0 : Maps.has D (.int .i64 x) = true := has_true_of_atKey hat
      obtain ⟨i, hil, rfl⟩ := (HH.out x).1 ((HLF.out x).1 hx0).1
      have hiN := HL.out.1 i hil
      obtain ⟨B0, o0, rfl, hcs⟩ := HC.out (by omega)
      obtain ⟨B, ni, di, hcell, hmt⟩ := hcs i hiN
      have G5 := Lib.hid (HG.out.row hg1 (fun j hj => by cases hj; exact hr0))
      have c1 := G5.out.cell hcell
      have c2 := G5.out.cell HS.out
      have CM := Lib.hid (hmt w5 G5.out)
      have HRG1 := Lib.hid hrg1
      have HKE := Lib.hid hkey
      have hlt' : wr.rangeLeft b r = cnt := HRG.out.left_eq
      clear hkey hlk hy hat hrg1 hcs hmt hcell hx0 hil hg1 hs1 hwx
      obtain ⟨t, ht⟩ : ∃ t, fl i = t := ⟨_, rfl⟩
      rw [ht] at CM
      have HT := Lib.hid ht
      clear ht
      have f1 : (i : Int) < (N : Int) := by omega
      have f2 : (0 : Int) ≤ (i : Int) := by omega
      go_wp2_with fail
      refine CM.out.mono ?_
      rintro e w6 ⟨rfl, g6⟩
      have HRG2 := Lib.hid (HRG1.out.kept g6.gbI (by simp) (by simp))
      have G6 := Lib.hid (G5.out.trans g6)
      clear g6
      cases t
      · have HLN := Lib.hid (HLF.out.struck (x := (i : Int)) (by rw [Int.toNat_natCast]; exact HT.out))
        go_wp2_with (at_delete; refine wpList_delete_ranges _ rfl _ _ 82 3 rfl 96 law_I Tryz.underlying82 _ b r k _ _ _ rfl HRG2.out _ _ rfl HKE.out ?_; intro w7 cnt2 hrg2 hle hturn; go_frame)
        rw [strike_twice] at hrg2
        go_roundw
        case rel => exact ⟨_, _, cnt2, Lib.hid hrg2, HLN, Lib.hid (G6.out.row hturn.grown (fun j hj => by cases hj; exact hb'))⟩
        case measure => rw [hrg2.left_eq, hlt']; omega
      · have HLN := Lib.hid (HLF.out.stays (x := (i : Int)) (by rw [Int.toNat_natCast]; exact HT.out))
        go_wp2
        go_roundw
        case rel => exact ⟨_, _, cnt1, HRG2, HLN, G6⟩
        case measure => rw [HRG2.out.left_eq, hlt']; exact hlt
end Go.Proofs.YtoooaipbkkiefaaGreatDoor
namespace Go.Proofs.YtoooaipbkkiefaaGreatDoor
open Go.RowKit
set_option maxRecDepth 100000
set_option maxHeartbeats 2000000

/-- a word says which of 64 bytes are in -/
def Wd64 (v : Nat) (p : Nat → Bool) (i : Nat) : Prop := v < 18446744073709551616 ∧ ∀ j, j < 64 → v.testBit j = p (64 * i + j)
theorem pow_lt {j : Nat} (h : j < 64) : 2 ^ j < 18446744073709551616 := by
  have : 2 ^ j < 2 ^ 64 := Nat.pow_lt_pow_right (by omega) h
  omega
theorem wrap_pow {j : Nat} (h : j < 64) : IntKind.u64.wrap ((2 : Int) ^ j) = ((2 ^ j : Nat) : Int) := by
  have h1 := pow_lt h
  rw [IntKind.wrap_u64, show ((2 : Int) ^ j) = ((2 ^ j : Nat) : Int) by simp]
  generalize 2 ^ j = n at *
  omega
theorem and_two (v j : Nat) : v &&& 2 ^ j = if v.testBit j then 2 ^ j else 0 := by
  refine Nat.eq_of_testBit_eq fun k => ?_
  rw [Nat.testBit_and, Nat.testBit_two_pow]
  by_cases e : j = k
  · subst e
    cases h : v.testBit j <;> simp
  · cases h : v.testBit j <;> simp [e]
theorem and_pow {v j : Nat} (hv : v < 18446744073709551616) (h : j < 64) : (bits BinOp.and IntKind.u64 (v : Int) (IntKind.u64.wrap ((2 : Int) ^ j)) != 0) = v.testBit j := by
  rw [wrap_pow h, bits_and_u64_nat v _ hv (pow_lt h), and_two]
  have h0 : 2 ^ j ≠ 0 := Nat.ne_of_gt (Nat.two_pow_pos j)
  generalize 2 ^ j = n at *
  cases v.testBit j
  · rfl
  · simp; omega
theorem or_pow {v j : Nat} (hv : v < 18446744073709551616) (h : j < 64) : bits BinOp.or IntKind.u64 (v : Int) (IntKind.u64.wrap ((2 : Int) ^ j)) = ((v ||| 2 ^ j : Nat) : Int) := by
  rw [wrap_pow h, bits_or_u64_nat v _ hv (pow_lt h)]
theorem Wd64.add {v : Nat} {p : Nat → Bool} {i j : Nat} (h : Wd64 v p i) (hj : j < 64) : Wd64 (v ||| 2 ^ j) (fun x => p x || decide (x = 64 * i + j)) i := by
  refine ⟨Nat.or_lt_two_pow (n := 64) h.1 (pow_lt hj), fun k hk => ?_⟩
  rw [Nat.testBit_or, h.2 k hk, Nat.testBit_two_pow]
  congr 1
  rw [decide_eq_decide]; omega
theorem Wd64.other {v : Nat} {p : Nat → Bool} {i c : Nat} (h : Wd64 v p i) (hc : c / 64 ≠ i) : Wd64 v (fun x => p x || decide (x = c)) i := by
  refine ⟨h.1, fun k hk => ?_⟩
  rw [h.2 k hk]
  have : decide (64 * i + k = c) = false := by simp; intro e; omega
  simp only [this, Bool.or_false]
def inR (c d x : Nat) : Bool := decide (c ≤ x ∧ x ≤ d)
def BsAt (W : World) (b o : Nat) (p : Nat → Bool) : Prop := ∀ i, i < 4 → ∃ v : Nat, W.cell? ⟨b, o + i, none⟩ = some (.int .u64 v) ∧ W.frozen? ⟨b, o + i, none⟩ = false ∧ Wd64 v p i
theorem has_any (b o : Nat) (p : Nat → Bool) (c : Nat) (w : World) (h : BsAt w b o p) (hc : c < 256) :
    Calls Tryz.prog 131 #[.pointer (some ⟨b, o, none⟩), .int .u8 c] w fun e w' => e = .returned (.bool (p c)) ∧ w = w' := by
  obtain ⟨v, hv, -, hw, hb⟩ := h (c / 64) (by omega)
  have hb2 := hb (c % 64) (by omega)
  rw [show 64 * (c / 64) + c % 64 = c by omega] at hb2
  have hi : (c : Int) / 64 = ((c / 64 : Nat) : Int) := by omega
  have hj : (c : Int) % 64 = ((c % 64 : Nat) : Int) := by omega
  have hi4 : c / 64 < 4 := by omega
  have hj6 : c % 64 < 64 := by omega
  obtain ⟨i, hI⟩ : ∃ i, c / 64 = i := ⟨_, rfl⟩
  obtain ⟨j, hJ⟩ : ∃ j, c % 64 = j := ⟨_, rfl⟩
  rw [hI] at hi hi4 hv
  rw [hJ] at hj hj6 hb2
  clear hI hJ hb h
  go_enter Tryz.func131, Tryz.ntmps131
  go_wp2
  go_ret
  exact ⟨by rw [← hb2, ← and_pow hw hj6]; rfl, rfl⟩
/-- the other cells of the block stay -/
def KeepsB (W W' : World) (b o : Nat) : Prop := ∀ j, j < o ∨ o + 4 ≤ j → W'.cell? ⟨b, j, none⟩ = W.cell? ⟨b, j, none⟩ ∧ W'.frozen? ⟨b, j, none⟩ = W.frozen? ⟨b, j, none⟩
theorem KeepsB.refl (W : World) (b o : Nat) : KeepsB W W b o := fun _ _ => ⟨rfl, rfl⟩
theorem KeepsB.set {W W' : World} {b o : Nat} (h : KeepsB W W' b o) {i : Nat} (hi : i < 4) (u : Value) : KeepsB W (W'.setCell ⟨b, o + i, none⟩ u) b o := fun j hj =>
  ⟨(World.cell?_setCell_other _ _ _ _ (by simp <;> omega)).trans (h j hj).1, (by rw [World.frozen?_setCell]; exact (h j hj).2)⟩
theorem BsAt.set {W : World} {b o : Nat} {p : Nat → Bool} (h : BsAt W b o p) {c v : Nat} (hv : W.cell? ⟨b, o + c / 64, none⟩ = some (.int .u64 v)) :
    BsAt (W.setCell ⟨b, o + c / 64, none⟩ (.int .u64 ((v ||| 2 ^ (c % 64) : Nat) : Int))) b o (fun x => p x || decide (x = c)) := fun i hi => by
  obtain ⟨v', hv', hf', hw'⟩ := h i hi
  by_cases e : c / 64 = i
  · subst e
    rw [hv] at hv'
    have : v = v' := by simp at hv'; omega
    subst this
    refine ⟨_, World.cell?_setCell_same _ _ _ hv, by rw [World.frozen?_setCell]; exact hf', ?_⟩
    have := hw'.add (j := c % 64) (by omega)
    rwa [show 64 * (c / 64) + c % 64 = c by omega] at this
  · exact ⟨v', (World.cell?_setCell_other _ _ _ _ (by simp <;> omega)).trans hv', by rw [World.frozen?_setCell]; exact hf', hw'.other e⟩
theorem BsAt.congr {W : World} {b o : Nat} {p q : Nat → Bool} (h : BsAt W b o p) (e : ∀ x, x < 256 → p x = q x) : BsAt W b o q := fun i hi => by
  obtain ⟨v, h1, h2, h3, h4⟩ := h i hi
  exact ⟨v, h1, h2, h3, fun j hj => by rw [h4 j hj, e _ (by omega)]⟩
theorem add_any (b o : Nat) (p : Nat → Bool) (c d : Nat) (w : World) (h : BsAt w b o p) (hc : c < 256) (hd : d < 256) :
    Calls Tryz.prog 189 #[.pointer (some ⟨b, o, none⟩), .int .u8 c, .int .u8 d] w fun e w' => e = .returned (.tuple #[]) ∧ BsAt w' b o (fun x => p x || inR c d x) ∧ Only w w' b ∧ KeepsB w w' b o := by
  have HB := Lib.hid h
  clear h
  go_enter Tryz.func189, Tryz.ntmps189
  go_wp2
  go_loopw [6] (fun v wr => ∃ k : Nat, c ≤ k ∧ k ≤ 256 ∧ v = .int .i64 k ∧ Hid (BsAt wr b o (fun x => p x || decide (c ≤ x ∧ x < k ∧ x ≤ d))) ∧ Hid (Only w wr b) ∧ Hid (KeepsB w wr b o)) (fun v _ => 256 - (intOf v).toNat)
  case atStart => exact ⟨c, Nat.le_refl _, by omega, rfl, HB.out.congr (fun x _ => by have : decide (c ≤ x ∧ x < c ∧ x ≤ d) = false := by simp; omega
                                                                                      rw [this, Bool.or_false]), Only.refl _ _, KeepsB.refl _ _ _⟩
  case round =>
    obtain ⟨k, hck, hk, rfl, HB1, HO, HK⟩ := hrel
    by_cases hkd : k ≤ d
    · have h1 : (k : Int) ≤ (d : Int) := by omega
      obtain ⟨v, hv, hf, hw⟩ := HB1.out (k / 64) (by omega)
      have HS := Lib.hid (HB1.out.set (c := k) hv)
      have hor := or_pow (v := v) (j := k % 64) hw.1 (by omega)
      have hi : (k : Int) / 64 = ((k / 64 : Nat) : Int) := by omega
      have hj : (k : Int) % 64 = ((k % 64 : Nat) : Int) := by omega
      have hi4 : k / 64 < 4 := by omega
      have hj6 : k % 64 < 64 := by omega
      have hj7 : ((k : Int) % 64).toNat = k % 64 := by omega
      have hj8 : (0 : Int) ≤ (k : Int) % 64 := by omega
      have HI := Lib.hid hi4
      go_wp2_with fail
      have mixed : Tryz.prog.follows Departure.mixedOrders = true := by kernel_rfl
      obtain ⟨q, hq⟩ : ∃ q, k / 64 = q := ⟨_, rfl⟩
      obtain ⟨t, ht⟩ : ∃ t, k % 64 = t := ⟨_, rfl⟩
      have HQ := Lib.hid hq; have HT := Lib.hid ht
      rw [hq] at hv hf hi hi4
      rw [ht] at hor hj hj6 hj7
      clear hq ht
      go_region
      have HS2 : Hid (BsAt (wr.setCell ⟨b, o + q, none⟩ (.int .u64 ((v ||| 2 ^ t : Nat) : Int))) b o (fun x => p x || decide (c ≤ x ∧ x < k + 1 ∧ x ≤ d))) := Lib.hid (by
        have h := HS.out
        rw [HQ.out, HT.out] at h
        refine h.congr fun x _ => ?_
        rw [Bool.or_assoc]
        congr 1
        rw [← Bool.decide_or, decide_eq_decide]
        omega)
      go_wp2
      go_roundw
      case rel => exact ⟨k + 1, by omega, by omega, by go_num, HS2, Lib.hid ((HO.out.setCell (by rfl) _).gr (Gr.refl _).drew), Lib.hid (HK.out.set hi4 _)⟩
      case measure => simp [intOf]; omega
    · have HE : Hid (BsAt wr b o (fun x => p x || inR c d x)) := Lib.hid (HB1.out.congr fun x _ => by congr 1; unfold inR; rw [decide_eq_decide]; omega)
      have h1 : ¬ (k : Int) ≤ (d : Int) := by omega
      go_wp2
      go_end0
      exact ⟨rfl, HE.out, HO.out, HK.out⟩
end Go.Proofs.YtoooaipbkkiefaaGreatDoor
namespace Go.Proofs.YtoooaipbkkiefaaGreatDoor
open Go.RowKit
set_option maxRecDepth 100000
set_option maxHeartbeats 2000000

/-- a state: which bytes it goes on by; does it fork; where to -/
structure St where
  p : Nat → Bool
  fork : Bool
  nx : Nat
  ot : Nat
def agg7 (x : Fin 7 → Value) : Value := .agg #[x 0, x 1, x 2, x 3, x 4, x 5, x 6]
def cells7 (x : Fin 7 → Value) : List Value := [x 0, x 1, x 2, x 3, x 4, x 5, x 6]
def stF (u0 u1 u2 u3 : Nat) (f : Bool) (n o : Nat) : Fin 7 → Value := fun j => match j with | 0 => .int .u64 u0 | 1 => .int .u64 u1 | 2 => .int .u64 u2 | 3 => .int .u64 u3 | 4 => .bool f | 5 => .int .i64 n | 6 => .int .i64 o
/-- seven cells that read as a state -/
def StV (x : Fin 7 → Value) (s : St) : Prop := ∃ u0 u1 u2 u3 : Nat, x = stF u0 u1 u2 u3 s.fork s.nx s.ot ∧ Wd64 u0 s.p 0 ∧ Wd64 u1 s.p 1 ∧ Wd64 u2 s.p 2 ∧ Wd64 u3 s.p 3
theorem StV.one {x : Fin 7 → Value} {s : St} (h : StV x s) : ∀ u ∈ cells7 x, u.oneCell' = true := by
  obtain ⟨u0, u1, u2, u3, rfl, -⟩ := h
  intro u hu
  simp only [cells7, stF, List.mem_cons, List.not_mem_nil, or_false] at hu
  rcases hu with rfl | rfl | rfl | rfl | rfl | rfl | rfl <;> rfl
theorem cells7_get : ∀ (vs : List (Fin 7 → Value)) (i : Nat) (x : Fin 7 → Value) (j : Fin 7), vs[i]? = some x → (vs.flatMap cells7)[i * 7 + j.val]? = some (x j)
  | [], i, x, j, h => by simp at h
  | y :: r, 0, x, j, h => by
    obtain rfl : y = x := by simpa using h
    rw [List.flatMap_cons, List.getElem?_append_left (by simp [cells7] <;> omega)]
    match j with
    | 0 => rfl
    | 1 => rfl
    | 2 => rfl
    | 3 => rfl
    | 4 => rfl
    | 5 => rfl
    | 6 => rfl
  | y :: r, i + 1, x, j, h => by
    rw [List.flatMap_cons, List.getElem?_append_right (by simp [cells7]; omega)]
    have := cells7_get r i x j (by simpa using h)
    rwa [show (i + 1) * 7 + j.val - (cells7 y).length = i * 7 + j.val by simp [cells7] <;> omega]
theorem cells7_len (vs : List (Fin 7 → Value)) : (vs.flatMap cells7).length = vs.length * 7 := by
  induction vs with
  | nil => rfl
  | cons x r ih => rw [List.flatMap_cons, List.length_append, ih, List.length_cons]; simp [cells7] <;> omega
def sevenAt (W : World) (b i : Nat) (v : Fin 7 → Value) : Prop := ∀ j : Fin 7, W.cell? ⟨b, i * 7 + j.val, none⟩ = some (v j)
/-- a row of states of the call's own -/
def RowSt (W : World) (B : Nat) (v : Value) (l : List St) : Prop :=
  ∃ vs : List (Fin 7 → Value), vs.length = l.length ∧ W.ownsRow B 168 7 v l.length (vs.flatMap cells7) ∧ ∀ (i : Nat) (s : St) (x : Fin 7 → Value), l[i]? = some s → vs[i]? = some x → StV x s
theorem RowSt.form {W : World} {B : Nat} {v : Value} {l : List St} (h : RowSt W B v l) : ∃ (A : Option Addr) (c : Nat), v = .slice A l.length c := by
  obtain ⟨vs, h1, h2, h3⟩ := h
  rcases h2.2 with ⟨e, e2⟩ | ⟨g, cap, cur, e, -⟩
  · exact ⟨none, 0, by rw [e, e2]⟩
  · exact ⟨_, _, e⟩
theorem RowSt.lt {W : World} {B : Nat} {v : Value} {l : List St} (h : RowSt W B v l) : ∀ k, v.ownBlock = some k → B ≤ k ∧ k < W.heap.size := by
  obtain ⟨vs, h1, h2, h3⟩ := h
  exact h2.lt
theorem RowSt.keep {W W' : World} {B : Nat} {v : Value} {l : List St} (h : RowSt W B v l) (g : ∀ c, v.ownBlock = some c → W'.heap[c]? = W.heap[c]?) : RowSt W' B v l := by
  obtain ⟨vs, h1, h2, h3⟩ := h
  refine ⟨vs, h1, ⟨h2.1, ?_⟩, h3⟩
  rcases h2.2 with e | ⟨gg, cap, cur, e1, e2, e3, e4⟩
  · exact .inl e
  · exact .inr ⟨gg, cap, cur, e1, e2, by rw [g gg (by rw [e1]; rfl)]; exact e3, e4⟩
theorem st_info : (Tryz.prog.info? 168).map (fun i => (i.zero, i.size, i.bytes)) = some (some (.agg #[.int .u64 0, .int .u64 0, .int .u64 0, .int .u64 0, .bool false, .int .i64 0, .int .i64 0]), 7, 56) := by kernel_rfl
theorem run_appSt {W : World} {B : Nat} {v : Value} {l : List St} {g c : Nat} {x : Fin 7 → Value} {s : St} (h : RowSt W B v l) (hx : sevenAt W g 0 x) (hs : StV x s) (hl : l.length ≤ 1000000000000) (hB : B ≤ W.heap.size) :
    ∃ v' W', (Builtin.append_ #[169, 169] 169 #[v, .slice (some ⟨g, 0, none⟩) 1 c]).run Tryz.prog W = .ok v' W' ∧ RowSt W' B v' (l ++ [s]) ∧ W.grownBy W' v.ownBlock ∧ (v'.ownBlock = v.ownBlock ∨ v'.ownBlock = some W.heap.size) := by
  obtain ⟨i0, hi, hz0, hz1, hz2⟩ := info_parts st_info
  obtain ⟨vs, hvl, hown, hel⟩ := h
  have hadd : ∀ j, (⟨g, 0, none⟩ : Addr).add j = ⟨g, j, none⟩ := fun j => by unfold Addr.add; split <;> simp_all
  obtain ⟨v', w', hr, h2, h3, _, h5⟩ := run_append_own_at (P := Tryz.prog) W B 169 169 168 i0 (.agg #[.int .u64 0, .int .u64 0, .int .u64 0, .int .u64 0, .bool false, .int .i64 0, .int .i64 0]) 7 56 Tryz.underlying169 hi hz0 hz1 hz2 rfl (by omega) v l.length _ hown ⟨g, 0, none⟩ 1 c (cells7 x) (by simp [cells7]) (fun j u hu => by
    rw [hadd]
    have hj : j < 7 := by have := (List.getElem?_eq_some_iff.1 hu).1; simpa [cells7] using this
    have := hx ⟨j, hj⟩
    simp only [Nat.zero_mul, Nat.zero_add] at this
    rw [this, ← hu]
    have := cells7_get [x] 0 x ⟨j, hj⟩ rfl
    simpa using this.symm) hs.one (by unfold maxLen; omega) (by omega) hB
  refine ⟨v', w', hr, ⟨vs ++ [x], by simp [hvl], ?_, fun i m y hm hy => ?_⟩, h3, h5⟩
  · rw [List.flatMap_append, List.length_append]
    simpa using h2
  · by_cases hi : i < l.length
    · rw [List.getElem?_append_left hi] at hm
      rw [List.getElem?_append_left (by omega)] at hy
      exact hel i m y hm hy
    · rw [List.getElem?_append_right (by omega)] at hm
      rw [List.getElem?_append_right (by omega)] at hy
      have e0 : i - l.length = 0 := by
        have := (List.getElem?_eq_some_iff.1 hm).1
        simpa using this
      rw [e0] at hm
      rw [hvl, e0] at hy
      obtain rfl : s = m := by simpa using hm
      obtain rfl : x = y := by simpa using hy
      exact hs
theorem step_appSt {P : Program} (hP : P = Tryz.prog) {ops : Array Oper} {o : Oper} {a : Act} {W : World} {K : Act → World → Prop} {Q : Exit → Act → World → Prop} {E : Prop} (hgd : o.guard = none) (s x : Operand)
    (ho : o.op = .call { callee := .builtin .append, args := #[s, x], argTypes := #[169, 169] }) (hty : o.type = 169)
    {B : Nat} {l : List St} {g c : Nat} {y : Fin 7 → Value} {st : St} (hs : RowSt W B (a.eval s) l) (ex : a.eval x = .slice (some ⟨g, 0, none⟩) 1 c) (hx : sevenAt W g 0 y) (hst : StV y st) (hn : l.length ≤ 1000000000000) (hB : B ≤ W.heap.size)
    (h : ∀ v' W', RowSt W' B v' (l ++ [st]) → W.grownBy W' (a.eval s).ownBlock → (v'.ownBlock = (a.eval s).ownBlock ∨ v'.ownBlock = some W.heap.size) → K (a.put o.dst v') W') :
    if Region.wanted o (yielded ops a.tmps) = true then Oper.wp P o a W K Q else E := by
  have hw : Region.wanted o (yielded ops a.tmps) = true := by simp [Region.wanted, hgd]
  rw [if_pos hw]
  subst hP
  obtain ⟨v', W', hr, h1, h2, h3⟩ := run_appSt (c := c) hs hx hst hn hB
  unfold Oper.wp execOp
  simp only [ho, hty, resolve, invoke, builtin, Sem.run_bind, Sem.run_pure, Result.andThen_ok, List.map_toArray, List.map_cons, List.map_nil, ex, hr]
  exact h v' W' h1 h2 h3
/-- the builder's block g, its row v of states -/
structure Bld (B g : Nat) (W : World) (S : List St) (v : Value) : Prop where
  c : W.heap[g]? = some (.cells #[v] 171 (0, 0))
  r : RowSt W B v S
  n : v.ownBlock ≠ some g
  b : B ≤ g
/-- the builder's block and its row alone have turned -/
structure BStep (g : Nat) (W : World) (v : Value) (W' : World) (v' : Value) : Prop where
  os : W'.os = W.os
  tape : W'.tape = W.tape
  output : W'.output = W.output
  size : W.heap.size ≤ W'.heap.size
  block : ∀ c, c < W.heap.size → c ≠ g → v.ownBlock ≠ some c → W'.heap[c]? = W.heap[c]?
  own : v'.ownBlock = v.ownBlock ∨ ∃ k, v'.ownBlock = some k ∧ W.heap.size ≤ k
theorem BStep.refl (g : Nat) (W : World) (v : Value) : BStep g W v W v := ⟨rfl, rfl, rfl, Nat.le_refl _, fun _ _ _ _ => rfl, .inl rfl⟩
theorem BStep.trans {g : Nat} {W W' W'' : World} {v v' v'' : Value} (h : BStep g W v W' v') (k : BStep g W' v' W'' v'') : BStep g W v W'' v'' :=
  ⟨k.os.trans h.os, k.tape.trans h.tape, k.output.trans h.output, Nat.le_trans h.size k.size, fun c hc hg hv => (k.block c (Nat.lt_of_lt_of_le hc h.size) hg (by
      rcases h.own with e | ⟨j, e, hj⟩
      · rw [e]; exact hv
      · rw [e]; intro e2; have := Option.some.inj e2; omega)).trans (h.block c hc hg hv), by
    rcases k.own with e | ⟨j, e, hj⟩
    · rw [e]; exact h.own
    · exact .inr ⟨j, e, Nat.le_trans h.size hj⟩⟩
theorem BStep.gr {g : Nat} {W W' W'' : World} {v v' : Value} (h : BStep g W v W' v') (k : Gr W' W'') : BStep g W v W'' v' :=
  ⟨k.b.os.trans h.os, k.b.tape.trans h.tape, k.b.output.trans h.output, Nat.le_trans h.size k.size, fun c hc hg hv => (k.b.block c (Nat.lt_of_lt_of_le hc h.size)).trans (h.block c hc hg hv), h.own⟩
theorem Gr.bstep {W0 W : World} (h : Gr W0 W) {g : Nat} {W' : World} {v v' : Value} (k : BStep g W v W' v') : BStep g W0 v W' v' :=
  ⟨k.os.trans h.b.os, k.tape.trans h.b.tape, k.output.trans h.b.output, Nat.le_trans h.size k.size, fun c hc hg hv => (k.block c (Nat.lt_of_lt_of_le hc h.size) hg hv).trans (h.b.block c hc), by
    rcases k.own with e | ⟨j, e, hj⟩
    · exact .inl e
    · exact .inr ⟨j, e, Nat.le_trans h.size hj⟩⟩
/-- what lay below B stays, where the builder's block and row lie at or above B -/
theorem BStep.below {B g : Nat} {W W' : World} {S : List St} {v v' : Value} (h : BStep g W v W' v') (hb : Bld B g W S v) (hB : B ≤ W.heap.size) : Below B W W' :=
  ⟨h.os, h.tape, h.output, h.size, fun c hc => h.block c (by omega) (by have := hb.b; omega) (fun e => by have := hb.r.lt c e; omega)⟩
theorem Bld.lt {B g : Nat} {W : World} {S : List St} {v : Value} (h : Bld B g W S v) : g < W.heap.size := by
  rcases Nat.lt_or_ge g W.heap.size with e | e
  · exact e
  · have := h.c; rw [Array.getElem?_eq_none e] at this; cases this
theorem Bld.gr {B g : Nat} {W W' : World} {S : List St} {v : Value} (h : Bld B g W S v) (k : Gr W W') : Bld B g W' S v :=
  ⟨(k.b.block g h.lt).trans h.c, h.r.keep (fun c e => k.b.block c (h.r.lt c e).2), h.n, h.b⟩
theorem Bld.cell {B g : Nat} {W : World} {S : List St} {v : Value} (h : Bld B g W S v) : W.cell? ⟨g, 0, none⟩ = some v ∧ W.frozen? ⟨g, 0, none⟩ = false :=
  ⟨cell_of_row W g 0 _ _ (0, 0) h.c, frozen_of_row W g 0 _ _ h.c⟩
def PutPost (B g : Nat) (S : List St) (s : St) (w : World) (v : Value) (e : Ending) (w' : World) : Prop :=
  e = .returned (.int .i64 S.length) ∧ ∃ v', Bld B g w' (S ++ [s]) v' ∧ BStep g w v w' v'
end Go.Proofs.YtoooaipbkkiefaaGreatDoor
namespace Go.Proofs.YtoooaipbkkiefaaGreatDoor
open Go.RowKit
set_option maxRecDepth 100000
set_option maxHeartbeats 2000000

def intC (l : List Nat) : List Value := l.map fun x => .int .i64 (x : Nat)
def RowI (W : World) (B : Nat) (v : Value) (l : List Nat) : Prop := W.ownsRow B 3 1 v l.length (intC l)
theorem intC_app (l m : List Nat) : intC (l ++ m) = intC l ++ intC m := by simp [intC]
theorem intC_one (l : List Nat) : ∀ u ∈ intC l, u.oneCell' = true := by
  intro u hu
  simp only [intC, List.mem_map] at hu
  obtain ⟨x, -, rfl⟩ := hu
  rfl
theorem int_info_r : (Tryz.prog.info? 3).map (fun i => (i.zero, i.size, i.bytes)) = some (some (.int .i64 0), 1, 8) := by kernel_rfl
theorem RowI.nil (W : World) (B : Nat) : RowI W B (.slice none 0 0) [] := World.ownsRow_nil _ _ _ _
theorem RowI.form {W : World} {B : Nat} {v : Value} {l : List Nat} (h : RowI W B v l) : ∃ (A : Option Addr) (c : Nat), v = .slice A l.length c := by
  rcases h.2 with ⟨e, e2⟩ | ⟨g, cap, cur, e, -⟩
  · exact ⟨none, 0, by rw [e, e2]⟩
  · exact ⟨_, _, e⟩
theorem RowI.lt {W : World} {B : Nat} {v : Value} {l : List Nat} (h : RowI W B v l) : ∀ k, v.ownBlock = some k → B ≤ k ∧ k < W.heap.size := World.ownsRow.lt h
theorem RowI.keep {W W' : World} {B : Nat} {v : Value} {l : List Nat} (h : RowI W B v l) (g : ∀ c, v.ownBlock = some c → W'.heap[c]? = W.heap[c]?) : RowI W' B v l := by
  refine ⟨h.1, ?_⟩
  rcases h.2 with e | ⟨gg, cap, cur, e1, e2, e3, e4⟩
  · exact .inl e
  · exact .inr ⟨gg, cap, cur, e1, e2, by rw [g gg (by rw [e1]; rfl)]; exact e3, e4⟩
/-- the first n of a row, in the same block -/
theorem RowI.take {W : World} {B : Nat} {A : Option Addr} {m c : Nat} {l : List Nat} (h : RowI W B (.slice A m c) l) (n : Nat) (hn : n ≤ l.length) (h0 : 0 < l.length) : RowI W B (.slice A n c) (l.take n) := by
  rcases h.2 with ⟨e, e2⟩ | ⟨g, cap, cur, e, e2, e3, e4, e5, e6, e7⟩
  · omega
  · obtain ⟨rfl, rfl, rfl⟩ : A = some ⟨g, 0, none⟩ ∧ m = l.length ∧ c = cap := by simpa using e
    refine ⟨by simp [intC], .inr ⟨g, c, cur, by rw [List.length_take, Nat.min_eq_left hn], e2, e3, by rw [List.length_take]; omega, e5, e6, ?_⟩⟩
    have : intC (l.take n) = (intC l).take n := by simp [intC, List.map_take]
    rw [this, ← e7, List.take_take, List.length_take]
    congr 1
    omega
/-- none, in the same block -/
theorem RowI.none {W : World} {B : Nat} {A : Option Addr} {m c : Nat} {l : List Nat} (h : RowI W B (.slice A m c) l) : RowI W B (.slice A 0 c) [] := by
  rcases h.2 with ⟨e, e2⟩ | ⟨g, cap, cur, e, e2, e3, e4, e5, e6, e7⟩
  · obtain ⟨rfl, rfl, rfl⟩ : A = Option.none ∧ m = 0 ∧ c = 0 := by simpa using e
    exact RowI.nil W B
  · obtain ⟨rfl, rfl, rfl⟩ : A = some ⟨g, 0, Option.none⟩ ∧ m = l.length ∧ c = cap := by simpa using e
    exact ⟨rfl, .inr ⟨g, c, cur, rfl, e2, e3, Nat.zero_le _, e5, e6, rfl⟩⟩
theorem RowI.cells {W : World} {B : Nat} {A : Option Addr} {m c : Nat} {l : List Nat} (h : RowI W B (.slice A m c) l) {i : Nat} (hi : i < l.length) : ∃ g, A = some ⟨g, 0, Option.none⟩ ∧ W.cell? ⟨g, i, Option.none⟩ = some (.int .i64 l[i]) := by
  rcases h.2 with ⟨e, e2⟩ | ⟨g, cap, cur, e, e2, e3, e4, e5, e6, e7⟩
  · omega
  · obtain ⟨rfl, rfl, rfl⟩ : A = some ⟨g, 0, Option.none⟩ ∧ m = l.length ∧ c = cap := by simpa using e
    refine ⟨g, rfl, (cell_of_row W g i cur _ (0, 0) e3).trans ?_⟩
    have h1 : (intC l)[i]? = some (.int .i64 l[i]) := by simp [intC, hi]
    rw [← e7, List.getElem?_take_of_lt (by omega)] at h1
    simpa using h1
theorem run_appIr {W : World} {B : Nat} {v : Value} {l : List Nat} {g c x : Nat} (h : RowI W B v l) (hx : W.cell? ⟨g, 0, none⟩ = some (.int .i64 x)) (hl : l.length ≤ 1000000000000) (hB : B ≤ W.heap.size) :
    ∃ v' W', (Builtin.append_ #[35, 35] 35 #[v, .slice (some ⟨g, 0, none⟩) 1 c]).run Tryz.prog W = .ok v' W' ∧ RowI W' B v' (l ++ [x]) ∧ W.grownBy W' v.ownBlock ∧ (v'.ownBlock = v.ownBlock ∨ v'.ownBlock = some W.heap.size) := by
  obtain ⟨i0, hi, hz0, hz1, hz2⟩ := info_parts int_info_r
  have hadd : ∀ j, (⟨g, 0, none⟩ : Addr).add j = ⟨g, j, none⟩ := fun j => by unfold Addr.add; split <;> simp_all
  obtain ⟨v', w', hr, h2, h3, _, h5⟩ := run_append_own_at (P := Tryz.prog) W B 35 35 3 i0 (.int .i64 0) 1 8 Tryz.underlying35 hi hz0 hz1 hz2 rfl (by omega) v l.length _ h ⟨g, 0, none⟩ 1 c (intC [x]) (by simp [intC]) (fun j u hu => by
    rw [hadd]
    have hj : j < 1 := by have := (List.getElem?_eq_some_iff.1 hu).1; simpa [intC] using this
    obtain rfl : j = 0 := by omega
    have : u = .int .i64 x := by simpa [intC] using hu.symm
    rw [this]; exact hx) (intC_one _) (by unfold maxLen; omega) (by omega) hB
  refine ⟨v', w', hr, ?_, h3, h5⟩
  unfold RowI
  rw [intC_app, List.length_append]
  exact h2
section
variable {P : Program} {o : Oper} {a : Act} {W : World} {K : Act → World → Prop} {Q : Exit → Act → World → Prop}
theorem wp_appI (hP : P = Tryz.prog) (s x : Operand)
    (ho : o.op = .call { callee := .builtin .append, args := #[s, x], argTypes := #[35, 35] }) (hty : o.type = 35)
    {B : Nat} {l : List Nat} {g c y : Nat} (hs : RowI W B (a.eval s) l) (ex : a.eval x = .slice (some ⟨g, 0, none⟩) 1 c) (hx : W.cell? ⟨g, 0, none⟩ = some (.int .i64 y)) (hn : l.length ≤ 1000000000000) (hB : B ≤ W.heap.size)
    (h : ∀ v' W', RowI W' B v' (l ++ [y]) → W.grownBy W' (a.eval s).ownBlock → (v'.ownBlock = (a.eval s).ownBlock ∨ v'.ownBlock = some W.heap.size) → K (a.put o.dst v') W') : o.wp P a W K Q := by
  subst hP
  obtain ⟨v', W', hr, h1, h2, h3⟩ := run_appIr (c := c) hs hx hn hB
  unfold Oper.wp execOp
  simp only [ho, hty, resolve, invoke, builtin, Sem.run_bind, Sem.run_pure, Result.andThen_ok, List.map_toArray, List.map_cons, List.map_nil, ex, hr]
  exact h v' W' h1 h2 h3
theorem wpList_appI (hP : P = Tryz.prog) {ops : Array Oper} {rest : List Oper} (hgd : o.guard = none) (s x : Operand)
    (ho : o.op = .call { callee := .builtin .append, args := #[s, x], argTypes := #[35, 35] }) (hty : o.type = 35)
    {B : Nat} {l : List Nat} {g c y : Nat} (hs : RowI W B (a.eval s) l) (ex : a.eval x = .slice (some ⟨g, 0, none⟩) 1 c) (hx : W.cell? ⟨g, 0, none⟩ = some (.int .i64 y)) (hn : l.length ≤ 1000000000000) (hB : B ≤ W.heap.size)
    (h : ∀ v' W', RowI W' B v' (l ++ [y]) → W.grownBy W' (a.eval s).ownBlock → (v'.ownBlock = (a.eval s).ownBlock ∨ v'.ownBlock = some W.heap.size) → wpList P ops Q rest (a.put o.dst v') W') : wpList P ops Q (o :: rest) a W :=
  wpList_plain hgd fun _ hK => wp_appI hP s x ho hty hs ex hx hn hB fun v' W' h1 h2 h3 => hK _ _ (h v' W' h1 h2 h3)
theorem step_appI (hP : P = Tryz.prog) {ops : Array Oper} {E : Prop} (hgd : o.guard = none) (s x : Operand)
    (ho : o.op = .call { callee := .builtin .append, args := #[s, x], argTypes := #[35, 35] }) (hty : o.type = 35)
    {B : Nat} {l : List Nat} {g c y : Nat} (hs : RowI W B (a.eval s) l) (ex : a.eval x = .slice (some ⟨g, 0, none⟩) 1 c) (hx : W.cell? ⟨g, 0, none⟩ = some (.int .i64 y)) (hn : l.length ≤ 1000000000000) (hB : B ≤ W.heap.size)
    (h : ∀ v' W', RowI W' B v' (l ++ [y]) → W.grownBy W' (a.eval s).ownBlock → (v'.ownBlock = (a.eval s).ownBlock ∨ v'.ownBlock = some W.heap.size) → K (a.put o.dst v') W') : if Region.wanted o (yielded ops a.tmps) = true then Oper.wp P o a W K Q else E := by
  have hw : Region.wanted o (yielded ops a.tmps) = true := by simp [Region.wanted, hgd]
  rw [if_pos hw]
  exact wp_appI hP s x ho hty hs ex hx hn hB h
end
end Go.Proofs.YtoooaipbkkiefaaGreatDoor
namespace Go.Proofs.YtoooaipbkkiefaaGreatDoor

def amongB (s : List UInt8) (c : UInt8) : Bool := decide (c ∈ s)
theorem among_index (s : List UInt8) (c : UInt8) : decide (0 ≤ Lib.indexByte s c) = amongB s c := by
  unfold amongB
  rw [decide_eq_decide]
  constructor
  · intro h
    obtain ⟨o, ho⟩ : ∃ o : Nat, Lib.indexByte s c = o := ⟨(Lib.indexByte s c).toNat, by omega⟩
    obtain ⟨h1, -⟩ := Lib.indexByte_some ho
    exact List.mem_of_getElem? h1
  · intro h
    refine Decidable.byContradiction fun hn => ?_
    have h1 : Lib.indexByte s c = -1 := by have := Lib.indexByte_ge s c; omega
    obtain ⟨i, hi, rfl⟩ := List.getElem_of_mem h
    exact Lib.indexByte_none h1 i (List.getElem?_eq_getElem hi)
/-- is c what comes? -/
def isAt (s : List UInt8) (k : Nat) (c : UInt8) : Bool := decide (s[k]? = some c)
/-- one byte that says itself: is there one, which, and the place behind it (or where the reading stops) -/
def letterS (s barred stroked : List UInt8) (k : Nat) : Bool × UInt8 × Nat :=
  let st := isAt s k 92
  let k1 := if st then k + 1 else k
  match s[k1]? with
  | none => (false, 0, k1)
  | some c => if (if st then amongB stroked c else !amongB barred c) then (true, c, k1 + 1) else (false, 0, k1)
theorem letterS_le (s barred stroked : List UInt8) (k : Nat) (h : k ≤ s.length) : (letterS s barred stroked k).2.2 ≤ s.length ∧ k ≤ (letterS s barred stroked k).2.2 := by
  have h1 : isAt s k 92 = true → k < s.length := fun e => by
    have := of_decide_eq_true e
    exact (List.getElem?_eq_some_iff.1 this).1
  unfold letterS
  cases hst : isAt s k 92
  · simp only [Bool.false_eq_true, if_false]
    cases e : s[k]? with
    | none => exact ⟨h, Nat.le_refl _⟩
    | some c =>
      have := (List.getElem?_eq_some_iff.1 e).1
      simp only
      split
      · exact ⟨by show k + 1 ≤ _; omega, by show k ≤ k + 1; omega⟩
      · exact ⟨h, Nat.le_refl _⟩
  · have := h1 hst
    simp only [if_true]
    cases e : s[k + 1]? with
    | none => exact ⟨by show k + 1 ≤ _; omega, by show k ≤ k + 1; omega⟩
    | some c =>
      have := (List.getElem?_eq_some_iff.1 e).1
      simp only
      split
      · exact ⟨by show k + 1 + 1 ≤ _; omega, by show k ≤ k + 1 + 1; omega⟩
      · exact ⟨by show k + 1 ≤ _; omega, by show k ≤ k + 1; omega⟩
end Go.Proofs.YtoooaipbkkiefaaGreatDoor
namespace Go.Proofs.YtoooaipbkkiefaaGreatDoor
open Go.RowKit
set_option maxRecDepth 100000
set_option maxHeartbeats 2000000

theorem isAmong_any (s : ByteArray) (c : UInt8) (w : World) :
    Calls Tryz.prog 203 #[.string s, .int .u8 c.toNat] w fun e w' => e = .returned (.bool (amongB s.data.toList c)) ∧ w = w' := by
  have CI := Lib.hid (Tryz.strings_IndexByte s (c.toNat : Int) w)
  have H := Lib.hid (among_index s.data.toList c)
  have hc : ((c.toNat : Int)).toNat.toUInt8 = c := by simp
  rw [hc] at CI
  clear hc
  go_enter Tryz.func203, Tryz.ntmps203
  go_wp2_with fail
  refine CI.out.mono ?_
  rintro e w1 ⟨rfl, rfl⟩
  go_wp2
  go_ret
  exact ⟨by rw [← H.out]; rfl, rfl⟩
def TakePost (b : Nat) (s : ByteArray) (k : Nat) (c : UInt8) (w : World) (e : Ending) (w' : World) : Prop :=
  e = .returned (.bool (isAt s.data.toList k c)) ∧ Rd w' b s (if isAt s.data.toList k c then k + 1 else k) ∧ Only w w' b
theorem take_any (b : Nat) (s : ByteArray) (k : Nat) (c : UInt8) (w : World) (h : Rd w b s k) (hk : k ≤ s.size) (hs : s.size ≤ 1000000) :
    Calls Tryz.prog 96 #[.pointer (some ⟨b, 0, none⟩), .int .u8 c.toNat] w (TakePost b s k c w) := by
  obtain ⟨c0, c1, f0, f1⟩ := h.facts
  have HR := Lib.hid h
  clear h
  by_cases hlt : k < s.size
  · have hg : s.data.toList[k]? = some s[k] := by rw [List.getElem?_eq_getElem (by simpa using hlt)]; rfl
    have n1 : ¬ k = s.size := by omega
    have n2 : ((k : Int) == (s.size : Int)) = false := by simp; omega
    have n3 : (k : Int) < (s.size : Int) := by omega
    by_cases e : s[k] = c
    · have H : Hid (isAt s.data.toList k c = true) := Lib.hid (by unfold isAt; rw [hg, e]; simp)
      clear hg
      subst e
      go_enter Tryz.func96, Tryz.ntmps96
      go_wp2_with fail
      go_quiet (fail)
      go_wp2
      go_ret
      exact ⟨by rw [H.out]; rfl, by rw [H.out]; exact (HR.out.drewN _).set (k + 1), ((Only.refl w b).drewN _).setCell (by rfl) _⟩
    · have H : Hid (isAt s.data.toList k c = false) := Lib.hid (by unfold isAt; rw [hg]; simpa using e)
      have e2 : ((s[k].toNat : Int) != (c.toNat : Int)) = true := by simp; intro h; exact e (UInt8.toNat_inj.1 (by omega))
      have e3 : ¬ s[k].toNat = c.toNat := fun h => e (UInt8.toNat_inj.1 h)
      clear hg
      go_enter Tryz.func96, Tryz.ntmps96
      go_wp2_with fail
      go_quiet (fail)
      go_wp2
      go_ret
      exact ⟨by rw [H.out]; rfl, by rw [H.out]; exact HR.out.drewN _, (Only.refl w b).drewN _⟩
  · obtain rfl : k = s.size := by omega
    have H : Hid (isAt s.data.toList s.size c = false) := Lib.hid (by unfold isAt; rw [List.getElem?_eq_none (by simp)]; simp)
    go_enter Tryz.func96, Tryz.ntmps96
    go_wp2_with fail
    go_quiet (fail)
    go_wp2
    go_ret
    exact ⟨by rw [H.out]; rfl, by rw [H.out]; exact HR.out.drewN _, (Only.refl w b).drewN _⟩
end Go.Proofs.YtoooaipbkkiefaaGreatDoor
namespace Go.Proofs.YtoooaipbkkiefaaGreatDoor
open Go.RowKit
set_option maxRecDepth 100000
set_option maxHeartbeats 2000000

def LetterPost (b : Nat) (s : ByteArray) (r : Bool × UInt8 × Nat) (w : World) (e : Ending) (w' : World) : Prop :=
  e = .returned (.tuple #[.int .u8 r.2.1.toNat, .bool r.1]) ∧ Rd w' b s r.2.2 ∧ Only w w' b
theorem letter_any (b : Nat) (s ba sk : ByteArray) (k : Nat) (w : World) (h : Rd w b s k) (hk : k ≤ s.size) (hs : s.size ≤ 1000000) :
    Calls Tryz.prog 188 #[.pointer (some ⟨b, 0, none⟩), .string ba, .string sk] w (LetterPost b s (letterS s.data.toList ba.data.toList sk.data.toList k) w) := by
  have CT := Lib.hid (take_any b s k 92 w h hk hs)
  have CA := Lib.hid (fun (x : ByteArray) (c : UInt8) W => isAmong_any x c W)
  have hlen : s.data.toList.length = s.size := by simp
  have hle : isAt s.data.toList k 92 = true → k < s.size := fun e => by
    have := (List.getElem?_eq_some_iff.1 (of_decide_eq_true e)).1
    omega
  obtain ⟨st, hst⟩ : ∃ st, isAt s.data.toList k 92 = st := ⟨_, rfl⟩
  obtain ⟨r, hr⟩ : ∃ r, letterS s.data.toList ba.data.toList sk.data.toList k = r := ⟨_, rfl⟩
  rw [hr]
  unfold letterS at hr
  unfold TakePost at CT
  rw [hst] at hr hle CT
  obtain ⟨k1, hk1⟩ : ∃ k1, (if st then k + 1 else k) = k1 := ⟨_, rfl⟩
  simp only [] at hr
  rw [hk1] at hr CT
  have hk1s : k1 ≤ s.size := by
    rw [← hk1]
    cases st
    · exact hk
    · exact hle rfl
  have HR := Lib.hid hr
  clear h hr hle hst hk1
  by_cases hlt : k1 < s.size
  · have hg : s.data.toList[k1]? = some s[k1] := by rw [List.getElem?_eq_getElem (by simpa using hlt)]; rfl
    have n1 : ¬ k1 = s.size := by omega
    have n3 : (k1 : Int) < (s.size : Int) := by omega
    obtain ⟨c, hc⟩ : ∃ c, s[k1] = c := ⟨_, rfl⟩
    rw [hc] at hg
    have HRR : Hid (r = if (if st then amongB sk.data.toList c else !amongB ba.data.toList c) then (true, c, k1 + 1) else (false, 0, k1)) := Lib.hid (by rw [← HR.out, hg])
    clear HR hg
    obtain ⟨a1, ha1⟩ : ∃ a1, amongB sk.data.toList c = a1 := ⟨_, rfl⟩
    obtain ⟨a2, ha2⟩ : ∃ a2, amongB ba.data.toList c = a2 := ⟨_, rfl⟩
    have CS := Lib.hid (fun W => CA.out sk c W)
    have CB := Lib.hid (fun W => CA.out ba c W)
    rw [ha1] at HRR CS
    rw [ha2] at HRR CB
    clear ha1 ha2 CA
    cases st
    · cases a2
      · have H : Hid (r = (true, c, k1 + 1)) := Lib.hid (by rw [HRR.out]; rfl)
        go_enter Tryz.func188, Tryz.ntmps188
        go_wp2_with fail
        refine CT.out.mono ?_
        rintro e w1 ⟨rfl, hr1, ho1⟩
        obtain ⟨c0, c1, f0, f1⟩ := hr1.facts
        have HR1 := Lib.hid hr1
        clear hr1
        go_wp2_with fail
        go_quiet (fail)
        go_wp2_with fail
        go_quiet (fail)
        go_wp2_with (go_at_call 203; refine (CB.out _).mono ?_; rintro e w' ⟨rfl, rfl⟩)
        go_ret2
        exact ⟨by rw [H.out]; rfl, by rw [H.out]; exact (HR1.out.drewN _).set (k1 + 1), (ho1.drewN _).setCell (by rfl) _⟩
      · have H : Hid (r = (false, 0, k1)) := Lib.hid (by rw [HRR.out]; rfl)
        go_enter Tryz.func188, Tryz.ntmps188
        go_wp2_with fail
        refine CT.out.mono ?_
        rintro e w1 ⟨rfl, hr1, ho1⟩
        obtain ⟨c0, c1, f0, f1⟩ := hr1.facts
        have HR1 := Lib.hid hr1
        clear hr1
        go_wp2_with fail
        go_quiet (fail)
        go_wp2_with fail
        go_quiet (fail)
        go_wp2_with (go_at_call 203; refine (CB.out _).mono ?_; rintro e w' ⟨rfl, rfl⟩)
        go_ret2
        exact ⟨by rw [H.out]; rfl, by rw [H.out]; exact HR1.out.drewN _, ho1.drewN _⟩
    · cases a1
      · have H : Hid (r = (false, 0, k1)) := Lib.hid (by rw [HRR.out]; rfl)
        go_enter Tryz.func188, Tryz.ntmps188
        go_wp2_with fail
        refine CT.out.mono ?_
        rintro e w1 ⟨rfl, hr1, ho1⟩
        obtain ⟨c0, c1, f0, f1⟩ := hr1.facts
        have HR1 := Lib.hid hr1
        clear hr1
        go_wp2_with fail
        go_quiet (fail)
        go_wp2_with fail
        go_quiet (fail)
        go_wp2_with (go_at_call 203; refine (CS.out _).mono ?_; rintro e w' ⟨rfl, rfl⟩)
        go_ret2
        exact ⟨by rw [H.out]; rfl, by rw [H.out]; exact HR1.out.drewN _, ho1.drewN _⟩
      · have H : Hid (r = (true, c, k1 + 1)) := Lib.hid (by rw [HRR.out]; rfl)
        go_enter Tryz.func188, Tryz.ntmps188
        go_wp2_with fail
        refine CT.out.mono ?_
        rintro e w1 ⟨rfl, hr1, ho1⟩
        obtain ⟨c0, c1, f0, f1⟩ := hr1.facts
        have HR1 := Lib.hid hr1
        clear hr1
        go_wp2_with fail
        go_quiet (fail)
        go_wp2_with fail
        go_quiet (fail)
        go_wp2_with (go_at_call 203; refine (CS.out _).mono ?_; rintro e w' ⟨rfl, rfl⟩)
        go_ret2
        exact ⟨by rw [H.out]; rfl, by rw [H.out]; exact (HR1.out.drewN _).set (k1 + 1), (ho1.drewN _).setCell (by rfl) _⟩
  · obtain rfl : k1 = s.size := by omega
    have H : Hid (r = (false, 0, s.size)) := Lib.hid (by rw [← HR.out, List.getElem?_eq_none (by simp)])
    clear HR
    cases st
    all_goals
      go_enter Tryz.func188, Tryz.ntmps188
      go_wp2_with fail
      refine CT.out.mono ?_
      rintro e w1 ⟨rfl, hr1, ho1⟩
      obtain ⟨c0, c1, f0, f1⟩ := hr1.facts
      have HR1 := Lib.hid hr1
      clear hr1
      go_wp2_with fail
      go_quiet (fail)
      go_wp2
      go_ret2
      exact ⟨by rw [H.out]; rfl, by rw [H.out]; exact HR1.out.drewN _, ho1.drewN _⟩
end Go.Proofs.YtoooaipbkkiefaaGreatDoor
namespace Go.Proofs.YtoooaipbkkiefaaGreatDoor
open Go.RowKit
set_option maxRecDepth 100000
set_option maxHeartbeats 4000000

/-- of what was there the blocks b and d alone may have changed -/
structure On2 (w w' : World) (b d : Nat) : Prop where
  os : w'.os = w.os
  tape : w'.tape = w.tape
  output : w'.output = w.output
  size : w.heap.size ≤ w'.heap.size
  block : ∀ i, i < w.heap.size → i ≠ b → i ≠ d → w'.heap[i]? = w.heap[i]?
theorem On2.refl (w : World) (b d : Nat) : On2 w w b d := ⟨rfl, rfl, rfl, Nat.le_refl _, fun _ _ _ _ => rfl⟩
theorem On2.l {a w w' : World} {b d : Nat} (h : On2 a w b d) (g : Only w w' b) : On2 a w' b d :=
  ⟨g.os.trans h.os, g.tape.trans h.tape, g.output.trans h.output, Nat.le_trans h.size g.size, fun i hi h1 h2 => (g.block i (Nat.lt_of_lt_of_le hi h.size) (fun e => h1 (Option.some.inj e))).trans (h.block i hi h1 h2)⟩
theorem On2.r {a w w' : World} {b d : Nat} (h : On2 a w b d) (g : Only w w' d) : On2 a w' b d :=
  ⟨g.os.trans h.os, g.tape.trans h.tape, g.output.trans h.output, Nat.le_trans h.size g.size, fun i hi h1 h2 => (g.block i (Nat.lt_of_lt_of_le hi h.size) (fun e => h2 (Option.some.inj e))).trans (h.block i hi h1 h2)⟩
theorem On2.trans {a w w' : World} {b d : Nat} (h : On2 a w b d) (g : On2 w w' b d) : On2 a w' b d :=
  ⟨g.os.trans h.os, g.tape.trans h.tape, g.output.trans h.output, Nat.le_trans h.size g.size, fun i hi h1 h2 => (g.block i (Nat.lt_of_lt_of_le hi h.size) h1 h2).trans (h.block i hi h1 h2)⟩
theorem On2.drewN {a w : World} {b d : Nat} (h : On2 a w b d) (n : Nat) : On2 a (w.drewN n) b d := ⟨h.os, h.tape, h.output, h.size, h.block⟩
theorem Only.blk {w w' : World} {b i : Nat} (g : Only w w' b) (hi : i < w.heap.size) (h : i ≠ b) : w'.heap[i]? = w.heap[i]? := g.block i hi (fun e => h (Option.some.inj e))
theorem BsAt.lt {W : World} {b o : Nat} {p : Nat → Bool} (h : BsAt W b o p) : b < W.heap.size := by
  obtain ⟨v, hv, -⟩ := h 0 (by omega)
  exact World.block_lt_of_cell? W _ hv
theorem BsAt.only {W W' : World} {b d o : Nat} {p : Nat → Bool} (h : BsAt W d o p) (g : Only W W' b) (hne : d ≠ b) : BsAt W' d o p := fun i hi => by
  obtain ⟨v, h1, h2, h3⟩ := h i hi
  have hb := g.blk h.lt hne
  exact ⟨v, (World.cell?_of_block (a := ⟨d, _, none⟩) hb).trans h1, (World.frozen?_of_block (a := ⟨d, _, none⟩) hb).trans h2, h3⟩
theorem KeepsB.only {w W W' : World} {b d o : Nat} (h : KeepsB w W d o) (g : Only W W' b) (hd : d < W.heap.size) (hne : d ≠ b) : KeepsB w W' d o := fun j hj => by
  have hb := g.blk hd hne
  exact ⟨(World.cell?_of_block (a := ⟨d, j, none⟩) hb).trans (h j hj).1, (World.frozen?_of_block (a := ⟨d, j, none⟩) hb).trans (h j hj).2⟩
theorem KeepsB.trans {w W W' : World} {d o : Nat} (h : KeepsB w W d o) (g : KeepsB W W' d o) : KeepsB w W' d o := fun j hj => ⟨(g j hj).1.trans (h j hj).1, (g j hj).2.trans (h j hj).2⟩
theorem Rd.only {W W' : World} {b d : Nat} {s : ByteArray} {k : Nat} (h : Rd W b s k) (g : Only W W' d) (hne : b ≠ d) : Rd W' b s k := (g.blk h.lt hne).trans h

def sbL : List UInt8 := [93, 92, 45, 94]
def sqL : List UInt8 := [92, 46, 91, 93, 40, 41, 124, 42, 43, 63, 45, 94]
/-- one item: is there one, from, to, and the place behind it (or where the reading stops) -/
def itemS (s : List UInt8) (k : Nat) : Bool × UInt8 × UInt8 × Nat :=
  let r := letterS s sbL sqL k
  if r.1 then
    if isAt s r.2.2 45 then
      let q := letterS s sbL sqL (r.2.2 + 1)
      if q.1 then (if q.2.1.toNat < r.2.1.toNat then (false, 0, 0, r.2.2 + 1) else (true, r.2.1, q.2.1, q.2.2)) else (false, 0, 0, q.2.2)
    else (true, r.2.1, r.2.1, r.2.2)
  else (false, 0, 0, r.2.2)
def ItemPost (b d o : Nat) (s : ByteArray) (p : Nat → Bool) (r : Bool × UInt8 × UInt8 × Nat) (w : World) (e : Ending) (w' : World) : Prop :=
  e = .returned (.bool r.1) ∧ Rd w' b s r.2.2.2 ∧ BsAt w' d o (if r.1 then fun x => p x || inR r.2.1.toNat r.2.2.1.toNat x else p) ∧ On2 w w' b d ∧ KeepsB w w' d o
theorem item_any (b d o k : Nat) (s : ByteArray) (p : Nat → Bool) (w : World) (h : Rd w b s k) (hk : k ≤ s.size) (hs : s.size ≤ 1000000) (hB : BsAt w d o p) (hne : d ≠ b) :
    Calls Tryz.prog 202 #[.pointer (some ⟨b, 0, none⟩), .pointer (some ⟨d, o, none⟩)] w (ItemPost b d o s p (itemS s.data.toList k) w) := by
  have hlen : s.data.toList.length = s.size := by simp
  have CL := Lib.hid (fun (k : Nat) W (h : Rd W b s k) (hk : k ≤ s.size) => letter_any b s ⟨#[93, 92, 45, 94]⟩ ⟨#[92, 46, 91, 93, 40, 41, 124, 42, 43, 63, 45, 94]⟩ k W h hk hs)
  have CT := Lib.hid (fun (k : Nat) W (h : Rd W b s k) (hk : k ≤ s.size) => take_any b s k 45 W h hk hs)
  have CA := Lib.hid (fun (c e : UInt8) W (q : Nat → Bool) (h : BsAt W d o q) => add_any d o q c.toNat e.toNat W h c.toNat_lt e.toNat_lt)
  have C1 := Lib.hid (CL.out k w h hk)
  have hle := letterS_le s.data.toList sbL sqL k (by rw [hlen]; exact hk)
  obtain ⟨R, hR⟩ : ∃ R, itemS s.data.toList k = R := ⟨_, rfl⟩
  rw [hR]
  unfold itemS at hR
  obtain ⟨r, hr⟩ : ∃ r, letterS s.data.toList sbL sqL k = r := ⟨_, rfl⟩
  rw [hr] at hle hR
  rw [hlen] at hle
  have C2 : Hid (Calls Tryz.prog 188 #[.pointer (some ⟨b, 0, none⟩), .string ⟨#[93, 92, 45, 94]⟩, .string ⟨#[92, 46, 91, 93, 40, 41, 124, 42, 43, 63, 45, 94]⟩] w (LetterPost b s r w)) := Lib.hid (by rw [← hr]; exact C1.out)
  have HB := Lib.hid hB
  clear hr C1 hB h
  obtain ⟨ok, c, k1⟩ := r
  simp only at hR hle
  have HR := Lib.hid hR
  clear hR
  cases ok
  · have H : Hid (R = (false, 0, 0, k1)) := Lib.hid (by rw [← HR.out]; rfl)
    go_enter Tryz.func202, Tryz.ntmps202
    go_wp2_with fail
    refine C2.out.mono ?_
    rintro e w1 ⟨rfl, hr1, ho1⟩
    obtain ⟨c0, c1, f0, f1⟩ := hr1.facts
    have HR1 := Lib.hid hr1
    clear hr1
    go_wp2_with fail
    go_quiet (fail)
    go_wp2
    go_ret
    exact ⟨by rw [H.out]; rfl, by rw [H.out]; exact HR1.out.drewN _, by rw [H.out]; exact HB.out.only (ho1.drewN _) hne, ((On2.refl w b d).l ho1).drewN _, (KeepsB.refl w d o).only (ho1.drewN _) HB.out.lt hne⟩
  have HT : Hid (R = if isAt s.data.toList k1 45 then (if (letterS s.data.toList sbL sqL (k1 + 1)).1 then (if (letterS s.data.toList sbL sqL (k1 + 1)).2.1.toNat < c.toNat then (false, 0, 0, k1 + 1) else (true, c, (letterS s.data.toList sbL sqL (k1 + 1)).2.1, (letterS s.data.toList sbL sqL (k1 + 1)).2.2)) else (false, 0, 0, (letterS s.data.toList sbL sqL (k1 + 1)).2.2)) else (true, c, c, k1)) := Lib.hid (by rw [← HR.out]; rfl)
  clear HR
  obtain ⟨tk, htk⟩ : ∃ tk, isAt s.data.toList k1 45 = tk := ⟨_, rfl⟩
  have htl : tk = true → k1 < s.size := fun e => by
    have := (List.getElem?_eq_some_iff.1 (of_decide_eq_true (htk.trans e))).1
    omega
  have CT1 : Hid (∀ W, Rd W b s k1 → Calls Tryz.prog 96 #[.pointer (some ⟨b, 0, none⟩), .int .u8 45] W fun e w' => e = .returned (.bool tk) ∧ Rd w' b s (if tk then k1 + 1 else k1) ∧ Only W w' b) := Lib.hid (by
    rw [← htk]; exact fun W h => CT.out k1 W h hle.1)
  rw [htk] at HT
  clear htk CT
  have hcc : ¬ c.toNat < c.toNat := by omega
  cases tk
  · have H : Hid (R = (true, c, c, k1)) := Lib.hid (by rw [HT.out]; rfl)
    go_enter Tryz.func202, Tryz.ntmps202
    go_wp2_with fail
    refine C2.out.mono ?_
    rintro e w1 ⟨rfl, hr1, ho1⟩
    obtain ⟨c0, c1, f0, f1⟩ := hr1.facts
    have HR1 := Lib.hid hr1
    have HB1 := Lib.hid (HB.out.only ho1 hne)
    have HO1 := Lib.hid ((On2.refl w b d).l ho1)
    have HK1 := Lib.hid ((KeepsB.refl w d o).only ho1 HB.out.lt hne)
    clear hr1 ho1
    go_wp2_with fail
    go_quiet (fail)
    go_wp2_with fail
    refine (CT1.out _ (HR1.out.drewN _)).mono ?_
    rintro e w2 ⟨rfl, hr2, ho2⟩
    have HB2 := Lib.hid (HB1.out.only (W := w1) ((Only.refl w1 b).drewN _ |>.trans ho2) hne)
    have HO2 := Lib.hid ((HO1.out.drewN _).l ho2)
    have HK2 := Lib.hid (HK1.out.only ((Only.refl w1 b).drewN _ |>.trans ho2) HB1.out.lt hne)
    go_wp2_with fail
    refine (CA.out c c _ p HB2.out).mono ?_
    rintro e w3 ⟨rfl, hb3, ho3, hk3⟩
    go_wp2
    go_ret
    exact ⟨by rw [H.out]; rfl, by rw [H.out]; exact hr2.only ho3 (Ne.symm hne), by rw [H.out]; exact hb3, HO2.out.r ho3, HK2.out.trans hk3⟩
  · have hk1 := htl rfl
    have hle2 := letterS_le s.data.toList sbL sqL (k1 + 1) (by rw [hlen]; omega)
    rw [hlen] at hle2
    have C3 := Lib.hid (fun W (h : Rd W b s (k1 + 1)) => CL.out (k1 + 1) W h (by omega))
    obtain ⟨q, hq⟩ : ∃ q, letterS s.data.toList sbL sqL (k1 + 1) = q := ⟨_, rfl⟩
    rw [hq] at HT hle2
    have C4 : Hid (∀ W, Rd W b s (k1 + 1) → Calls Tryz.prog 188 #[.pointer (some ⟨b, 0, none⟩), .string ⟨#[93, 92, 45, 94]⟩, .string ⟨#[92, 46, 91, 93, 40, 41, 124, 42, 43, 63, 45, 94]⟩] W (LetterPost b s q W)) := Lib.hid (by rw [← hq]; exact C3.out)
    clear hq C3 CL
    obtain ⟨ok2, c2, k2⟩ := q
    simp only at HT hle2
    have HT2 : Hid (R = if ok2 then (if c2.toNat < c.toNat then (false, 0, 0, k1 + 1) else (true, c, c2, k2)) else (false, 0, 0, k2)) := Lib.hid (by rw [HT.out]; rfl)
    clear HT
    go_enter Tryz.func202, Tryz.ntmps202
    go_wp2_with fail
    refine C2.out.mono ?_
    rintro e w1 ⟨rfl, hr1, ho1⟩
    obtain ⟨c0, c1, f0, f1⟩ := hr1.facts
    have HR1 := Lib.hid hr1
    have HB1 := Lib.hid (HB.out.only ho1 hne)
    have HO1 := Lib.hid ((On2.refl w b d).l ho1)
    have HK1 := Lib.hid ((KeepsB.refl w d o).only ho1 HB.out.lt hne)
    clear hr1 ho1
    go_wp2_with fail
    go_quiet (fail)
    go_wp2_with fail
    refine (CT1.out _ (HR1.out.drewN _)).mono ?_
    rintro e w2 ⟨rfl, hr2, ho2⟩
    have HB2 := Lib.hid (HB1.out.only (W := w1) ((Only.refl w1 b).drewN _ |>.trans ho2) hne)
    have HO2 := Lib.hid ((HO1.out.drewN _).l ho2)
    have HK2 := Lib.hid (HK1.out.only ((Only.refl w1 b).drewN _ |>.trans ho2) HB1.out.lt hne)
    have HR2 : Hid (Rd w2 b s (k1 + 1)) := Lib.hid hr2
    clear hr2 ho2 c0 c1 f0 f1
    obtain ⟨c0, c1, f0, f1⟩ := HR2.out.facts
    go_wp2_with fail
    refine (C4.out _ HR2.out).mono ?_
    rintro e w3 ⟨rfl, hr3, ho3⟩
    have HB3 := Lib.hid (HB2.out.only ho3 hne)
    have HO3 := Lib.hid (HO2.out.l ho3)
    have HK3 := Lib.hid (HK2.out.only ho3 HB2.out.lt hne)
    have HR3 : Hid (Rd w3 b s k2) := Lib.hid hr3
    clear hr3 ho3 c0 c1 f0 f1
    obtain ⟨c0, c1, f0, f1⟩ := HR3.out.facts
    cases ok2
    · have H : Hid (R = (false, 0, 0, k2)) := Lib.hid (by rw [HT2.out]; rfl)
      go_wp2
      go_ret
      exact ⟨by rw [H.out]; rfl, by rw [H.out]; exact HR3.out, by rw [H.out]; exact HB3.out, HO3.out, HK3.out⟩
    by_cases hlt : c2.toNat < c.toNat
    · have H : Hid (R = (false, 0, 0, k1 + 1)) := Lib.hid (by rw [HT2.out, if_pos rfl, if_pos hlt])
      go_wp2
      go_ret
      exact ⟨by rw [H.out]; rfl, by rw [H.out]; exact HR3.out.set (k1 + 1), by rw [H.out]; exact HB3.out.only ((Only.refl w3 b).setCell (by rfl) _) hne, HO3.out.l ((Only.refl w3 b).setCell (by rfl) _), HK3.out.only ((Only.refl w3 b).setCell (by rfl) _) HB3.out.lt hne⟩
    · have H : Hid (R = (true, c, c2, k2)) := Lib.hid (by rw [HT2.out, if_pos rfl, if_neg hlt])
      go_wp2_with fail
      refine (CA.out c c2 _ p HB3.out).mono ?_
      rintro e w4 ⟨rfl, hb4, ho4, hk4⟩
      go_wp2
      go_ret
      exact ⟨by rw [H.out]; rfl, by rw [H.out]; exact HR3.out.only ho4 (Ne.symm hne), by rw [H.out]; exact hb4, HO3.out.r ho4, HK3.out.trans hk4⟩
end Go.Proofs.YtoooaipbkkiefaaGreatDoor
namespace Go.Proofs.YtoooaipbkkiefaaGreatDoor
open Go.RowKit
set_option maxRecDepth 100000
set_option maxHeartbeats 2000000

theorem xor_all (v : Nat) (h : v < 18446744073709551616) : bits BinOp.xor IntKind.u64 (if IntKind.u64.signed = true then -1 else IntKind.u64.max) (v : Int) = ((18446744073709551615 ^^^ v : Nat) : Int) := by
  have e : (if IntKind.u64.signed = true then -1 else IntKind.u64.max) = ((18446744073709551615 : Nat) : Int) := by decide
  rw [e, bits_xor_u64_nat _ v (by omega) h]
theorem Wd64.compl {v : Nat} {p : Nat → Bool} {i : Nat} (h : Wd64 v p i) : Wd64 (18446744073709551615 ^^^ v) (fun x => !p x) i := by
  have e : 18446744073709551615 = 2 ^ 64 - 1 := by decide
  refine ⟨Nat.xor_lt_two_pow (n := 64) (by omega) h.1, fun j hj => ?_⟩
  rw [Nat.testBit_xor, h.2 j hj, e, Nat.testBit_two_pow_sub_one, decide_eq_true hj, Bool.true_xor]
theorem Wd64.congr {v : Nat} {p q : Nat → Bool} {i : Nat} (h : Wd64 v p i) (e : ∀ j, j < 64 → p (64 * i + j) = q (64 * i + j)) : Wd64 v q i := ⟨h.1, fun j hj => by rw [h.2 j hj, e j hj]⟩
/-- the first k words are turned -/
def turned (p : Nat → Bool) (k x : Nat) : Bool := if x < 64 * k then !p x else p x
theorem BsAt.turn {W : World} {b k v : Nat} {p : Nat → Bool} (h : BsAt W b 0 (turned p k)) (hv : W.cell? ⟨b, k, none⟩ = some (.int .u64 v)) (hw : Wd64 v (turned p k) k) :
    BsAt (W.setCell ⟨b, k, none⟩ (.int .u64 ((18446744073709551615 ^^^ v : Nat) : Int))) b 0 (turned p (k + 1)) := fun i hi => by
  obtain ⟨v', hv', hf', hw'⟩ := h i hi
  rw [Nat.zero_add] at hv' hf' ⊢
  by_cases e : k = i
  · subst e
    refine ⟨_, World.cell?_setCell_same _ _ _ hv, by rw [World.frozen?_setCell]; exact hf', hw.compl.congr fun j hj => ?_⟩
    unfold turned
    rw [if_neg (by omega), if_pos (by omega)]
  · refine ⟨v', (World.cell?_setCell_other _ _ _ _ (by simp <;> omega)).trans hv', by rw [World.frozen?_setCell]; exact hf', hw'.congr fun j hj => ?_⟩
    unfold turned
    by_cases g : 64 * i + j < 64 * k
    · rw [if_pos g, if_pos (by omega)]
    · rw [if_neg g, if_neg (by omega)]
theorem others_any (v0 v1 v2 v3 : Nat) (p : Nat → Bool) (w : World) (h0 : Wd64 v0 p 0) (h1 : Wd64 v1 p 1) (h2 : Wd64 v2 p 2) (h3 : Wd64 v3 p 3) :
    Calls Tryz.prog 185 #[.agg #[.int .u64 v0, .int .u64 v1, .int .u64 v2, .int .u64 v3]] w fun e w' =>
      (∃ u0 u1 u2 u3 : Nat, e = .returned (.agg #[.int .u64 u0, .int .u64 u1, .int .u64 u2, .int .u64 u3]) ∧ Wd64 u0 (fun x => !p x) 0 ∧ Wd64 u1 (fun x => !p x) 1 ∧ Wd64 u2 (fun x => !p x) 2 ∧ Wd64 u3 (fun x => !p x) 3) ∧ Gr w w' := by
  go_enter Tryz.func185, Tryz.ntmps185
  go_wp2
  go_loopw [4] (fun v wr => ∃ k : Nat, k ≤ 4 ∧ v = .int .i64 k ∧ Hid (BsAt wr w.heap.size 0 (turned p k)) ∧ Hid (∀ i, i < 4 → (wr.cell? ⟨w.heap.size + 1, i, none⟩).isSome = true ∧ wr.frozen? ⟨w.heap.size + 1, i, none⟩ = false) ∧ Gr w wr) (fun v _ => 4 - (intOf v).toNat)
  case atStart =>
    refine ⟨0, by omega, rfl, Lib.hid fun i hi => ?_, Lib.hid fun i hi => ?_, ((Gr.refl w).alloc _ _).alloc _ _⟩
    · have e : ∀ (v j : Nat), Wd64 v p j → Wd64 v (turned p 0) j := fun v j h => h.congr fun x _ => by unfold turned; rw [if_neg (by omega)]
      match i, hi with
      | 0, _ => exact ⟨v0, by go_simp, by go_simp, e _ _ h0⟩
      | 1, _ => exact ⟨v1, by go_simp, by go_simp, e _ _ h1⟩
      | 2, _ => exact ⟨v2, by go_simp, by go_simp, e _ _ h2⟩
      | 3, _ => exact ⟨v3, by go_simp, by go_simp, e _ _ h3⟩
    · match i, hi with
      | 0, _ => exact ⟨by go_simp, by go_simp⟩
      | 1, _ => exact ⟨by go_simp, by go_simp⟩
      | 2, _ => exact ⟨by go_simp, by go_simp⟩
      | 3, _ => exact ⟨by go_simp, by go_simp⟩
  case round =>
    obtain ⟨k, hk, rfl, HB, HR, hg⟩ := hrel
    by_cases hlt : k < 4
    · obtain ⟨v, hv, hf, hw⟩ := HB.out k hlt
      rw [Nat.zero_add] at hv hf
      have n3 : (k : Int) < 4 := by omega
      have hx := xor_all v hw.1
      have HT := Lib.hid (HB.out.turn hv hw)
      have HR2 : Hid (∀ i, i < 4 → ((wr.setCell ⟨w.heap.size, k, none⟩ (.int .u64 ((18446744073709551615 ^^^ v : Nat) : Int))).cell? ⟨w.heap.size + 1, i, none⟩).isSome = true ∧ (wr.setCell ⟨w.heap.size, k, none⟩ (.int .u64 ((18446744073709551615 ^^^ v : Nat) : Int))).frozen? ⟨w.heap.size + 1, i, none⟩ = false) := Lib.hid fun i hi => by
        rw [World.cell?_setCell_other _ _ _ _ (by simp), World.frozen?_setCell]; exact HR.out i hi
      go_wp2
      go_roundw
      case rel => exact ⟨k + 1, by omega, by go_num, HT, HR2, hg.setCell (Nat.le_refl _) _⟩
      case measure => simp [intOf]; omega
    · obtain rfl : k = 4 := by omega
      obtain ⟨u0, c0, -, w0⟩ := HB.out 0 (by omega)
      obtain ⟨u1, c1, -, w1⟩ := HB.out 1 (by omega)
      obtain ⟨u2, c2, -, w2⟩ := HB.out 2 (by omega)
      obtain ⟨u3, c3, -, w3⟩ := HB.out 3 (by omega)
      obtain ⟨x0, e0⟩ := Option.isSome_iff_exists.1 (HR.out 0 (by omega)).1
      obtain ⟨x1, e1⟩ := Option.isSome_iff_exists.1 (HR.out 1 (by omega)).1
      obtain ⟨x2, e2⟩ := Option.isSome_iff_exists.1 (HR.out 2 (by omega)).1
      obtain ⟨x3, e3⟩ := Option.isSome_iff_exists.1 (HR.out 3 (by omega)).1
      have f0 := (HR.out 0 (by omega)).2
      have f1 := (HR.out 1 (by omega)).2
      have f2 := (HR.out 2 (by omega)).2
      have f3 := (HR.out 3 (by omega)).2
      simp only [Nat.zero_add] at c0 c1 c2 c3
      have t : ∀ (u i : Nat), i < 4 → Wd64 u (turned p 4) i → Wd64 u (fun x => !p x) i := fun u i hi h => h.congr fun j hj => by unfold turned; rw [if_pos (by omega)]
      have HW := Lib.hid (show Wd64 u0 (fun x => !p x) 0 ∧ Wd64 u1 (fun x => !p x) 1 ∧ Wd64 u2 (fun x => !p x) 2 ∧ Wd64 u3 (fun x => !p x) 3 from ⟨t _ _ (by omega) w0, t _ _ (by omega) w1, t _ _ (by omega) w2, t _ _ (by omega) w3⟩)
      clear w0 w1 w2 w3 t
      go_wp2
      have hres : Tryz.f185.results = #[.cell 2 139] := by kernel_rfl
      refine bodyPost_ret (v := .agg #[.int .u64 u0, .int .u64 u1, .int .u64 u2, .int .u64 u3]) ?_ rfl ?_
      · simp only [results, hres]
        go_simp
      exact ⟨⟨u0, u1, u2, u3, rfl, HW.out⟩, (((hg.setCell (by simp) _).setCell (by simp) _).setCell (by simp) _).setCell (by simp) _⟩
end Go.Proofs.YtoooaipbkkiefaaGreatDoor
namespace Go.Proofs.YtoooaipbkkiefaaGreatDoor
open Go.RowKit
set_option maxRecDepth 100000
set_option maxHeartbeats 2000000

def spL : List UInt8 := [92, 46, 91, 93, 40, 41, 124, 42, 43, 63]
def escB (c : UInt8) : List UInt8 := if amongB spL c then [92, c] else [c]
def escS (s : List UInt8) : List UInt8 := s.flatMap escB
theorem escS_len (s : List UInt8) : (escS s).length ≤ 2 * s.length := by
  unfold escS
  induction s with
  | nil => simp
  | cons c r ih =>
    rw [List.flatMap_cons, List.length_append, List.length_cons]
    have : (escB c).length ≤ 2 := by unfold escB; split <;> simp
    omega
theorem escS_step {s : List UInt8} {k : Nat} (h : k < s.length) : escS (s.take (k + 1)) = escS (s.take k) ++ escB s[k] := by
  unfold escS
  rw [List.take_succ_eq_append_getElem h, List.flatMap_append]; simp
end Go.Proofs.YtoooaipbkkiefaaGreatDoor
namespace Go.Proofs.YtoooaipbkkiefaaGreatDoor
open Go.RowKit
set_option maxRecDepth 100000
set_option maxHeartbeats 2000000

/-- the bytes that may stand behind a stroke -/
def bsL : List UInt8 := [92, 46, 91, 93, 40, 41, 124, 42, 43, 63, 94, 36, 123, 125, 47, 45]
def litF (s : List UInt8) : Nat → Nat → List UInt8 → Option (List UInt8)
  | 0, _, _ => none
  | f + 1, k, out => if k < s.length then (if (letterS s spL bsL k).1 then litF s f (letterS s spL bsL k).2.2 (out ++ [(letterS s spL bsL k).2.1]) else none) else some out
theorem litF_s (s : List UInt8) (f k : Nat) (out : List UInt8) : litF s (f + 1) k out = if k < s.length then (if (letterS s spL bsL k).1 then litF s f (letterS s spL bsL k).2.2 (out ++ [(letterS s spL bsL k).2.1]) else none) else some out := rfl
def literalS (s : List UInt8) : Option (List UInt8) := litF s (s.length + 1) 0 []
theorem letter_on {s a b : List UInt8} {k : Nat} (h : (letterS s a b k).1 = true) : k < (letterS s a b k).2.2 := by
  unfold letterS at h ⊢
  cases hst : isAt s k 92
  · rw [hst] at h
    simp only [Bool.false_eq_true, if_false] at h ⊢
    cases e : s[k]? with
    | none => rw [e] at h; cases h
    | some c =>
      rw [e] at h
      simp only at h ⊢
      split at h
      · rename_i g; rw [if_pos g]; show k < k + 1; omega
      · cases h
  · rw [hst] at h
    simp only [if_true] at h ⊢
    cases e : s[k + 1]? with
    | none => rw [e] at h; cases h
    | some c =>
      rw [e] at h
      simp only at h ⊢
      split at h
      · rename_i g; rw [if_pos g]; show k < k + 1 + 1; omega
      · cases h
def litV : Option (List UInt8) → Value
  | some t => .tuple #[.string ⟨t.toArray⟩, .bool true]
  | none => .tuple #[.string ⟨#[]⟩, .bool false]
theorem OwnB.only {W W' : World} {B b : Nat} {v : Value} {l : List UInt8} (h : OwnB W B v l) (g : Only W W' b) (hb : b < B) : OwnB W' B v l :=
  World.ownsRow.kept h (row := some b) g (.inr fun e => by have := (h.lt e).1; omega)
end Go.Proofs.YtoooaipbkkiefaaGreatDoor
namespace Go.Proofs.YtoooaipbkkiefaaGreatDoor
open Go.RowKit
set_option maxRecDepth 100000
set_option maxHeartbeats 4000000

theorem itemS_le {s : List UInt8} {k : Nat} (h : k ≤ s.length) : (itemS s k).2.2.2 ≤ s.length ∧ ((itemS s k).1 = true → k < (itemS s k).2.2.2) := by
  have h1 := letterS_le s sbL sqL k h
  have h2 := letter_on (s := s) (a := sbL) (b := sqL) (k := k)
  unfold itemS
  obtain ⟨r, hr⟩ : ∃ r, letterS s sbL sqL k = r := ⟨_, rfl⟩
  rw [hr] at h1 h2 ⊢
  obtain ⟨ok, c, k1⟩ := r
  simp only at h1 h2 ⊢
  cases ok
  · exact ⟨h1.1, fun e => by cases e⟩
  have h2' := h2 rfl
  simp only [if_true]
  cases ht : isAt s k1 45
  · exact ⟨h1.1, fun _ => h2'⟩
  have hk1 : k1 < s.length := (List.getElem?_eq_some_iff.1 (of_decide_eq_true ht)).1
  have h3 := letterS_le s sbL sqL (k1 + 1) (by omega)
  simp only [if_true]
  obtain ⟨q, hq⟩ : ∃ q, letterS s sbL sqL (k1 + 1) = q := ⟨_, rfl⟩
  rw [hq] at h3 ⊢
  obtain ⟨ok2, c2, k2⟩ := q
  simp only at h3 ⊢
  cases ok2
  · exact ⟨h3.1, fun e => by cases e⟩
  simp only [if_true]
  split
  · exact ⟨by show k1 + 1 ≤ _; omega, fun e => by cases e⟩
  · exact ⟨h3.1, fun _ => by show k < k2; omega⟩
def setF (s : List UInt8) : Nat → Nat → (Nat → Bool) → Bool × (Nat → Bool) × Nat
  | 0, k, p => (false, p, k)
  | f + 1, k, p => if isAt s k 93 then (true, p, k + 1) else if (itemS s k).1 then setF s f (itemS s k).2.2.2 (fun x => p x || inR (itemS s k).2.1.toNat (itemS s k).2.2.1.toNat x) else (false, p, (itemS s k).2.2.2)
theorem setF_s (s : List UInt8) (f k : Nat) (p : Nat → Bool) : setF s (f + 1) k p = if isAt s k 93 then (true, p, k + 1) else if (itemS s k).1 then setF s f (itemS s k).2.2.2 (fun x => p x || inR (itemS s k).2.1.toNat (itemS s k).2.2.1.toNat x) else (false, p, (itemS s k).2.2.2) := rfl
/-- behind the opening bracket: is there a set, which, and the place behind it -/
def setS (s : List UInt8) (k : Nat) : Bool × (Nat → Bool) × Nat :=
  let k1 := if isAt s k 94 then k + 1 else k
  let r := itemS s k1
  if r.1 then
    let q := setF s (s.length + 1) r.2.2.2 (fun x => false || inR r.2.1.toNat r.2.2.1.toNat x)
    (q.1, (if isAt s k 94 then fun x => !q.2.1 x else q.2.1), q.2.2)
  else (false, fun _ => false, r.2.2.2)
/-- a node of one byte -/
def LeafV (v : Value) (p : Nat → Bool) : Prop := ∃ u0 u1 u2 u3 : Nat, v = .agg #[.int .i64 0, .int .u64 u0, .int .u64 u1, .int .u64 u2, .int .u64 u3, .slice none 0 0] ∧ Wd64 u0 p 0 ∧ Wd64 u1 p 1 ∧ Wd64 u2 p 2 ∧ Wd64 u3 p 3
def zeroN : Value := .agg #[.int .i64 0, .int .u64 0, .int .u64 0, .int .u64 0, .int .u64 0, .slice none 0 0]
def SetPPost (b : Nat) (s : ByteArray) (r : Bool × (Nat → Bool) × Nat) (w : World) (e : Ending) (w' : World) : Prop :=
  Rd w' b s r.2.2 ∧ Only w w' b ∧ ∃ v, e = .returned (.tuple #[v, .bool r.1]) ∧ (r.1 = true → LeafV v r.2.1) ∧ (r.1 = false → v = zeroN)
/-- six cells that may be written -/
def Six (W : World) (b : Nat) : Prop := ∀ i, i < 6 → (W.cell? ⟨b, i, none⟩).isSome = true ∧ W.frozen? ⟨b, i, none⟩ = false
theorem Six.on2 {W W' : World} {b d e : Nat} (h : Six W b) (g : On2 W W' d e) (h1 : b ≠ d) (h2 : b ≠ e) : Six W' b := fun i hi => by
  have hlt : b < W.heap.size := by
    obtain ⟨u, hu⟩ := Option.isSome_iff_exists.1 (h 0 (by omega)).1
    exact World.block_lt_of_cell? W _ hu
  have hb := g.block b hlt h1 h2
  exact ⟨by rw [World.cell?_of_block (a := ⟨b, i, none⟩) hb]; exact (h i hi).1, by rw [World.frozen?_of_block (a := ⟨b, i, none⟩) hb]; exact (h i hi).2⟩
theorem On2.of_r {w w' : World} {b d : Nat} (h : Only w w' b) : On2 w w' b d := (On2.refl w b d).l h
/-- what holds on the way: X: the world behind both new blocks -/
structure SetSt (b N : Nat) (s : ByteArray) (X W : World) (k : Nat) (p : Nat → Bool) : Prop where
  r : Rd W b s k
  p : BsAt W (N + 1) 1 p
  k : KeepsB X W (N + 1) 1
  x : Six W N
  o : On2 X W b (N + 1)
theorem SetSt.take {b N : Nat} {s : ByteArray} {X W W' : World} {k k' : Nat} {p : Nat → Bool} (h : SetSt b N s X W k p) (hb : b < N) (g : Only W W' b) (r : Rd W' b s k') : SetSt b N s X W' k' p :=
  ⟨r, h.p.only g (by omega), h.k.only g h.p.lt (by omega), h.x.on2 (On2.of_r (d := N + 1) g) (by omega) (by omega), h.o.l g⟩
theorem SetSt.item {b N : Nat} {s : ByteArray} {X W W' : World} {k k' : Nat} {p q : Nat → Bool} (h : SetSt b N s X W k p) (hb : b < N) (r : Rd W' b s k') (hp : BsAt W' (N + 1) 1 q) (g : On2 W W' b (N + 1)) (hk : KeepsB W W' (N + 1) 1) : SetSt b N s X W' k' q :=
  ⟨r, hp, h.k.trans hk, h.x.on2 g (by omega) (by omega), h.o.trans g⟩
theorem On2.only {w X W : World} {b : Nat} (g : Gr w X) (h : On2 X W b (w.heap.size + 1)) : Only w W b :=
  ⟨h.os.trans g.b.os, h.tape.trans g.b.tape, h.output.trans g.b.output, Nat.le_trans g.b.size h.size, fun i hi hne => (h.block i (Nat.lt_of_lt_of_le hi g.b.size) (fun e => hne (by rw [e])) (by omega)).trans (g.b.block i hi)⟩
theorem set_start (b k : Nat) (s : ByteArray) (w : World) (h : Rd w b s k) (X : World) (hX : X = (w.alloc (.cells #[.int .i64 0, .int .u64 0, .int .u64 0, .int .u64 0, .int .u64 0, .slice none 0 0] 142)).alloc (.cells #[.int .i64 0, .int .u64 0, .int .u64 0, .int .u64 0, .int .u64 0, .slice none 0 0] 142)) :
    SetSt b w.heap.size s X X k (fun _ => false) ∧ X.cell? ⟨w.heap.size + 1, 0, none⟩ = some (.int .i64 0) ∧ X.cell? ⟨w.heap.size + 1, 5, none⟩ = some (.slice none 0 0) ∧ Gr w X := by
  subst hX
  refine ⟨⟨h.gr (((Gr.refl w).alloc _ _).alloc _ _), fun i hi => ?_, KeepsB.refl _ _ _, fun i hi => ?_, On2.refl _ _ _⟩, by go_simp, by go_simp, ((Gr.refl w).alloc _ _).alloc _ _⟩
  · have e : Wd64 0 (fun _ => false) i := ⟨by omega, fun j _ => by simp⟩
    match i, hi with
    | 0, _ => exact ⟨0, by go_simp, by go_simp, e⟩
    | 1, _ => exact ⟨0, by go_simp, by go_simp, e⟩
    | 2, _ => exact ⟨0, by go_simp, by go_simp, e⟩
    | 3, _ => exact ⟨0, by go_simp, by go_simp, e⟩
  · match i, hi with
    | 0, _ => exact ⟨by go_simp, by go_simp⟩
    | 1, _ => exact ⟨by go_simp, by go_simp⟩
    | 2, _ => exact ⟨by go_simp, by go_simp⟩
    | 3, _ => exact ⟨by go_simp, by go_simp⟩
    | 4, _ => exact ⟨by go_simp, by go_simp⟩
    | 5, _ => exact ⟨by go_simp, by go_simp⟩
/-- the result's six cells, written -/
theorem Only.six {w W : World} {b : Nat} (h : Only w W b) (v0 v1 v2 v3 v4 v5 : Value) : Only w ((((((W.setCell ⟨w.heap.size, 0, none⟩ v0).setCell ⟨w.heap.size, 1, none⟩ v1).setCell ⟨w.heap.size, 2, none⟩ v2).setCell ⟨w.heap.size, 3, none⟩ v3).setCell ⟨w.heap.size, 4, none⟩ v4).setCell ⟨w.heap.size, 5, none⟩ v5) b := by
  have key : ∀ (W : World) (o : Nat) (v : Value), Only w W b → Only w (W.setCell ⟨w.heap.size, o, none⟩ v) b := fun W o v h =>
    ⟨h.os, h.tape, h.output, by simpa [World.setCell] using h.size, fun i hi hne => (Below.heap_setCell W _ _ i (by
      show i ≠ w.heap.size
      omega)).trans (h.block i hi hne)⟩
  exact key _ _ _ (key _ _ _ (key _ _ _ (key _ _ _ (key _ _ _ (key _ _ _ h)))))
theorem Rd.six {W : World} {b N : Nat} {s : ByteArray} {k : Nat} (h : Rd W b s k) (hb : b < N) (v0 v1 v2 v3 v4 v5 : Value) : Rd ((((((W.setCell ⟨N, 0, none⟩ v0).setCell ⟨N, 1, none⟩ v1).setCell ⟨N, 2, none⟩ v2).setCell ⟨N, 3, none⟩ v3).setCell ⟨N, 4, none⟩ v4).setCell ⟨N, 5, none⟩ v5) b s k := by
  have key : ∀ (W : World) (o : Nat) (v : Value), Rd W b s k → Rd (W.setCell ⟨N, o, none⟩ v) b s k := fun W o v h =>
    (Below.heap_setCell W _ _ b (by show b ≠ N; omega)).trans h
  exact key _ _ _ (key _ _ _ (key _ _ _ (key _ _ _ (key _ _ _ (key _ _ _ h)))))
theorem st_no {b k : Nat} {s : ByteArray} {w X W : World} {p q : Nat → Bool} {R : Bool × (Nat → Bool) × Nat} (v0 v1 v2 v3 v4 v5 : Value) (hb : b < w.heap.size) (H : R = (false, q, k)) (hg : Gr w X) (h : SetSt b w.heap.size s X W k p) :
    SetPPost b s R w (.returned (.tuple #[zeroN, .bool false])) ((((((W.setCell ⟨w.heap.size, 0, none⟩ v0).setCell ⟨w.heap.size, 1, none⟩ v1).setCell ⟨w.heap.size, 2, none⟩ v2).setCell ⟨w.heap.size, 3, none⟩ v3).setCell ⟨w.heap.size, 4, none⟩ v4).setCell ⟨w.heap.size, 5, none⟩ v5) := by
  subst H
  exact ⟨h.r.six hb _ _ _ _ _ _, (h.o.only hg).six _ _ _ _ _ _, zeroN, rfl, fun e => absurd e (by simp), fun _ => rfl⟩
theorem st_yes {b k : Nat} {s : ByteArray} {w X W : World} {p q : Nat → Bool} {v : Value} {R : Bool × (Nat → Bool) × Nat} (v0 v1 v2 v3 v4 v5 : Value) (hb : b < w.heap.size) (H : R = (true, q, k)) (hg : Gr w X) (h : SetSt b w.heap.size s X W k p) (hv : LeafV v q) :
    SetPPost b s R w (.returned (.tuple #[v, .bool true])) ((((((W.setCell ⟨w.heap.size, 0, none⟩ v0).setCell ⟨w.heap.size, 1, none⟩ v1).setCell ⟨w.heap.size, 2, none⟩ v2).setCell ⟨w.heap.size, 3, none⟩ v3).setCell ⟨w.heap.size, 4, none⟩ v4).setCell ⟨w.heap.size, 5, none⟩ v5) := by
  subst H
  exact ⟨h.r.six hb _ _ _ _ _ _, (h.o.only hg).six _ _ _ _ _ _, v, rfl, fun _ => hv, fun e => absurd e (by simp)⟩
theorem st_yes2 {b k : Nat} {s : ByteArray} {w X W : World} {q : Nat → Bool} {v : Value} {R : Bool × (Nat → Bool) × Nat} (v0 v1 v2 v3 v4 v5 : Value) (hb : b < w.heap.size) (H : R = (true, q, k)) (hg : Gr w X) (hr : Rd W b s k) (ho : On2 X W b (w.heap.size + 1)) (hv : LeafV v q) :
    SetPPost b s R w (.returned (.tuple #[v, .bool true])) ((((((W.setCell ⟨w.heap.size, 0, none⟩ v0).setCell ⟨w.heap.size, 1, none⟩ v1).setCell ⟨w.heap.size, 2, none⟩ v2).setCell ⟨w.heap.size, 3, none⟩ v3).setCell ⟨w.heap.size, 4, none⟩ v4).setCell ⟨w.heap.size, 5, none⟩ v5) := by
  subst H
  exact ⟨hr.six hb _ _ _ _ _ _, (ho.only hg).six _ _ _ _ _ _, v, rfl, fun _ => hv, fun e => absurd e (by simp)⟩
theorem Rd.four {W : World} {b N : Nat} {s : ByteArray} {k : Nat} (h : Rd W b s k) (hb : b < N) (v0 v1 v2 v3 : Value) : Rd ((((W.setCell ⟨N, 1, none⟩ v0).setCell ⟨N, 2, none⟩ v1).setCell ⟨N, 3, none⟩ v2).setCell ⟨N, 4, none⟩ v3) b s k := by
  have key : ∀ (W : World) (o : Nat) (v : Value), Rd W b s k → Rd (W.setCell ⟨N, o, none⟩ v) b s k := fun W o v h =>
    (Below.heap_setCell W _ _ b (by show b ≠ N; omega)).trans h
  exact key _ _ _ (key _ _ _ (key _ _ _ (key _ _ _ h)))
theorem set_any (b k : Nat) (s : ByteArray) (w : World) (h : Rd w b s k) (hk : k ≤ s.size) (hs : s.size ≤ 1000000) :
    Calls Tryz.prog 187 #[.pointer (some ⟨b, 0, none⟩)] w (SetPPost b s (setS s.data.toList k) w) := by
  have hlen : s.data.toList.length = s.size := by simp
  have HL := Lib.hid hlen
  have hbN := h.lt
  obtain ⟨X, hX⟩ : ∃ X, X = (w.alloc (.cells #[.int .i64 0, .int .u64 0, .int .u64 0, .int .u64 0, .int .u64 0, .slice none 0 0] 142)).alloc (.cells #[.int .i64 0, .int .u64 0, .int .u64 0, .int .u64 0, .int .u64 0, .slice none 0 0] 142) := ⟨_, rfl⟩
  obtain ⟨hst, hx0, hx5, hgX⟩ := set_start b k s w h X hX
  have CT := Lib.hid (fun (c : UInt8) (k : Nat) W (h : Rd W b s k) (hk : k ≤ s.size) => take_any b s k c W h hk hs)
  have CI := Lib.hid (fun (k : Nat) W p (h : Rd W b s k) (hk : k ≤ s.size) (hB : BsAt W (w.heap.size + 1) 1 p) => item_any b (w.heap.size + 1) 1 k s p W h hk hs hB (by omega))
  have HST := Lib.hid hst
  have HX := Lib.hid (And.intro hx0 (And.intro hx5 hgX))
  clear hst hx0 hx5 hgX h
  obtain ⟨R, hR⟩ : ∃ R, setS s.data.toList k = R := ⟨_, rfl⟩
  rw [hR]
  have HR := Lib.hid hR
  clear hR
  obtain ⟨wo, hwo⟩ : ∃ wo, isAt s.data.toList k 94 = wo := ⟨_, rfl⟩
  have hwl : wo = true → k < s.size := fun e => by
    have := (List.getElem?_eq_some_iff.1 (of_decide_eq_true (hwo.trans e))).1
    omega
  have C1 := Lib.hid (CT.out 94 k X HST.out.r hk)
  unfold TakePost at C1
  rw [hwo] at C1
  have HWO := Lib.hid hwo
  clear hwo
  go_enter Tryz.func187, Tryz.ntmps187
  go_wp2_with fail
  rw [← hX]
  refine C1.out.mono ?_
  rintro e w1 ⟨rfl, hr1, ho1⟩
  obtain ⟨k1, hk1⟩ : ∃ k1, (if wo then k + 1 else k) = k1 := ⟨_, rfl⟩
  have hk1s : k1 ≤ s.size := by
    rw [← hk1]
    cases wo
    · exact hk
    · exact hwl rfl
  rw [hk1] at hr1
  have HS1 := Lib.hid (HST.out.take hbN ho1 hr1)
  have C2 := Lib.hid (CI.out k1 w1 _ HS1.out.r hk1s HS1.out.p)
  have hit := itemS_le (s := s.data.toList) (k := k1) (by rw [hlen]; exact hk1s)
  rw [hlen] at hit
  have hR2 := HR.out
  unfold setS at hR2
  simp only at hR2
  rw [HWO.out] at hR2
  rw [hk1] at hR2
  obtain ⟨r, hr⟩ : ∃ r, itemS s.data.toList k1 = r := ⟨_, rfl⟩
  rw [hr] at hR2 C2 hit
  have HR3 := Lib.hid hR2
  clear HR hR2
  clear hr hr1 ho1 C1 hk1 HST
  obtain ⟨ok, c, d, k2⟩ := r
  unfold ItemPost at C2
  simp only at HR3 C2 hit
  have hres : Tryz.f187.results = #[.cell 2 142, .tmp 3] := by kernel_rfl
  cases ok
  · have H : Hid (R = (false, fun _ => false, k2)) := Lib.hid (by rw [← HR3.out]; rfl)
    clear HR3
    go_wp2_with fail
    refine C2.out.mono ?_
    rintro e w2 ⟨rfl, hr2, hb2, ho2, hk2⟩
    have HQ := Lib.hid (HS1.out.item hbN hr2 hb2 ho2 hk2)
    clear hr2 hb2 ho2 hk2
    obtain ⟨y0, e0⟩ := Option.isSome_iff_exists.1 (HQ.out.x 0 (by omega)).1
    obtain ⟨y1, e1⟩ := Option.isSome_iff_exists.1 (HQ.out.x 1 (by omega)).1
    obtain ⟨y2, e2⟩ := Option.isSome_iff_exists.1 (HQ.out.x 2 (by omega)).1
    obtain ⟨y3, e3⟩ := Option.isSome_iff_exists.1 (HQ.out.x 3 (by omega)).1
    obtain ⟨y4, e4⟩ := Option.isSome_iff_exists.1 (HQ.out.x 4 (by omega)).1
    obtain ⟨y5, e5⟩ := Option.isSome_iff_exists.1 (HQ.out.x 5 (by omega)).1
    have f0 := (HQ.out.x 0 (by omega)).2
    have f1 := (HQ.out.x 1 (by omega)).2
    have f2 := (HQ.out.x 2 (by omega)).2
    have f3 := (HQ.out.x 3 (by omega)).2
    have f4 := (HQ.out.x 4 (by omega)).2
    have f5 := (HQ.out.x 5 (by omega)).2
    go_wp2
    refine bodyPost_ret (v := .tuple #[zeroN, .bool false]) ?_ rfl ?_
    · simp only [results, hres]
      go_simp
      rfl
    exact st_no _ _ _ _ _ _ hbN H.out HX.out.2.2 HQ.out
  have HR4 : Hid (R = ((setF s.data.toList (s.size + 1) k2 (fun x => false || inR c.toNat d.toNat x)).1, (if wo then fun x => !(setF s.data.toList (s.size + 1) k2 (fun x => false || inR c.toNat d.toNat x)).2.1 x else (setF s.data.toList (s.size + 1) k2 (fun x => false || inR c.toNat d.toNat x)).2.1), (setF s.data.toList (s.size + 1) k2 (fun x => false || inR c.toNat d.toNat x)).2.2)) := Lib.hid (by rw [← HR3.out, hlen]; rfl)
  clear HR3
  obtain ⟨Q, hQ⟩ : ∃ Q, setF s.data.toList (s.size + 1) k2 (fun x => false || inR c.toNat d.toNat x) = Q := ⟨_, rfl⟩
  rw [hQ] at HR4
  have HQF := Lib.hid hQ
  have hk2 : k2 ≤ s.size := hit.1
  clear hQ hit
  go_wp2_with fail
  refine C2.out.mono ?_
  rintro e w2 ⟨rfl, hr2, hb2, ho2, hkk2⟩
  have HS2 := Lib.hid (HS1.out.item hbN hr2 hb2 ho2 hkk2)
  clear hr2 hb2 ho2 hkk2 C2 HS1
  go_wp2
  go_loopg [] (s.size + 1) (fun g wx => ∃ (k : Nat) (p : Nat → Bool), k ≤ s.size ∧ s.size + 1 ≤ k + g ∧ Hid (SetSt b w.heap.size s X wx k p) ∧ Hid (setF s.data.toList g k p = Q))
  case atStart => exact ⟨k2, _, hk2, by omega, HS2, HQF⟩
  case round =>
    clear HS2 HQF
    obtain ⟨k, p, hk, hf, HS, HF⟩ := hrel
    cases gk with
    | zero => omega
    | succ f =>
      have hF := HF.out
      rw [setF_s] at hF
      have C3 := Lib.hid (CT.out 93 k wr HS.out.r hk)
      unfold TakePost at C3
      obtain ⟨tk, htk⟩ : ∃ tk, isAt s.data.toList k 93 = tk := ⟨_, rfl⟩
      rw [htk] at C3 hF
      have htl : tk = true → k < s.size := fun e => by
        have := (List.getElem?_eq_some_iff.1 (of_decide_eq_true (htk.trans e))).1
        omega
      clear htk
      have HF2 := Lib.hid hF
      clear hF HF
      cases tk
      · have hit := itemS_le (s := s.data.toList) (k := k) (by rw [hlen]; exact hk)
        rw [hlen] at hit
        go_wp2_with fail
        refine C3.out.mono ?_
        rintro e w3 ⟨rfl, hr3, ho3⟩
        have HS3 : Hid (SetSt b w.heap.size s X w3 k p) := Lib.hid (HS.out.take hbN ho3 hr3)
        clear hr3 ho3
        have C4 := Lib.hid (CI.out k w3 _ HS3.out.r hk HS3.out.p)
        obtain ⟨r, hr⟩ : ∃ r, itemS s.data.toList k = r := ⟨_, rfl⟩
        rw [hr] at C4 hit HF2
        clear hr
        obtain ⟨ok, c', d', k'⟩ := r
        unfold ItemPost at C4
        simp only at C4 hit HF2
        cases ok
        · have H : Hid (R = (false, R.2.1, k')) := Lib.hid (by rw [HR4.out, ← HF2.out]; rfl)
          go_wp2_with fail
          refine C4.out.mono ?_
          rintro e w4 ⟨rfl, hr4, hb4, ho4, hk4⟩
          have HQ := Lib.hid (HS3.out.item hbN hr4 hb4 ho4 hk4)
          clear hr4 hb4 ho4 hk4
          obtain ⟨y0, e0⟩ := Option.isSome_iff_exists.1 (HQ.out.x 0 (by omega)).1
          obtain ⟨y1, e1⟩ := Option.isSome_iff_exists.1 (HQ.out.x 1 (by omega)).1
          obtain ⟨y2, e2⟩ := Option.isSome_iff_exists.1 (HQ.out.x 2 (by omega)).1
          obtain ⟨y3, e3⟩ := Option.isSome_iff_exists.1 (HQ.out.x 3 (by omega)).1
          obtain ⟨y4, e4⟩ := Option.isSome_iff_exists.1 (HQ.out.x 4 (by omega)).1
          obtain ⟨y5, e5⟩ := Option.isSome_iff_exists.1 (HQ.out.x 5 (by omega)).1
          have f0 := (HQ.out.x 0 (by omega)).2
          have f1 := (HQ.out.x 1 (by omega)).2
          have f2 := (HQ.out.x 2 (by omega)).2
          have f3 := (HQ.out.x 3 (by omega)).2
          have f4 := (HQ.out.x 4 (by omega)).2
          have f5 := (HQ.out.x 5 (by omega)).2
          go_wp2
          refine bodyPost_ret (v := .tuple #[zeroN, .bool false]) ?_ rfl ?_
          · simp only [results, hres]
            go_simp
            rfl
          exact st_no _ _ _ _ _ _ hbN H.out HX.out.2.2 HQ.out
        · have hit2 := hit.2 rfl
          have H : Hid (setF s.data.toList f k' (fun x => p x || inR c'.toNat d'.toNat x) = Q) := Lib.hid (by rw [← HF2.out]; rfl)
          go_wp2_with fail
          refine C4.out.mono ?_
          rintro e w4 ⟨rfl, hr4, hb4, ho4, hk4⟩
          have HQ := Lib.hid (HS3.out.item hbN hr4 hb4 ho4 hk4)
          clear hr4 hb4 ho4 hk4
          go_wp2
          go_roundg f
          case measure => omega
          case rel => exact ⟨k', _, hit.1, by omega, HQ, H⟩
      · have htl' := htl rfl
        have H : Hid (Q = (true, p, k + 1)) := Lib.hid (by rw [← HF2.out]; rfl)
        go_wp2_with fail
        refine C3.out.mono ?_
        rintro e w3 ⟨rfl, hr3, ho3⟩
        have HQ : Hid (SetSt b w.heap.size s X w3 (k + 1) p) := Lib.hid (HS.out.take hbN ho3 hr3)
        clear hr3 ho3
        cases wo
        · have H2 : Hid (R = (true, p, k + 1)) := Lib.hid (by rw [HR4.out, H.out]; rfl)
          have n0 := (HQ.out.k 0 (Or.inl (by omega))).1.trans HX.out.1
          have n5 := (HQ.out.k 5 (Or.inr (by omega))).1.trans HX.out.2.1
          obtain ⟨a0, n1, g1, p0⟩ := HQ.out.p 0 (by omega)
          obtain ⟨a1, n2, g2, p1⟩ := HQ.out.p 1 (by omega)
          obtain ⟨a2, n3, g3, p2⟩ := HQ.out.p 2 (by omega)
          obtain ⟨a3, n4, g4, p3⟩ := HQ.out.p 3 (by omega)
          simp only [Nat.reduceAdd] at n1 n2 n3 n4 g1 g2 g3 g4
          obtain ⟨y0, e0⟩ := Option.isSome_iff_exists.1 (HQ.out.x 0 (by omega)).1
          obtain ⟨y1, e1⟩ := Option.isSome_iff_exists.1 (HQ.out.x 1 (by omega)).1
          obtain ⟨y2, e2⟩ := Option.isSome_iff_exists.1 (HQ.out.x 2 (by omega)).1
          obtain ⟨y3, e3⟩ := Option.isSome_iff_exists.1 (HQ.out.x 3 (by omega)).1
          obtain ⟨y4, e4⟩ := Option.isSome_iff_exists.1 (HQ.out.x 4 (by omega)).1
          obtain ⟨y5, e5⟩ := Option.isSome_iff_exists.1 (HQ.out.x 5 (by omega)).1
          have f0 := (HQ.out.x 0 (by omega)).2
          have f1 := (HQ.out.x 1 (by omega)).2
          have f2 := (HQ.out.x 2 (by omega)).2
          have f3 := (HQ.out.x 3 (by omega)).2
          have f4 := (HQ.out.x 4 (by omega)).2
          have f5 := (HQ.out.x 5 (by omega)).2
          go_wp2
          refine bodyPost_ret (v := .tuple #[.agg #[.int .i64 0, .int .u64 a0, .int .u64 a1, .int .u64 a2, .int .u64 a3, .slice none 0 0], .bool true]) ?_ rfl ?_
          · simp only [results, hres]
            go_simp
          exact st_yes _ _ _ _ _ _ hbN H2.out HX.out.2.2 HQ.out ⟨a0, a1, a2, a3, rfl, p0, p1, p2, p3⟩
        · have H2 : Hid (R = (true, fun x => !p x, k + 1)) := Lib.hid (by rw [HR4.out, H.out]; rfl)
          have n0 := (HQ.out.k 0 (Or.inl (by omega))).1.trans HX.out.1
          have n5 := (HQ.out.k 5 (Or.inr (by omega))).1.trans HX.out.2.1
          obtain ⟨a0, n1, g1, p0⟩ := HQ.out.p 0 (by omega)
          obtain ⟨a1, n2, g2, p1⟩ := HQ.out.p 1 (by omega)
          obtain ⟨a2, n3, g3, p2⟩ := HQ.out.p 2 (by omega)
          obtain ⟨a3, n4, g4, p3⟩ := HQ.out.p 3 (by omega)
          simp only [Nat.reduceAdd] at n1 n2 n3 n4 g1 g2 g3 g4
          have CO := Lib.hid (others_any a0 a1 a2 a3 p w3 p0 p1 p2 p3)
          go_wp2_with fail
          refine CO.out.mono ?_
          rintro e w4 ⟨⟨u0, u1, u2, u3, rfl, q0, q1, q2, q3⟩, gg⟩
          have m0 := gg.cell n0
          have m1 := gg.cell n1
          have m2 := gg.cell n2
          have m3 := gg.cell n3
          have m4 := gg.cell n4
          have m5 := gg.cell n5
          have HQ2 : Hid (SetSt b w.heap.size s X w4 (k + 1) p) := Lib.hid (HQ.out.take hbN ((Only.refl _ b).gr gg) (HQ.out.r.gr gg))
          clear n0 n1 n2 n3 n4 n5 g1 g2 g3 g4 p0 p1 p2 p3 gg
          obtain ⟨_, _, g1, _⟩ := HQ2.out.p 0 (by omega)
          obtain ⟨_, _, g2, _⟩ := HQ2.out.p 1 (by omega)
          obtain ⟨_, _, g3, _⟩ := HQ2.out.p 2 (by omega)
          obtain ⟨_, _, g4, _⟩ := HQ2.out.p 3 (by omega)
          simp only [Nat.reduceAdd] at g1 g2 g3 g4
          have HQV := Lib.hid (show LeafV (.agg #[.int .i64 0, .int .u64 u0, .int .u64 u1, .int .u64 u2, .int .u64 u3, .slice none 0 0]) (fun x => !p x) from ⟨u0, u1, u2, u3, rfl, q0, q1, q2, q3⟩)
          clear q0 q1 q2 q3
          obtain ⟨y0, e0⟩ := Option.isSome_iff_exists.1 (HQ2.out.x 0 (by omega)).1
          obtain ⟨y1, e1⟩ := Option.isSome_iff_exists.1 (HQ2.out.x 1 (by omega)).1
          obtain ⟨y2, e2⟩ := Option.isSome_iff_exists.1 (HQ2.out.x 2 (by omega)).1
          obtain ⟨y3, e3⟩ := Option.isSome_iff_exists.1 (HQ2.out.x 3 (by omega)).1
          obtain ⟨y4, e4⟩ := Option.isSome_iff_exists.1 (HQ2.out.x 4 (by omega)).1
          obtain ⟨y5, e5⟩ := Option.isSome_iff_exists.1 (HQ2.out.x 5 (by omega)).1
          have f0 := (HQ2.out.x 0 (by omega)).2
          have f1 := (HQ2.out.x 1 (by omega)).2
          have f2 := (HQ2.out.x 2 (by omega)).2
          have f3 := (HQ2.out.x 3 (by omega)).2
          have f4 := (HQ2.out.x 4 (by omega)).2
          have f5 := (HQ2.out.x 5 (by omega)).2
          go_wp2
          refine bodyPost_ret (v := .tuple #[.agg #[.int .i64 0, .int .u64 u0, .int .u64 u1, .int .u64 u2, .int .u64 u3, .slice none 0 0], .bool true]) ?_ rfl ?_
          · simp only [results, hres]
            go_simp
          exact st_yes2 _ _ _ _ _ _ hbN H2.out HX.out.2.2 (HQ2.out.r.four (by omega) _ _ _ _) (HQ2.out.o.r (((((Only.refl w4 (w.heap.size + 1)).setCell (by rfl) _).setCell (by rfl) _).setCell (by rfl) _).setCell (by rfl) _)) HQV.out
end Go.Proofs.YtoooaipbkkiefaaGreatDoor
namespace Go.Proofs.YtoooaipbkkiefaaGreatDoor
open Go.RowKit
set_option maxRecDepth 100000
set_option maxHeartbeats 1000000

/-- a pattern: one byte of a set; or parts, by kind: 1 in turn, 2 either, 3 any number, 4 one or more, 5 one or none -/
inductive Nd where
  | one (p : Nat → Bool)
  | op (k : Nat) (l : List Nd)
def kindV (k : Nat) (A : Option Addr) (n c : Nat) : Value := .agg #[.int .i64 k, .int .u64 0, .int .u64 0, .int .u64 0, .int .u64 0, .slice A n c]
def sixAt (W : World) (b i : Nat) (v : Fin 6 → Value) : Prop := ∀ j : Fin 6, W.cell? ⟨b, i * 6 + j.val, none⟩ = some (v j)
def aggOf (v : Fin 6 → Value) : Value := .agg #[v 0, v 1, v 2, v 3, v 4, v 5]
mutual
/-- a value that reads as a pattern; the rows of its parts lie in blocks that X allows -/
def NodeV (W : World) (X : Nat → Prop) : Nd → Value → Prop
  | .one p, v => LeafV v p
  | .op k l, v => ∃ A c, v = kindV k A l.length c ∧ l.length ≤ c ∧ c ≤ maxLen ∧ (0 < l.length → ∃ b, A = some ⟨b, 0, none⟩ ∧ X b ∧ NodesFrom W X b l 0)
def NodesFrom (W : World) (X : Nat → Prop) (b : Nat) : List Nd → Nat → Prop
  | [], _ => True
  | n :: r, i => (∃ v, sixAt W b i v ∧ NodeV W X n (aggOf v)) ∧ NodesFrom W X b r (i + 1)
end
/-- the allowed blocks are as they were -/
def SameOn (W W' : World) (X : Nat → Prop) : Prop := ∀ b, X b → b < W.heap.size → W'.heap[b]? = W.heap[b]?
theorem sixAt.same {W W' : World} {X : Nat → Prop} {b i : Nat} {v : Fin 6 → Value} (h : sixAt W b i v) (g : SameOn W W' X) (hX : X b) : sixAt W' b i v := fun j =>
  (World.cell?_of_block (a := ⟨b, _, none⟩) (g b hX (World.block_lt_of_cell? W _ (h j)))).trans (h j)
mutual
theorem NodeV.same {W W' : World} {X : Nat → Prop} (g : SameOn W W' X) : ∀ (n : Nd) (v : Value), NodeV W X n v → NodeV W' X n v
  | .one p, v, h => by unfold NodeV at h ⊢; exact h
  | .op k l, v, h => by
    unfold NodeV at h ⊢
    obtain ⟨A, c, e, h1, h2, h3⟩ := h
    exact ⟨A, c, e, h1, h2, fun h0 => by
      obtain ⟨b, eb, hX, hn⟩ := h3 h0
      exact ⟨b, eb, hX, NodesFrom.same g b hX l 0 hn⟩⟩
theorem NodesFrom.same {W W' : World} {X : Nat → Prop} (g : SameOn W W' X) (b : Nat) (hX : X b) : ∀ (l : List Nd) (i : Nat), NodesFrom W X b l i → NodesFrom W' X b l i
  | [], i, h => by unfold NodesFrom; trivial
  | n :: r, i, h => by
    unfold NodesFrom at h ⊢
    obtain ⟨⟨v, h1, h2⟩, h3⟩ := h
    exact ⟨⟨v, h1.same g hX, NodeV.same g n _ h2⟩, NodesFrom.same g b hX r (i + 1) h3⟩
end
mutual
theorem NodeV.mono {W : World} {X Y : Nat → Prop} (g : ∀ b, X b → Y b) : ∀ (n : Nd) (v : Value), NodeV W X n v → NodeV W Y n v
  | .one p, v, h => by unfold NodeV at h ⊢; exact h
  | .op k l, v, h => by
    unfold NodeV at h ⊢
    obtain ⟨A, c, e, h1, h2, h3⟩ := h
    exact ⟨A, c, e, h1, h2, fun h0 => by
      obtain ⟨b, eb, hX, hn⟩ := h3 h0
      exact ⟨b, eb, g b hX, NodesFrom.mono g b l 0 hn⟩⟩
theorem NodesFrom.mono {W : World} {X Y : Nat → Prop} (g : ∀ b, X b → Y b) (b : Nat) : ∀ (l : List Nd) (i : Nat), NodesFrom W X b l i → NodesFrom W Y b l i
  | [], i, h => by unfold NodesFrom; trivial
  | n :: r, i, h => by
    unfold NodesFrom at h ⊢
    obtain ⟨⟨v, h1, h2⟩, h3⟩ := h
    exact ⟨⟨v, h1, NodeV.mono g n _ h2⟩, NodesFrom.mono g b r (i + 1) h3⟩
end
theorem NodesFrom.get {W : World} {X : Nat → Prop} {b : Nat} : ∀ (l : List Nd) (i j : Nat) (n : Nd), NodesFrom W X b l i → l[j]? = some n → ∃ v, sixAt W b (i + j) v ∧ NodeV W X n (aggOf v)
  | [], i, j, n, h, e => by simp at e
  | m :: r, i, 0, n, h, e => by
    unfold NodesFrom at h
    obtain rfl : m = n := by simpa using e
    exact h.1
  | m :: r, i, j + 1, n, h, e => by
    unfold NodesFrom at h
    have := NodesFrom.get r (i + 1) j n h.2 (by simpa using e)
    rwa [show i + 1 + j = i + (j + 1) by omega] at this
theorem NodesFrom.of {W : World} {X : Nat → Prop} {b : Nat} : ∀ (l : List Nd) (i : Nat), (∀ j n, l[j]? = some n → ∃ v, sixAt W b (i + j) v ∧ NodeV W X n (aggOf v)) → NodesFrom W X b l i
  | [], i, h => by unfold NodesFrom; trivial
  | m :: r, i, h => by
    unfold NodesFrom
    refine ⟨h 0 m rfl, NodesFrom.of r (i + 1) fun j n e => ?_⟩
    have := h (j + 1) n (by simpa using e)
    rwa [show i + (j + 1) = i + 1 + j by omega] at this
end Go.Proofs.YtoooaipbkkiefaaGreatDoor
namespace Go.Proofs.YtoooaipbkkiefaaGreatDoor
open Go.RowKit
set_option maxRecDepth 100000
set_option maxHeartbeats 4000000

theorem seven_new (W : World) (x0 x1 x2 x3 x4 x5 x6 : Value) : sevenAt (W.alloc (.cells #[x0, x1, x2, x3, x4, x5, x6] 168)) W.heap.size 0 (fun j : Fin 7 => match j with | 0 => x0 | 1 => x1 | 2 => x2 | 3 => x3 | 4 => x4 | 5 => x5 | 6 => x6) := by
  intro j
  have h := heap_alloc_new W (.cells #[x0, x1, x2, x3, x4, x5, x6] 168)
  match j with
  | 0 => exact cell_of_row _ W.heap.size 0 _ _ (0, 0) h
  | 1 => exact cell_of_row _ W.heap.size 1 _ _ (0, 0) h
  | 2 => exact cell_of_row _ W.heap.size 2 _ _ (0, 0) h
  | 3 => exact cell_of_row _ W.heap.size 3 _ _ (0, 0) h
  | 4 => exact cell_of_row _ W.heap.size 4 _ _ (0, 0) h
  | 5 => exact cell_of_row _ W.heap.size 5 _ _ (0, 0) h
  | 6 => exact cell_of_row _ W.heap.size 6 _ _ (0, 0) h
def Box7 (W : World) (b : Nat) (u0 u1 u2 u3 : Nat) (f : Bool) (n o : Nat) : Prop := W.cell? ⟨b, 0, none⟩ = some (.int .u64 u0) ∧ W.cell? ⟨b, 1, none⟩ = some (.int .u64 u1) ∧ W.cell? ⟨b, 2, none⟩ = some (.int .u64 u2) ∧ W.cell? ⟨b, 3, none⟩ = some (.int .u64 u3) ∧ W.cell? ⟨b, 4, none⟩ = some (.bool f) ∧ W.cell? ⟨b, 5, none⟩ = some (.int .i64 n) ∧ W.cell? ⟨b, 6, none⟩ = some (.int .i64 o)
theorem Box7.same {W W' : World} {b u0 u1 u2 u3 n o : Nat} {f : Bool} (h : Box7 W b u0 u1 u2 u3 f n o) (g : W'.heap[b]? = W.heap[b]?) : Box7 W' b u0 u1 u2 u3 f n o := by
  have key : ∀ i v, W.cell? ⟨b, i, none⟩ = some v → W'.cell? ⟨b, i, none⟩ = some v := fun i v e => (World.cell?_of_block (a := ⟨b, i, none⟩) g).trans e
  obtain ⟨e0, e1, e2, e3, e4, e5, e6⟩ := h
  exact ⟨key _ _ e0, key _ _ e1, key _ _ e2, key _ _ e3, key _ _ e4, key _ _ e5, key _ _ e6⟩
theorem Box7.grown {W W' : World} {b u0 u1 u2 u3 n o : Nat} {f : Bool} {row : Option Nat} (h : Box7 W b u0 u1 u2 u3 f n o) (g : W.grownBy W' row) (hr : some b ≠ row) : Box7 W' b u0 u1 u2 u3 f n o :=
  h.same (g.block b (World.block_lt_of_cell? W _ h.1) hr)
theorem seven_at (w : World) (o : Obj) (u0 u1 u2 u3 : Nat) (f : Bool) (n t : Nat) : sevenAt ((w.alloc o).alloc (.cells #[.int .u64 u0, .int .u64 u1, .int .u64 u2, .int .u64 u3, .bool f, .int .i64 n, .int .i64 t] 168)).drew (w.heap.size + 1) 0 (stF u0 u1 u2 u3 f n t) := by
  have h := seven_new (w.alloc o) (.int .u64 u0) (.int .u64 u1) (.int .u64 u2) (.int .u64 u3) (.bool f) (.int .i64 n) (.int .i64 t)
  rw [show (w.alloc o).heap.size = w.heap.size + 1 by simp] at h
  intro j
  have := h j
  match j with
  | 0 => exact this
  | 1 => exact this
  | 2 => exact this
  | 3 => exact this
  | 4 => exact this
  | 5 => exact this
  | 6 => exact this
theorem put_done {B g : Nat} {S : List St} {s : St} {w W W' : World} {v v' : Value} (h : Bld B g w S v) (hg : Gr w W) (hgrow : W.grownBy W' v.ownBlock) (hrow : RowSt W' B v' (S ++ [s])) (ho : v'.ownBlock = v.ownBlock ∨ v'.ownBlock = some W.heap.size) :
    PutPost B g S s w v (.returned (.int .i64 S.length)) (W'.setCell ⟨g, 0, none⟩ v') := by
  have hgl := h.lt
  have hsz := hg.size
  have hv : v'.ownBlock ≠ some g := by
    rcases ho with e | e
    · rw [e]; exact h.n
    · rw [e]; intro e2; have := Option.some.inj e2; omega
  have hgc : W'.heap[g]? = some (.cells #[v] 171 (0, 0)) := (hgrow.block g (by omega) (fun e => h.n e.symm)).trans (h.gr hg).c
  refine ⟨rfl, v', ⟨by have := heap_setCell_same W' g 0 _ _ v' hgc; simpa using this, hrow.keep (fun c e => Below.heap_setCell W' _ _ c (by show c ≠ g; rintro rfl; exact hv e)), hv, h.b⟩, ?_⟩
  refine ⟨hgrow.os.trans hg.b.os, hgrow.tape.trans hg.b.tape, hgrow.output.trans hg.b.output, ?_, fun c hc hcg hcv => ?_, ?_⟩
  · have := hgrow.size
    simp [World.setCell]
    omega
  · rw [Below.heap_setCell W' _ _ c (by show c ≠ g; exact hcg), hgrow.block c (by omega) (fun e => hcv e.symm)]
    exact hg.b.block c hc
  · rcases ho with e | e
    · exact .inl e
    · exact .inr ⟨_, e, hsz⟩
theorem put_rx (B g : Nat) (S : List St) (s : St) (v : Value) (u0 u1 u2 u3 : Nat) (w : World) (h : Bld B g w S v) (hB : B ≤ w.heap.size) (hS : S.length ≤ 1000000000000) (h0 : Wd64 u0 s.p 0) (h1 : Wd64 u1 s.p 1) (h2 : Wd64 u2 s.p 2) (h3 : Wd64 u3 s.p 3) :
    Calls Tryz.prog 126 #[.pointer (some ⟨g, 0, none⟩), .agg #[.int .u64 u0, .int .u64 u1, .int .u64 u2, .int .u64 u3, .bool s.fork, .int .i64 s.nx, .int .i64 s.ot]] w (PutPost B g S s w v) := by
  have hst : StV (stF u0 u1 u2 u3 s.fork s.nx s.ot) s := ⟨u0, u1, u2, u3, rfl, h0, h1, h2, h3⟩
  have HST := Lib.hid hst
  have HB := Lib.hid h
  have hgl := h.lt
  obtain ⟨cg, fg⟩ := h.cell
  obtain ⟨A, c, rfl⟩ := h.r.form
  have HN := Lib.hid h.n
  clear hst h0 h1 h2 h3 h
  obtain ⟨p, fk, nx, ot⟩ := s
  simp only at HST ⊢
  go_enter Tryz.func126, Tryz.ntmps126
  go_wp2
  have hne := World.new_ne w ⟨g, 0, none⟩ cg
  have hown : ∀ k, (Value.slice A S.length c).ownBlock = some k → k < w.heap.size := fun k e => (HB.out.r.lt k e).2
  go_region_law
    (first
     | (refine step_appSt rfl (by rfl) (.tmp 9) (.tmp 11) (by rfl) (by rfl) (B := B) (l := S) (g := w.heap.size + 1) (c := 1) (st := ⟨p, fk, nx, ot⟩) (y := stF u0 u1 u2 u3 fk nx ot) ?_ (by rfl) ?_ HST.out (by omega) ?_ ?_
        · exact (HB.out.gr (((Gr.refl w).alloc _ _).drew.alloc _ _)).r
        · exact seven_at w _ _ _ _ _ _ _ _
        · simp
          omega
        intro v' W' hrow hgrow hown'
        replace hown' : v'.ownBlock = (Value.slice A S.length c).ownBlock ∨ v'.ownBlock = some _ := hown'
        replace hgrow : World.grownBy _ W' (Value.slice A S.length c).ownBlock := hgrow
        have hgc : W'.heap[g]? = some (.cells #[.slice A S.length c] 171 (0, 0)) := (hgrow.block g (by simp; omega) (fun e => HN.out e.symm)).trans (HB.out.gr (((Gr.refl w).alloc _ _).drew.alloc _ _)).c
        have hc1 := cell_of_row W' g 0 _ _ (0, 0) hgc
        have hf1 := frozen_of_row W' g 0 _ _ hgc
        obtain ⟨A', c', rfl⟩ := hrow.form
        simp only [List.length_append, List.length_cons, List.length_nil] at hc1 ⊢))
  all_goals
    go_wp2
    go_ret
    first
    | exact put_done HB.out (((Gr.refl w).alloc _ _).drew.alloc _ _) hgrow (by simpa using hrow) (by simpa using hown')
    | exact put_done HB.out (((Gr.refl w).alloc _ _).alloc _ _).drew hgrow (by simpa using hrow) (by simpa using hown')
end Go.Proofs.YtoooaipbkkiefaaGreatDoor
namespace Go.Proofs.YtoooaipbkkiefaaGreatDoor
open Go.RowKit
set_option maxRecDepth 100000
set_option maxHeartbeats 4000000
attribute [local go_sem] Oper.semAt_some

/-- the places of m things, the last one first -/
def revs (m : Nat) : List (Fin m) := (List.finRange m).reverse
theorem revs_len (m : Nat) : (revs m).length = m := by simp [revs]
theorem revs_get (m j : Nat) (h : j < m) : (revs m)[j]'(by rw [revs_len]; exact h) = ⟨m - 1 - j, Nat.lt_of_le_of_lt (Nat.sub_le _ _) (Nat.sub_lt (Nat.zero_lt_of_lt h) Nat.zero_lt_one)⟩ := by
  simp only [revs, List.getElem_reverse, List.getElem_finRange, List.length_finRange]
  rfl
theorem revs_step (m j : Nat) (h : j < m) : (revs m).take (j + 1) = (revs m).take j ++ [⟨m - 1 - j, by omega⟩] := by
  rw [List.take_succ_eq_append_getElem (by rw [revs_len]; exact h), revs_get m j h]
theorem revs_all (m : Nat) : (revs m).take m = revs m := by
  rw [List.take_of_length_le (by rw [revs_len]; exact Nat.le_refl _)]
/-- two blocks stay -/
def Two (a b : Nat) (W W' : World) : Prop := W'.heap[a]? = W.heap[a]? ∧ W'.heap[b]? = W.heap[b]?
theorem Two.trans {a b : Nat} {W W' W'' : World} (h : Two a b W W') (k : Two a b W' W'') : Two a b W W'' := ⟨k.1.trans h.1, k.2.trans h.2⟩
/-- a row's parts -/
def PartsAt (W : World) (A : Option Addr) (pb m : Nat) (val : Nat → Fin 6 → Value) : Prop := 0 < m → A = some ⟨pb, 0, none⟩ ∧ ∀ j, j < m → sixAt W pb j (val j)
theorem back1_in (F : Fence) (n : Nat) (hf : F.fn 169) (hro : F.round = none) (hn : 1 ≤ n) (l Bs pb m cap : Nat) (A : Option Addr) (val : Nat → Fin 6 → Value) (hm : m ≤ 1000000000000)
    (J Jx : List (Fin m) → World → Prop)
    (hY : ∀ pre x W, J pre W → pre.length < m → YieldAt F (n - 1) Tryz.prog l #[.int .i64 (x.val : Int), aggOf (val x.val)] W fun e W' =>
      (e = .returned (.bool true) ∧ J (pre ++ [x]) W' ∧ Two Bs pb W W') ∨ (e = .returned (.bool false) ∧ Jx (pre ++ [x]) W'))
    (W : World) (hBs : W.cell? ⟨Bs, 0, none⟩ = some (.slice A m cap)) (hc : PartsAt W A pb m val) (h0 : J [] W) :
    CallsIn F n Tryz.prog 169 #[.func (.yield l) #[] #[], .pointer (some ⟨Bs, 0, none⟩)] W fun e W' => (∃ v, e = .returned v) ∧
      ((∃ ys, ys = revs m ∧ J ys W') ∨ (∃ pre, (∃ k, k ≤ m ∧ pre = (revs m).take k) ∧ Jx pre W')) := by
  refine callsIn_of_wp Tryz.func169 rfl hf ?_ hro
  simp only [Tryz.ntmps169, List.size_toArray, List.length_cons, List.length_nil, Nat.reduceAdd, Nat.reduceSub, Array.replicate_succ, Array.replicate_zero, List.push_toArray, List.append_toArray, List.nil_append, List.cons_append]
  gi_wp2
  gi_loopw [3] (fun i wr => ∃ j : Nat, j ≤ m ∧ i = .int .i64 ((m : Int) - 1 - j) ∧ J ((revs m).take j) wr ∧ Two Bs pb W wr)
    (fun i _ => (intOf i + 1).toNat)
  case atStart => exact ⟨0, Nat.zero_le _, by simp, h0, rfl, rfl⟩
  case round =>
    obtain ⟨j, hj, rfl, hJs, hnx⟩ := hrel
    have hBr : wr.cell? ⟨Bs, 0, none⟩ = some (.slice A m cap) := (World.cell?_of_block (a := ⟨Bs, 0, none⟩) hnx.1).trans hBs
    by_cases hlt : j < m
    · obtain ⟨rfl, hcs⟩ := hc (by omega)
      have hx := hcs (m - 1 - j) (by omega)
      have key : ∀ i : Fin 6, wr.cell? ⟨pb, (m - 1 - j) * 6 + i.val, none⟩ = some (val (m - 1 - j) i) := fun i => (World.cell?_of_block (a := ⟨pb, (m - 1 - j) * 6 + i.val, none⟩) hnx.2).trans (hx i)
      obtain ⟨fn, tmps, assign, body, hy, hR⟩ := hY _ ⟨m - 1 - j, by omega⟩ wr hJs (by rw [List.length_take, revs_len]; omega)
      obtain ⟨q, hq⟩ : ∃ q, m - 1 - j = q := ⟨_, rfl⟩
      have hqi : (m : Int) - 1 - j = (q : Int) := by omega
      have hqm : q < m := by omega
      dsimp only at hy
      rw [hq] at key hy
      unfold aggOf at hy
      have k0 : wr.cell? ⟨pb, q * 6, none⟩ = some (val q 0) := key 0
      have k1 : wr.cell? ⟨pb, q * 6 + 1, none⟩ = some (val q 1) := key 1
      have k2 : wr.cell? ⟨pb, q * 6 + 2, none⟩ = some (val q 2) := key 2
      have k3 : wr.cell? ⟨pb, q * 6 + 3, none⟩ = some (val q 3) := key 3
      have k4 : wr.cell? ⟨pb, q * 6 + 4, none⟩ = some (val q 4) := key 4
      have k5 : wr.cell? ⟨pb, q * 6 + 5, none⟩ = some (val q 5) := key 5
      clear key hx
      rw [hqi]
      gi_wp2
      refine hR.mono ?_
      rintro e W3 (⟨rfl, hJ3, hk3⟩ | ⟨rfl, hJx3⟩)
      · gi_wp2
        go_roundw
        case rel => exact ⟨j + 1, by omega, by first | (congr 1; done) | (congr 1; omega), by rw [revs_step m j hlt]; exact hJ3, hnx.trans hk3⟩
        case measure => simp [intOf] <;> omega
      · gi_wp2
        refine bodyPost_ret (results_none rfl _ _ _) rfl ?_
        exact ⟨⟨_, rfl⟩, .inr ⟨_, ⟨j + 1, by omega, (revs_step m j hlt).symm⟩, hJx3⟩⟩
    · obtain rfl : j = m := by omega
      have hz : (j : Int) - 1 - j = -1 := by omega
      rw [hz]
      gi_wp2
      go_end0
      exact ⟨⟨_, rfl⟩, .inl ⟨_, rfl, by rw [revs_all] at hJs; exact hJs⟩⟩
theorem backward_in (F : Fence) (n : Nat) (hf : F.fn 127) (hro : F.round = none) (A : Option Addr) (len cap : Nat) (w : World) :
    CallsIn F n Tryz.prog 127 #[.slice A len cap] w fun e w' => e = .returned (.func (.func 169) #[] #[.pointer (some ⟨w.heap.size, 0, none⟩)]) ∧ w' = w.alloc (.cells #[.slice A len cap] 140) := by
  refine callsIn_of_wp Tryz.func127 rfl hf ?_ hro
  simp only [Tryz.ntmps127, List.size_toArray, List.length_cons, List.length_nil, Nat.reduceAdd, Nat.reduceSub, Array.replicate_succ, Array.replicate_zero, List.push_toArray, List.append_toArray, List.nil_append, List.cons_append]
  gi_wp2
  go_ret
  exact ⟨rfl, rfl⟩
theorem backward_stops (F : Fence) (n : Nat) (hf : F.fn 169) (hro : F.round = none) (hn : 1 ≤ n) (Bs pb m cap : Nat) (A : Option Addr) (val : Nat → Fin 6 → Value) (hm : m ≤ 1000000000000) (w : World) (hBs : Bs < w.heap.size)
    (hc : w.cell? ⟨Bs, 0, none⟩ = some (.slice A m cap)) (hP : PartsAt w A pb m val) :
    SeqStopsK F n Tryz.prog 169 #[.pointer (some ⟨Bs, 0, none⟩)] (fun x : Fin m => #[.int .i64 (x.val : Int), aggOf (val x.val)]) (Two Bs pb) (fun ys => ys = revs m) (fun pre => ∃ k, k ≤ m ∧ pre = (revs m).take k) m w := fun l J Jx W hW _ _ hY h0 => by
  have hc' := (hW.cell (p := ⟨Bs, 0, none⟩) hBs).trans hc
  have hP' : PartsAt W A pb m val := fun h0 => by
    obtain ⟨e, hs⟩ := hP h0
    exact ⟨e, fun j hj i => (hW.cell (p := ⟨pb, j * 6 + i.val, none⟩) (World.block_lt_of_cell? w _ (hs j hj i))).trans (hs j hj i)⟩
  exact back1_in F n hf hro hn l Bs pb m cap A val hm J Jx hY W hc' hP' h0
end Go.Proofs.YtoooaipbkkiefaaGreatDoor
namespace Go.Proofs.YtoooaipbkkiefaaGreatDoor
open Go.RowKit
set_option maxRecDepth 100000
set_option maxHeartbeats 1000000

def noB : Nat → Bool := fun _ => false
/-- a loop's fork is laid ahead of what it leads to -/
def loopEnd (k s b : Nat) (r : List St × Nat) : List St × Nat := (r.1.set s ⟨noB, true, r.2, b⟩, if k = 4 then r.2 else s)
def forkOn (r : List St × Nat) (other : Nat) : List St × Nat := (r.1 ++ [⟨noB, true, r.2, other⟩], r.1.length)
mutual
def addS : Nd → Nat → List St → List St × Nat
  | .one p, b, S => (S ++ [⟨p, false, b, 0⟩], S.length)
  | .op k l, b, S => if k = 1 then addTurn l b S else if k = 2 then addAlt l b S else if k = 5 then forkOn (addHead l b S) b else loopEnd k S.length b (addHead l S.length (S ++ [⟨noB, true, 0, b⟩]))
def addTurn : List Nd → Nat → List St → List St × Nat
  | [], b, S => (S, b)
  | n :: r, b, S => addS n (addTurn r b S).2 (addTurn r b S).1
def addAlt : List Nd → Nat → List St → List St × Nat
  | [], b, S => (S, b)
  | n :: r, b, S => if r.isEmpty then addS n b S else forkOn (addS n b (addAlt r b S).1) (addAlt r b S).2
def addHead : List Nd → Nat → List St → List St × Nat
  | [], b, S => (S, b)
  | n :: _, b, S => addS n b S
end
mutual
def Wf : Nd → Prop
  | .one _ => True
  | .op k l => WfL l ∧ (k = 1 ∨ (k = 2 ∧ l ≠ []) ∨ ((k = 3 ∨ k = 4 ∨ k = 5) ∧ l.length = 1))
def WfL : List Nd → Prop
  | [] => True
  | n :: r => Wf n ∧ WfL r
end
mutual
/-- no more states than these -/
def wt : Nd → Nat
  | .one _ => 1
  | .op k l => wts l + (if k = 1 then 0 else if k = 2 then l.length - 1 else 1)
def wts : List Nd → Nat
  | [] => 0
  | n :: r => wt n + wts r
end
mutual
/-- room that the building asks for -/
def bd : Nd → Nat
  | .one _ => 1
  | .op _ l => (l.length + 1) * (wts l + 1) + 1 + bdm l
def bdm : List Nd → Nat
  | [] => 0
  | n :: r => max (bd n) (bdm r)
end
theorem WfL.mem {l : List Nd} (h : WfL l) : ∀ n ∈ l, Wf n := by
  induction l with
  | nil => intro n hn; cases hn
  | cons a r ih =>
    unfold WfL at h
    intro n hn
    rcases List.mem_cons.1 hn with rfl | hn
    · exact h.1
    · exact ih h.2 n hn
theorem wts_mem {l : List Nd} {n : Nd} (h : n ∈ l) : wt n ≤ wts l := by
  induction l with
  | nil => cases h
  | cons a r ih =>
    unfold wts
    rcases List.mem_cons.1 h with rfl | h
    · omega
    · have := ih h; omega
theorem bdm_mem {l : List Nd} {n : Nd} (h : n ∈ l) : bd n ≤ bdm l := by
  induction l with
  | nil => cases h
  | cons a r ih =>
    unfold bdm
    rcases List.mem_cons.1 h with rfl | h
    · omega
    · have := ih h; omega
mutual
theorem Nd.all {C : Nd → Prop} (h1 : ∀ p, C (.one p)) (h2 : ∀ k l, (∀ n ∈ l, C n) → C (.op k l)) : ∀ n, C n
  | .one p => h1 p
  | .op k l => h2 k l (Nd.allL h1 h2 l)
theorem Nd.allL {C : Nd → Prop} (h1 : ∀ p, C (.one p)) (h2 : ∀ k l, (∀ n ∈ l, C n) → C (.op k l)) : ∀ (l : List Nd), ∀ n ∈ l, C n
  | [], n, h => by cases h
  | m :: r, n, h => by
    rcases List.mem_cons.1 h with e | h
    · rw [e]; exact Nd.all h1 h2 m
    · exact Nd.allL h1 h2 r n h
end
theorem addTurn_foldr (l : List Nd) (b : Nat) (S : List St) : addTurn l b S = l.foldr (fun n s => addS n s.2 s.1) (S, b) := by
  induction l with
  | nil => unfold addTurn; rfl
  | cons n r ih => unfold addTurn; rw [ih]; rfl
theorem addAlt_foldr (l : List Nd) (n : Nd) (b : Nat) (S : List St) : addAlt (l ++ [n]) b S = l.foldr (fun m s => forkOn (addS m b s.1) s.2) (addS n b S) := by
  induction l with
  | nil => simp [addAlt]
  | cons m r ih =>
    rw [List.cons_append]
    unfold addAlt
    rw [ih]
    cases r <;> simp
/-- the parts by their places, the last one first -/
theorem revs_fold {β : Type} (l : List Nd) (f : β → Nd → β) (x : β) : (revs l.length).foldl (fun s i => f s l[i.val]) x = l.foldr (fun n s => f s n) x := by
  unfold revs
  rw [List.foldl_reverse]
  have h : (List.finRange l.length).map (fun i => l[i.val]) = l := by
    apply List.ext_getElem
    · simp
    · intro i h1 h2; simp
  have := List.foldr_map (f := fun i : Fin l.length => l[i.val]) (g := fun n s => f s n) (l := List.finRange l.length) (init := x)
  rw [h] at this
  exact this.symm
mutual
theorem addS_len : ∀ (n : Nd) (b : Nat) (S : List St), S.length ≤ (addS n b S).1.length ∧ (Wf n → (addS n b S).1.length ≤ S.length + wt n)
  | .one p, b, S => by unfold addS wt; simp
  | .op k l, b, S => by
    unfold addS wt
    have h1 := addTurn_len l b S
    have h2 := addAlt_len l b S
    have h3 := addHead_len l b S
    have h4 := addHead_len l S.length (S ++ [⟨noB, true, 0, b⟩])
    simp only [List.length_append, List.length_cons, List.length_nil] at h4
    split
    · exact ⟨h1.1, fun hw => by unfold Wf at hw; have := h1.2 hw.1; omega⟩
    split
    · exact ⟨h2.1, fun hw => by unfold Wf at hw; have := h2.2 hw.1; omega⟩
    rename_i e1 e2
    split
    · unfold forkOn
      refine ⟨by simp; omega, fun hw => ?_⟩
      unfold Wf at hw
      have := h3.2 hw.1
      simp
      omega
    · unfold loopEnd
      refine ⟨by simp; omega, fun hw => ?_⟩
      unfold Wf at hw
      have := h4.2 hw.1
      simp
      omega
theorem addTurn_len : ∀ (l : List Nd) (b : Nat) (S : List St), S.length ≤ (addTurn l b S).1.length ∧ (WfL l → (addTurn l b S).1.length ≤ S.length + wts l)
  | [], b, S => by unfold addTurn wts; simp
  | n :: r, b, S => by
    unfold addTurn wts WfL
    have h1 := addTurn_len r b S
    have h2 := addS_len n (addTurn r b S).2 (addTurn r b S).1
    exact ⟨by omega, fun hw => by have := h1.2 hw.2; have := h2.2 hw.1; omega⟩
theorem addAlt_len : ∀ (l : List Nd) (b : Nat) (S : List St), S.length ≤ (addAlt l b S).1.length ∧ (WfL l → (addAlt l b S).1.length ≤ S.length + wts l + (l.length - 1))
  | [], b, S => by unfold addAlt wts; simp
  | n :: r, b, S => by
    unfold addAlt wts WfL
    have h1 := addAlt_len r b S
    have h2 := addS_len n b (addAlt r b S).1
    have h3 := addS_len n b S
    split
    · exact ⟨h3.1, fun hw => by have := h3.2 hw.1; simp; omega⟩
    · rename_i hr
      have h0 : 1 ≤ r.length := by
        cases r with
        | nil => simp at hr
        | cons => simp
      unfold forkOn
      exact ⟨by simp; omega, fun hw => by have := h1.2 hw.2; have := h2.2 hw.1; simp; omega⟩
theorem addHead_len : ∀ (l : List Nd) (b : Nat) (S : List St), S.length ≤ (addHead l b S).1.length ∧ (WfL l → (addHead l b S).1.length ≤ S.length + wts l)
  | [], b, S => by unfold addHead wts; simp
  | n :: r, b, S => by
    unfold addHead wts WfL
    have h2 := addS_len n b S
    exact ⟨h2.1, fun hw => by have := h2.2 hw.1; omega⟩
end
def AddPost (B g : Nat) (r : List St × Nat) (w : World) (v : Value) (e : Ending) (w' : World) : Prop :=
  e = .returned (.int .i64 r.2) ∧ ∃ v', Bld B g w' r.1 v' ∧ BStep g w v w' v'
def AddC (n : Nd) : Prop := ∀ (B g b : Nat) (X : Nat → Prop) (S : List St) (nv v : Value) (w : World), Bld B g w S v → B ≤ w.heap.size → (∀ c, X c → c < B) → NodeV w X n nv → Wf n → S.length + bd n ≤ 1000000000000 →
  Calls Tryz.prog 97 #[.pointer (some ⟨g, 0, none⟩), nv, .int .i64 b] w (AddPost B g (addS n b S) w v)
end Go.Proofs.YtoooaipbkkiefaaGreatDoor
namespace Go.Proofs.YtoooaipbkkiefaaGreatDoor
open Go.RowKit
set_option maxRecDepth 100000
set_option maxHeartbeats 4000000

theorem Gr3 (w : World) (c1 c2 c3 : Array Value) (t1 t2 t3 : TypeId) : Gr w (((w.alloc (.cells c1 t1)).alloc (.cells c2 t2)).alloc (.cells c3 t3)) := (((Gr.refl w).alloc _ _).alloc _ _).alloc _ _
theorem add_one (p : Nat → Bool) : AddC (.one p) := by
  intro B g b X S nv v w h hB hX hn hw hbd
  unfold NodeV at hn
  obtain ⟨u0, u1, u2, u3, rfl, q0, q1, q2, q3⟩ := hn
  have CP := Lib.hid (fun W (k : Gr w W) => put_rx B g S ⟨p, false, b, 0⟩ v u0 u1 u2 u3 W (h.gr k) (Nat.le_trans hB k.size) (by omega) q0 q1 q2 q3)
  clear q0 q1 q2 q3 hbd hX
  unfold addS
  go_enter Tryz.func97, Tryz.ntmps97
  go_wp2_with (go_at_call 126; refine (CP.out _ (Gr3 w _ _ _ _ _ _)).mono ?_; rintro e w1 ⟨rfl, v', hb', hs'⟩)
  go_ret
  exact ⟨rfl, v', hb', (Gr3 w _ _ _ _ _ _).bstep hs'⟩
end Go.Proofs.YtoooaipbkkiefaaGreatDoor
/- add at one or none. -/
namespace Go.Proofs.YtoooaipbkkiefaaGreatDoor
open Go.RowKit
set_option maxRecDepth 100000
set_option maxHeartbeats 4000000

theorem BStep.blk {g : Nat} {W W' : World} {v v' : Value} (h : BStep g W v W' v') {c : Nat} (hc : c < W.heap.size) (hg : c ≠ g) (hv : v.ownBlock ≠ some c) {o : Nat} {u : Value} (hu : W.cell? ⟨c, o, none⟩ = some u) : W'.cell? ⟨c, o, none⟩ = some u :=
  (World.cell?_of_block (a := ⟨c, o, none⟩) (h.block c hc hg hv)).trans hu
theorem NodeV.gr {W W' : World} {X : Nat → Prop} {n : Nd} {v : Value} (h : NodeV W X n v) (k : Gr W W') : NodeV W' X n v := NodeV.same (fun c _ hlt => k.b.block c hlt) n v h
theorem wd_none (i : Nat) : Wd64 0 noB i := ⟨by omega, fun j _ => by simp [noB]⟩
/-- the one part of a loop or of an option -/
theorem NodeV.part {W : World} {X : Nat → Prop} {k : Nat} {n : Nd} {nv : Value} (h : NodeV W X (.op k [n]) nv) : ∃ (pb c : Nat) (x : Fin 6 → Value), nv = .agg #[.int .i64 k, .int .u64 0, .int .u64 0, .int .u64 0, .int .u64 0, .slice (some ⟨pb, 0, none⟩) 1 c] ∧ 1 ≤ c ∧ X pb ∧ sixAt W pb 0 x ∧ NodeV W X n (aggOf x) := by
  unfold NodeV at h
  obtain ⟨A, c, e, h1, h2, h3⟩ := h
  obtain ⟨pb, rfl, hX, hn⟩ := h3 (by simp)
  unfold NodesFrom at hn
  obtain ⟨⟨x, hx, hn⟩, -⟩ := hn
  exact ⟨pb, c, x, e, h1, hX, hx, hn⟩
theorem sixAt.cells {W : World} {b : Nat} {x : Fin 6 → Value} (h : sixAt W b 0 x) : W.cell? ⟨b, 0, none⟩ = some (x 0) ∧ W.cell? ⟨b, 1, none⟩ = some (x 1) ∧ W.cell? ⟨b, 2, none⟩ = some (x 2) ∧ W.cell? ⟨b, 3, none⟩ = some (x 3) ∧ W.cell? ⟨b, 4, none⟩ = some (x 4) ∧ W.cell? ⟨b, 5, none⟩ = some (x 5) := by
  have key : ∀ i : Fin 6, W.cell? ⟨b, i.val, none⟩ = some (x i) := fun i => by have := h i; rwa [Nat.zero_mul, Nat.zero_add] at this
  exact ⟨key 0, key 1, key 2, key 3, key 4, key 5⟩
theorem three_new (w : World) (c1 c2 c3 : Array Value) (t1 t2 t3 : TypeId) : (((w.alloc (.cells c1 t1)).alloc (.cells c2 t2)).alloc (.cells c3 t3)).heap[w.heap.size]? = some (.cells c1 t1 (0, 0)) ∧ (((w.alloc (.cells c1 t1)).alloc (.cells c2 t2)).alloc (.cells c3 t3)).heap[w.heap.size + 1]? = some (.cells c2 t2 (0, 0)) ∧ (((w.alloc (.cells c1 t1)).alloc (.cells c2 t2)).alloc (.cells c3 t3)).heap[w.heap.size + 2]? = some (.cells c3 t3 (0, 0)) := by
  have a1 := heap_alloc_new w (.cells c1 t1)
  have a2 := heap_alloc_new (w.alloc (.cells c1 t1)) (.cells c2 t2)
  have a3 := heap_alloc_new ((w.alloc (.cells c1 t1)).alloc (.cells c2 t2)) (.cells c3 t3)
  rw [show (w.alloc (.cells c1 t1)).heap.size = w.heap.size + 1 by simp] at a2
  rw [show ((w.alloc (.cells c1 t1)).alloc (.cells c2 t2)).heap.size = w.heap.size + 2 by simp] at a3
  refine ⟨?_, ?_, a3⟩
  · rw [(((Gr.refl (w.alloc (.cells c1 t1))).alloc c2 t2).alloc c3 t3).b.block _ (by simp)]; exact a1
  · rw [((Gr.refl ((w.alloc (.cells c1 t1)).alloc (.cells c2 t2))).alloc c3 t3).b.block _ (by simp)]; exact a2
/-- what add's frame reads: its three boxes, the part's six cells -/
def Opt9 (W : World) (N g pb c b : Nat) (x : Fin 6 → Value) : Prop := W.cell? ⟨N, 0, none⟩ = some (.pointer (some ⟨g, 0, none⟩)) ∧ W.cell? ⟨N + 1, 5, none⟩ = some (.slice (some ⟨pb, 0, none⟩) 1 c) ∧ W.cell? ⟨N + 2, 0, none⟩ = some (.int .i64 b) ∧ W.cell? ⟨pb, 0, none⟩ = some (x 0) ∧ W.cell? ⟨pb, 1, none⟩ = some (x 1) ∧ W.cell? ⟨pb, 2, none⟩ = some (x 2) ∧ W.cell? ⟨pb, 3, none⟩ = some (x 3) ∧ W.cell? ⟨pb, 4, none⟩ = some (x 4) ∧ W.cell? ⟨pb, 5, none⟩ = some (x 5)
theorem Opt9.step {W W' : World} {N g pb c b : Nat} {x : Fin 6 → Value} (h : Opt9 W N g pb c b x) {v v' : Value} (k : BStep g W v W' v') (hN : N + 2 < W.heap.size) (hp : pb < W.heap.size) (hg : N ≠ g ∧ N + 1 ≠ g ∧ N + 2 ≠ g ∧ pb ≠ g) (hv : v.ownBlock ≠ some N ∧ v.ownBlock ≠ some (N + 1) ∧ v.ownBlock ≠ some (N + 2) ∧ v.ownBlock ≠ some pb) : Opt9 W' N g pb c b x := by
  obtain ⟨h0, h1, h2, h3, h4, h5, h6, h7, h8⟩ := h
  obtain ⟨g0, g1, g2, g3⟩ := hg
  obtain ⟨v0, v1, v2, v3⟩ := hv
  exact ⟨k.blk (by omega) g0 v0 h0, k.blk (by omega) g1 v1 h1, k.blk hN g2 v2 h2, k.blk hp g3 v3 h3, k.blk hp g3 v3 h4, k.blk hp g3 v3 h5, k.blk hp g3 v3 h6, k.blk hp g3 v3 h7, k.blk hp g3 v3 h8⟩
theorem BStep.other {g : Nat} {W W' : World} {v v' : Value} (k : BStep g W v W' v') {c : Nat} (hc : c < W.heap.size) (hv : v.ownBlock ≠ some c) : v'.ownBlock ≠ some c := by
  rcases k.own with e | ⟨j, e, hj⟩
  · rw [e]; exact hv
  · rw [e]; intro e2; have := Option.some.inj e2; omega
theorem add_opt (n : Nd) (ih : AddC n) : AddC (.op 5 [n]) := by
  intro B g b X S nv v w h hB hX hn hw hbd
  obtain ⟨pb, c, x, rfl, hc1, hXp, hx, hn⟩ := hn.part
  unfold Wf WfL at hw
  have hwn := hw.1.1
  have hpb := hX pb hXp
  unfold bd bdm wts at hbd
  have hl := (addS_len n b S).2 hwn
  have hl1 : S.length + bd n ≤ 1000000000000 := by simp [List.length] at hbd; omega
  have hl2 : (addS n b S).1.length ≤ 1000000000000 := by simp [List.length] at hbd; omega
  have CA := Lib.hid (fun W (k : Gr w W) => ih B g b X S (aggOf x) v W (h.gr k) (Nat.le_trans hB k.size) hX (hn.gr k) hwn hl1)
  have hg : w.heap.size ≠ g ∧ w.heap.size + 1 ≠ g ∧ w.heap.size + 2 ≠ g ∧ pb ≠ g := by have := h.lt; have := h.b; omega
  have hv : v.ownBlock ≠ some w.heap.size ∧ v.ownBlock ≠ some (w.heap.size + 1) ∧ v.ownBlock ≠ some (w.heap.size + 2) ∧ v.ownBlock ≠ some pb := by
    have := h.r.lt
    refine ⟨fun e => ?_, fun e => ?_, fun e => ?_, fun e => ?_⟩ <;> (have := this _ e; omega)
  obtain ⟨p0, p1, p2, p3, p4, p5⟩ := hx.cells
  have HV := Lib.hid hv
  have HBL := Lib.hid h.lt
  have e5 : addS (.op 5 [n]) b S = forkOn (addS n b S) b := by
    conv => lhs; unfold addS
    simp only [show ¬ (5 = 1) by omega, show ¬ (5 = 2) by omega, if_false, if_true]
    unfold addHead
    rfl
  rw [e5]
  obtain ⟨r, hr⟩ : ∃ r, addS n b S = r := ⟨_, rfl⟩
  rw [hr] at CA hl2 ⊢
  clear hr hl hbd hn hx hv hw
  obtain ⟨S1, f1⟩ := r
  simp only at hl2
  replace CA : Hid (∀ W, Gr w W → Calls Tryz.prog 97 #[.pointer (some ⟨g, 0, none⟩), aggOf x, .int .i64 b] W (fun e w' => e = .returned (.int .i64 f1) ∧ ∃ v', Bld B g w' S1 v' ∧ BStep g W v w' v')) := CA
  unfold aggOf at CA
  obtain ⟨hg0, hg1, hg2, hg3⟩ := hg
  go_enter Tryz.func97, Tryz.ntmps97
  go_wp2
  have hn3 := three_new w #[.pointer (some ⟨g, 0, none⟩)] #[.int .i64 5, .int .u64 0, .int .u64 0, .int .u64 0, .int .u64 0, .slice (some ⟨pb, 0, none⟩) 1 c] #[.int .i64 b] 196 142 3
  have k0 := Gr3 w #[.pointer (some ⟨g, 0, none⟩)] #[.int .i64 5, .int .u64 0, .int .u64 0, .int .u64 0, .int .u64 0, .slice (some ⟨pb, 0, none⟩) 1 c] #[.int .i64 b] 196 142 3
  have hsz : (((w.alloc (.cells #[.pointer (some ⟨g, 0, none⟩)] 196)).alloc (.cells #[.int .i64 5, .int .u64 0, .int .u64 0, .int .u64 0, .int .u64 0, .slice (some ⟨pb, 0, none⟩) 1 c] 142)).alloc (.cells #[.int .i64 b] 3)).heap.size = w.heap.size + 3 := by simp
  obtain ⟨W0, hW0⟩ : ∃ W0, (((w.alloc (.cells #[.pointer (some ⟨g, 0, none⟩)] 196)).alloc (.cells #[.int .i64 5, .int .u64 0, .int .u64 0, .int .u64 0, .int .u64 0, .slice (some ⟨pb, 0, none⟩) 1 c] 142)).alloc (.cells #[.int .i64 b] 3)) = W0 := ⟨_, rfl⟩
  rw [hW0] at hn3 k0 hsz ⊢
  obtain ⟨n0, n1, n2⟩ := hn3
  have HS : Hid (Opt9 W0.drew w.heap.size g pb c b x) := Lib.hid ⟨cell_of_row W0 _ 0 _ _ (0, 0) n0, cell_of_row W0 _ 5 _ _ (0, 0) n1, cell_of_row W0 _ 0 _ _ (0, 0) n2, k0.cell p0, k0.cell p1, k0.cell p2, k0.cell p3, k0.cell p4, k0.cell p5⟩
  have K0 := Lib.hid k0
  clear hW0 n0 n1 n2 k0 p0 p1 p2 p3 p4 p5
  go_region_held3 (fun w' => w'.cell? ⟨w.heap.size, 0, none⟩ = some (.pointer (some ⟨g, 0, none⟩)) ∧ w'.cell? ⟨w.heap.size + 1, 5, none⟩ = some (.slice (some ⟨pb, 0, none⟩) 1 c) ∧ w'.cell? ⟨w.heap.size + 2, 0, none⟩ = some (.int .i64 b) ∧ w'.cell? ⟨pb, 0, none⟩ = some (x 0) ∧ w'.cell? ⟨pb, 1, none⟩ = some (x 1) ∧ w'.cell? ⟨pb, 2, none⟩ = some (x 2) ∧ w'.cell? ⟨pb, 3, none⟩ = some (x 3) ∧ w'.cell? ⟨pb, 4, none⟩ = some (x 4) ∧ w'.cell? ⟨pb, 5, none⟩ = some (x 5))
    (first
     | exact HS2.out
     | exact HS1.out
     | exact HS.out)
    (first
     | (go_at_call 126
        refine (put_rx B g S1 ⟨noB, true, f1, b⟩ v1 0 0 0 0 w1 hb1 (by omega) hl2 (wd_none 0) (wd_none 1) (wd_none 2) (wd_none 3)).mono ?_
        rintro e w2 ⟨rfl, v2, hb2, hs2⟩
        have HS2 : Hid (Opt9 w2 w.heap.size g pb c b x) := Lib.hid (HS1.out.step hs2 (by omega) (by omega) ⟨hg0, hg1, hg2, hg3⟩ ⟨hs1.other (by show _ < W0.heap.size; omega) HV.out.1, hs1.other (by show _ < W0.heap.size; omega) HV.out.2.1, hs1.other (by show _ < W0.heap.size; omega) HV.out.2.2.1, hs1.other (by show _ < W0.heap.size; omega) HV.out.2.2.2⟩))
     | (go_at_call 97
        refine (CA.out _ K0.out.drew).mono ?_
        rintro e w1 ⟨rfl, v1, hb1, hs1⟩
        have hz1 : W0.heap.size ≤ w1.heap.size := hs1.size
        have HS1 : Hid (Opt9 w1 w.heap.size g pb c b x) := Lib.hid (HS.out.step hs1 (by show _ < W0.heap.size; omega) (by show _ < W0.heap.size; omega) ⟨hg0, hg1, hg2, hg3⟩ HV.out)))
  go_wp2
  go_ret
  exact ⟨rfl, v2, hb2, (K0.out.drew.bstep hs1).trans hs2⟩
end Go.Proofs.YtoooaipbkkiefaaGreatDoor
namespace Go.Proofs.YtoooaipbkkiefaaGreatDoor
open Go.RowKit
set_option maxRecDepth 100000
set_option maxHeartbeats 4000000

theorem flat7_set : ∀ (vs : List (Fin 7 → Value)) (i : Nat) (x y : Fin 7 → Value) (u : Value), vs[i]? = some x → (∀ j : Fin 7, y j = if j = 5 then u else x j) → (vs.flatMap cells7).set (i * 7 + 5) u = (vs.set i y).flatMap cells7
  | [], i, x, y, u, h, hy => by simp at h
  | z :: r, 0, x, y, u, h, hy => by
    obtain rfl : z = x := by simpa using h
    have := hy 0; have := hy 1; have := hy 2; have := hy 3; have := hy 4; have := hy 5; have := hy 6
    simp_all [cells7]
  | z :: r, i + 1, x, y, u, h, hy => by
    have := flat7_set r i x y u (by simpa using h) hy
    rw [List.set_cons_succ, List.flatMap_cons, List.flatMap_cons, ← this, List.set_append_right _ _ (by simp [cells7]; omega)]
    congr 2
    simp [cells7]
    omega
theorem RowSt.setNext {W : World} {B : Nat} {v : Value} {l : List St} {i : Nat} {s : St} (h : RowSt W B v l) (hi : l[i]? = some s) (n : Nat) :
    ∃ pb c, v = .slice (some ⟨pb, 0, none⟩) l.length c ∧ W.cell? ⟨pb, i * 7 + 5, none⟩ = some (.int .i64 s.nx) ∧ W.frozen? ⟨pb, i * 7 + 5, none⟩ = false ∧ RowSt (W.setCell ⟨pb, i * 7 + 5, none⟩ (.int .i64 n)) B v (l.set i ⟨s.p, s.fork, n, s.ot⟩) := by
  obtain ⟨vs, h1, h2, h3⟩ := h
  have hil := (List.getElem?_eq_some_iff.1 hi).1
  rcases h2.2 with ⟨e, e2⟩ | ⟨pb, cap, cur, rfl, e2, e3, e4, e5, e6, e7⟩
  · omega
  have hiv : i < vs.length := by omega
  have hx : vs[i]? = some vs[i] := List.getElem?_eq_getElem hiv
  have hs := h3 i s _ hi hx
  have hc : ∀ j : Fin 7, cur[i * 7 + j.val]? = some (vs[i] j) := fun j => by
    have := cells7_get vs i _ j hx
    rw [← e7, List.getElem?_take_of_lt (by have := j.isLt; omega)] at this
    simpa using this
  have hadd : ∀ j, (⟨pb, 0, none⟩ : Addr).add j = ⟨pb, j, none⟩ := fun j => by unfold Addr.add; split <;> simp_all
  obtain ⟨u0, u1, u2, u3, ex, q⟩ := hs
  have h5 := hc 5
  rw [ex] at h5
  refine ⟨pb, cap, rfl, (cell_of_row W pb _ cur _ (0, 0) e3).trans h5, frozen_of_row W pb _ cur _ e3, ?_⟩
  have hset := heap_setCell_same W pb (i * 7 + 5) cur 168 (.int .i64 n) e3
  refine ⟨vs.set i (stF u0 u1 u2 u3 s.fork n s.ot), by simp [h1], ⟨by rw [cells7_len]; simp [h1], .inr ⟨pb, cap, cur.setIfInBounds (i * 7 + 5) (.int .i64 n), by simp, e2, hset, by simpa using e4, e5, by simpa using e6, ?_⟩⟩, fun j t y hj hy => ?_⟩
  · rw [Array.toList_setIfInBounds, List.length_set, List.take_set, e7]
    refine flat7_set vs i vs[i] _ _ hx fun j => ?_
    rw [ex]
    match j with
    | 0 => rfl
    | 1 => rfl
    | 2 => rfl
    | 3 => rfl
    | 4 => rfl
    | 5 => rfl
    | 6 => rfl
  · by_cases e : i = j
    · subst e
      rw [List.getElem?_set_self (by omega)] at hj
      rw [List.getElem?_set_self (by omega)] at hy
      obtain rfl := Option.some.inj hj
      obtain rfl := Option.some.inj hy
      exact ⟨u0, u1, u2, u3, rfl, q⟩
    · rw [List.getElem?_set_ne e] at hj
      rw [List.getElem?_set_ne e] at hy
      exact h3 j t y hj hy
/-- a state's way on is laid -/
theorem Bld.setNext {B g : Nat} {W : World} {S : List St} {v : Value} {i : Nat} {s : St} (h : Bld B g W S v) (hi : S[i]? = some s) (n : Nat) :
    ∃ pb c, v = .slice (some ⟨pb, 0, none⟩) S.length c ∧ W.cell? ⟨pb, i * 7 + 5, none⟩ = some (.int .i64 s.nx) ∧ W.frozen? ⟨pb, i * 7 + 5, none⟩ = false ∧ Bld B g (W.setCell ⟨pb, i * 7 + 5, none⟩ (.int .i64 n)) (S.set i ⟨s.p, s.fork, n, s.ot⟩) v ∧ BStep g W v (W.setCell ⟨pb, i * 7 + 5, none⟩ (.int .i64 n)) v := by
  obtain ⟨pb, c, e, h1, h2, h3⟩ := h.r.setNext hi n
  have hne : pb ≠ g := fun e2 => h.n (by rw [e, e2]; rfl)
  refine ⟨pb, c, e, h1, h2, ⟨(Below.heap_setCell W _ _ g (by show g ≠ pb; omega)).trans h.c, h3, h.n, h.b⟩, rfl, rfl, rfl, by simp [World.setCell], fun k hk hkg hkv => Below.heap_setCell W _ _ k (by show k ≠ pb; rintro rfl; exact hkv (by rw [e]; rfl)), .inl rfl⟩
theorem addS_keeps : ∀ n, ∀ (b : Nat) (S : List St) (i : Nat), i < S.length → (addS n b S).1[i]? = S[i]? := by
  have hd : ∀ (l : List Nd), (∀ n ∈ l, ∀ (b : Nat) (S : List St) (i : Nat), i < S.length → (addS n b S).1[i]? = S[i]?) → ∀ (b : Nat) (S : List St) (i : Nat), i < S.length → (addHead l b S).1[i]? = S[i]? := fun l hl b S i hi => by
    cases l with
    | nil => unfold addHead; rfl
    | cons n r => unfold addHead; exact hl n (by simp) b S i hi
  refine Nd.all (fun p b S i hi => ?_) (fun k l hl b S i hi => ?_)
  · unfold addS
    rw [List.getElem?_append_left hi]
  · unfold addS
    split
    · clear hd
      induction l generalizing b S with
      | nil => unfold addTurn; rfl
      | cons n r ih =>
        unfold addTurn
        rw [hl n (by simp) _ _ i (by have := (addTurn_len r b S).1; omega), ih (fun m hm => hl m (by simp [hm])) b S hi]
    split
    · clear hd
      induction l generalizing b S with
      | nil => unfold addAlt; rfl
      | cons n r ih =>
        unfold addAlt
        split
        · exact hl n (by simp) b S i hi
        · have h1 := (addAlt_len r b S).1
          have h2 := (addS_len n b (addAlt r b S).1).1
          unfold forkOn
          rw [List.getElem?_append_left (by omega), hl n (by simp) _ _ i (by omega), ih (fun m hm => hl m (by simp [hm])) b S hi]
    split
    · unfold forkOn
      rw [List.getElem?_append_left (by have := (addHead_len l b S).1; omega), hd l hl b S i hi]
    · unfold loopEnd
      rw [List.getElem?_set_ne (by omega), hd l hl _ _ i (by simp; omega), List.getElem?_append_left hi]
end Go.Proofs.YtoooaipbkkiefaaGreatDoor
/- addLoop. -/
namespace Go.Proofs.YtoooaipbkkiefaaGreatDoor
open Go.RowKit
set_option maxRecDepth 100000
set_option maxHeartbeats 4000000

theorem addLoop_any (k : Nat) (hk : k = 3 ∨ k = 4) (n : Nd) (ih : AddC n) (B g b : Nat) (X : Nat → Prop) (S : List St) (nv v : Value) (w : World) (h : Bld B g w S v) (hB : B ≤ w.heap.size) (hX : ∀ c, X c → c < B) (hn : NodeV w X (.op k [n]) nv) (hwn : Wf n) (hbd : S.length + bd n + 1 ≤ 1000000000000) :
    Calls Tryz.prog 129 #[.pointer (some ⟨g, 0, none⟩), nv, .int .i64 b] w (AddPost B g (loopEnd k S.length b (addS n S.length (S ++ [⟨noB, true, 0, b⟩]))) w v) := by
  obtain ⟨pb, c, x, rfl, hc1, hXp, hx, hn⟩ := hn.part
  have hpb := hX pb hXp
  have hl := (addS_len n S.length (S ++ [⟨noB, true, 0, b⟩])).1
  have hkeep := addS_keeps n S.length (S ++ [⟨noB, true, 0, b⟩]) S.length (by simp)
  rw [List.getElem?_append_right (Nat.le_refl _), Nat.sub_self] at hkeep
  have hgl := h.lt
  have hbg := h.b
  have hrl := h.r.lt
  obtain ⟨p0, p1, p2, p3, p4, p5⟩ := hx.cells
  have CP := Lib.hid (fun W (k : Gr w W) => put_rx B g S ⟨noB, true, 0, b⟩ v 0 0 0 0 W (h.gr k) (Nat.le_trans hB k.size) (by omega) (wd_none 0) (wd_none 1) (wd_none 2) (wd_none 3))
  have CA := Lib.hid (fun W (hb : Below B w W) u (h : Bld B g W (S ++ [⟨noB, true, 0, b⟩]) u) => ih B g S.length X (S ++ [⟨noB, true, 0, b⟩]) (aggOf x) u W h (Nat.le_trans hB hb.size) hX (NodeV.same (fun c hc _ => hb.block c (hX c hc)) _ _ hn) hwn (by simp; omega))
  have HB := Lib.hid h
  clear hX hn hx hwn hbd h
  obtain ⟨r, hr⟩ : ∃ r, addS n S.length (S ++ [⟨noB, true, 0, b⟩]) = r := ⟨_, rfl⟩
  rw [hr] at CA hl hkeep ⊢
  clear hr
  obtain ⟨S1, f1⟩ := r
  simp only at hl hkeep
  simp only [List.length_append, List.length_cons, List.length_nil] at hl
  have HK := Lib.hid hkeep
  clear hkeep
  replace CA : Hid (∀ W, Below B w W → ∀ u, Bld B g W (S ++ [⟨noB, true, 0, b⟩]) u → Calls Tryz.prog 97 #[.pointer (some ⟨g, 0, none⟩), aggOf x, .int .i64 S.length] W (fun e w' => e = .returned (.int .i64 f1) ∧ ∃ v', Bld B g w' S1 v' ∧ BStep g W u w' v')) := CA
  unfold aggOf at CA
  go_enter Tryz.func129, Tryz.ntmps129
  go_wp2_with fail
  have g0 : Gr w (w.alloc (.cells #[.int .i64 k, .int .u64 0, .int .u64 0, .int .u64 0, .int .u64 0, .slice (some ⟨pb, 0, none⟩) 1 c] 142)) := (Gr.refl w).alloc _ _
  have n0 := heap_alloc_new w (.cells #[.int .i64 k, .int .u64 0, .int .u64 0, .int .u64 0, .int .u64 0, .slice (some ⟨pb, 0, none⟩) 1 c] 142)
  have hz0 : (w.alloc (.cells #[.int .i64 k, .int .u64 0, .int .u64 0, .int .u64 0, .int .u64 0, .slice (some ⟨pb, 0, none⟩) 1 c] 142)).heap.size = w.heap.size + 1 := by simp
  refine (CP.out _ g0).mono ?_
  rintro e w1 ⟨rfl, v1, hb1, hs1⟩
  have hv : v.ownBlock ≠ some w.heap.size := fun e => by have := hrl _ e; omega
  have hvp : v.ownBlock ≠ some pb := fun e => by have := hrl _ e; omega
  have hz1 := hs1.size
  rw [hz0] at hz1
  have b0 := hs1.block w.heap.size (by omega) (by omega) hv
  rw [n0] at b0
  have hbl := (g0.bstep hs1).below HB.out hB
  have hp := hs1.block pb (by omega) (by omega) hvp
  have P : ∀ j : Nat, ∀ u, w.cell? ⟨pb, j, none⟩ = some u → w1.cell? ⟨pb, j, none⟩ = some u := fun j u e => (hbl.cell (p := ⟨pb, j, none⟩) hpb).trans e
  have d0 := cell_of_row w1 _ 0 _ _ (0, 0) b0
  have d5 := cell_of_row w1 _ 5 _ _ (0, 0) b0
  have q0 := P 0 _ p0
  have q1 := P 1 _ p1
  have q2 := P 2 _ p2
  have q3 := P 3 _ p3
  have q4 := P 4 _ p4
  have q5 := P 5 _ p5
  have HV1 := Lib.hid (show v1.ownBlock ≠ some w.heap.size from hs1.other (by omega) hv)
  have HS1 := Lib.hid (g0.bstep hs1)
  have C2 := Lib.hid (CA.out w1 hbl v1 hb1)
  have HB1 := Lib.hid hb1
  clear P p0 p1 p2 p3 p4 p5 hp n0 g0 hs1 hb1 CA CP hbl hv hvp
  go_wp2_with fail
  refine C2.out.mono ?_
  rintro e w2 ⟨rfl, v2, hb2, hs2⟩
  have hz2 := hs2.size
  have b2 := hs2.block w.heap.size (by omega) (by omega) HV1.out
  rw [b0] at b2
  have e0' := cell_of_row w2 _ 0 _ _ (0, 0) b2
  obtain ⟨rb, rc, rfl, r1, r2, hb3, hs3⟩ := hb2.setNext (s := ⟨noB, true, 0, b⟩) HK.out f1
  obtain ⟨cg, -⟩ := hb2.cell
  have HF := Lib.hid (show AddPost B g (loopEnd k S.length b (S1, f1)) w v (.returned (.int .i64 (loopEnd k S.length b (S1, f1)).2)) _ from ⟨rfl, _, hb3, (HS1.out.trans hs2).trans hs3⟩)
  have hlt : (S.length : Int) < (S1.length : Int) := by omega
  have hlt2 : S.length < S1.length := by omega
  have hne : w.heap.size ≠ rb := fun e => (hs2.other (by omega) HV1.out) (by rw [← e]; rfl)
  clear hb3 hs3 hb2 hs2 q0 q1 q2 q3 q4 q5 d0 d5 HB1 C2 b0 b2 hn
  have e0 : (w2.setCell ⟨rb, S.length * 7 + 5, none⟩ (.int .i64 f1)).cell? ⟨w.heap.size, 0, none⟩ = some (.int .i64 k) := (World.cell?_setCell_far w2 ⟨rb, S.length * 7 + 5, none⟩ ⟨w.heap.size, 0, none⟩ _ (by show rb ≠ w.heap.size; omega)).trans e0'
  clear e0'
  rcases hk with rfl | rfl
  · simp only at *
    go_wp2
    go_ret
    exact HF.out
  · simp only at *
    go_wp2
    go_ret
    exact HF.out
end Go.Proofs.YtoooaipbkkiefaaGreatDoor
namespace Go.Proofs.YtoooaipbkkiefaaGreatDoor
open Go.RowKit
set_option maxRecDepth 100000
set_option maxHeartbeats 1000000

/-- the builder's block, its row, and a variable N alone have turned -/
structure BMid (g N : Nat) (W : World) (v : Value) (W' : World) (v' : Value) : Prop where
  os : W'.os = W.os
  tape : W'.tape = W.tape
  output : W'.output = W.output
  size : W.heap.size ≤ W'.heap.size
  block : ∀ c, c < W.heap.size → c ≠ g → c ≠ N → v.ownBlock ≠ some c → W'.heap[c]? = W.heap[c]?
  own : v'.ownBlock = v.ownBlock ∨ ∃ k, v'.ownBlock = some k ∧ W.heap.size ≤ k
theorem BMid.refl (g N : Nat) (W : World) (v : Value) : BMid g N W v W v := ⟨rfl, rfl, rfl, Nat.le_refl _, fun _ _ _ _ _ => rfl, .inl rfl⟩
theorem BMid.step {g N : Nat} {W W' W'' : World} {v v' v'' : Value} (h : BMid g N W v W' v') (k : BStep g W' v' W'' v'') : BMid g N W v W'' v'' :=
  ⟨k.os.trans h.os, k.tape.trans h.tape, k.output.trans h.output, Nat.le_trans h.size k.size, fun c hc hg hN hv => (k.block c (Nat.lt_of_lt_of_le hc h.size) hg (by
      rcases h.own with e | ⟨j, e, hj⟩
      · rw [e]; exact hv
      · rw [e]; intro e2; have := Option.some.inj e2; omega)).trans (h.block c hc hg hN hv), by
    rcases k.own with e | ⟨j, e, hj⟩
    · rw [e]; exact h.own
    · exact .inr ⟨j, e, Nat.le_trans h.size hj⟩⟩
theorem BMid.set {g N : Nat} {W W' : World} {v v' : Value} (h : BMid g N W v W' v') (u : Value) : BMid g N W v (W'.setCell ⟨N, 0, none⟩ u) v' :=
  ⟨h.os, h.tape, h.output, by simpa [World.setCell] using h.size, fun c hc hg hN hv => (Below.heap_setCell W' _ _ c (by show c ≠ N; exact hN)).trans (h.block c hc hg hN hv), h.own⟩
theorem BMid.gr {g N : Nat} {W W' W'' : World} {v v' : Value} (h : BMid g N W v W' v') (k : Gr W' W'') : BMid g N W v W'' v' :=
  ⟨k.b.os.trans h.os, k.b.tape.trans h.tape, k.b.output.trans h.output, Nat.le_trans h.size k.size, fun c hc hg hN hv => (k.b.block c (Nat.lt_of_lt_of_le hc h.size)).trans (h.block c hc hg hN hv), h.own⟩
/-- a block that is no cells is turned -/
theorem BMid.turn {g N : Nat} {W X Y : World} {v v' : Value} {row : Option Nat} (h : BMid g N W v X v') (hg : X.grownBy Y row) (hr : ∀ r, row = some r → W.heap.size ≤ r) : BMid g N W v Y v' :=
  ⟨hg.os.trans h.os, hg.tape.trans h.tape, hg.output.trans h.output, Nat.le_trans h.size hg.size, fun c hc h1 h2 hv => (hg.block c (Nat.lt_of_lt_of_le hc h.size) (fun e => by have := hr c e.symm; omega)).trans (h.block c hc h1 h2 hv), h.own⟩
theorem BMid.bstep {g N : Nat} {w W W' : World} {v v' : Value} (h : BMid g N W v W' v') (k : Gr w W) (hN : w.heap.size ≤ N) : BStep g w v W' v' :=
  ⟨h.os.trans k.b.os, h.tape.trans k.b.tape, h.output.trans k.b.output, Nat.le_trans k.size h.size, fun c hc hg hv => (h.block c (Nat.lt_of_lt_of_le hc k.size) hg (by omega) hv).trans (k.b.block c hc), by
    rcases h.own with e | ⟨j, e, hj⟩
    · exact .inl e
    · exact .inr ⟨j, e, Nat.le_trans k.size hj⟩⟩
theorem BMid.blk {g N : Nat} {W W' : World} {v v' : Value} (h : BMid g N W v W' v') {c : Nat} (hc : c < W.heap.size) (hg : c ≠ g) (hN : c ≠ N) (hv : v.ownBlock ≠ some c) {o : Obj} (ho : W.heap[c]? = some o) : W'.heap[c]? = some o := (h.block c hc hg hN hv).trans ho
theorem BMid.below {B g N : Nat} {W W' : World} {v v' : Value} (h : BMid g N W v W' v') (hg : B ≤ g) (hN : B ≤ N) (hv : ∀ k, v.ownBlock = some k → B ≤ k) (hB : B ≤ W.heap.size) : Below B W W' :=
  ⟨h.os, h.tape, h.output, h.size, fun c hc => h.block c (by omega) (by omega) (by omega) (fun e => by have := hv c e; omega)⟩
theorem BMid.other {g N : Nat} {W W' : World} {v v' : Value} (k : BMid g N W v W' v') {c : Nat} (hc : c < W.heap.size) (hv : v.ownBlock ≠ some c) : v'.ownBlock ≠ some c := by
  rcases k.own with e | ⟨j, e, hj⟩
  · rw [e]; exact hv
  · rw [e]; intro e2; have := Option.some.inj e2; omega
theorem RowSt.cellsOf {W : World} {B : Nat} {v : Value} {l : List St} (h : RowSt W B v l) {k : Nat} (e : v.ownBlock = some k) : ∃ o : Obj, W.heap[k]? = some o ∧ o.isCells = true := by
  obtain ⟨vs, h1, h2, h3⟩ := h
  rcases h2.2 with ⟨rfl, -⟩ | ⟨g, cap, cur, rfl, e2, e3, -⟩
  · cases e
  · have : g = k := by simpa [Value.ownBlock] using e
    subst this
    exact ⟨_, e3, rfl⟩
theorem Bld.turn {B g : Nat} {X Y : World} {S : List St} {v : Value} {row : Option Nat} (h : Bld B g X S v) (hg : X.grownBy Y row) (hr : ∀ r, row = some r → ∃ o : Obj, X.heap[r]? = some o ∧ o.isCells = false) : Bld B g Y S v := by
  have key : ∀ (k : Nat) (o : Obj), X.heap[k]? = some o → o.isCells = true → Y.heap[k]? = X.heap[k]? := fun k o ho hc => hg.block k (Array.getElem?_eq_some_iff.1 ho).1 (fun e => by
    obtain ⟨o', ho', hc'⟩ := hr k e.symm
    rw [ho] at ho'
    obtain rfl := Option.some.inj ho'
    rw [hc] at hc'
    cases hc')
  refine ⟨(key g _ h.c rfl).trans h.c, h.r.keep fun c e => ?_, h.n, h.b⟩
  obtain ⟨o, ho, hc⟩ := h.r.cellsOf e
  exact key c o ho hc
theorem cells_turn {X Y : World} {row : Option Nat} (hg : X.grownBy Y row) (hr : ∀ r, row = some r → ∃ o : Obj, X.heap[r]? = some o ∧ o.isCells = false) {k : Nat} {c : Array Value} {t : TypeId} {fz : Nat × Nat} (h : X.heap[k]? = some (.cells c t fz)) : Y.heap[k]? = some (.cells c t fz) :=
  (hg.block k (Array.getElem?_eq_some_iff.1 h).1 (fun e => by
    obtain ⟨o', ho', hc'⟩ := hr k e.symm
    rw [h] at ho'
    obtain rfl := Option.some.inj ho'
    cases hc')).trans h
/-- whatever is no cells stays over a step of the builder's -/
theorem BStep.keepsFrom {B g : Nat} {W W' : World} {S : List St} {v v' : Value} (k : BStep g W v W' v') (h : Bld B g W S v) (D : Nat) : KeepsFrom D W W' :=
  ⟨k.size, fun c o _ ho hc => (k.block c (Array.getElem?_eq_some_iff.1 ho).1 (fun e => by
      subst e
      rw [h.c] at ho
      obtain rfl := Option.some.inj ho
      cases hc) (fun e => by
      obtain ⟨o', ho', hc'⟩ := h.r.cellsOf e
      rw [ho] at ho'
      obtain rfl := Option.some.inj ho'
      rw [hc] at hc'
      cases hc')).trans ho⟩
theorem two_t {a b : Nat} {A B C : World} (h : Two a b A B) (k : Two a b B C) : Two a b A C := h.trans k
theorem two_b {a b : Nat} {w : World} (ha : a < w.heap.size) (hb : b < w.heap.size) (W : World) (l : Nat) (o o' : Obj) (hl : w.heap.size ≤ l) (_ : W.heap[l]? = some o) (_ : o.isCells = false) (_ : o.isWalk = false) : Two a b W (W.putObj l o') :=
  ⟨World.putObj_heap_other (by omega), World.putObj_heap_other (by omega)⟩
theorem Bld.setFar {B g : Nat} {W : World} {S : List St} {v : Value} (h : Bld B g W S v) {N o : Nat} (u : Value) (hN : N ≠ g) (hv : v.ownBlock ≠ some N) : Bld B g (W.setCell ⟨N, o, none⟩ u) S v :=
  ⟨(Below.heap_setCell W _ _ g (by show g ≠ N; omega)).trans h.c, h.r.keep (fun c e => Below.heap_setCell W _ _ c (by show c ≠ N; rintro rfl; exact hv e)), h.n, h.b⟩
end Go.Proofs.YtoooaipbkkiefaaGreatDoor
