/- named, where no point has a metric's name. -/
import Derived.Test.YtoooaipbkkiefaaDoorPLawM
namespace Go.Proofs.YtoooaipbkkiefaaDoor.Pt
open Go.RowKit Go.Sort
set_option maxRecDepth 100000
set_option maxHeartbeats 4000000
attribute [local irreducible] wpQuiet

def NoNm (l : List Pt) : Prop := ∀ p ∈ l, ∀ x ∈ p.1, (x.1.toList == nmB.toList) = false
theorem named_no (A : Option Addr) (l : List Pt) (c : Nat) (w : World) (h : PtsAt w A l) (hs : SmP l) (hn : NoNm l) :
    Calls Tryd.prog 22 #[.slice A l.length c] w fun e w' => e = .returned (.bool false) ∧ Gr w w' := by
  have HL := Lib.hid h; have HS := Lib.hid hs; have HN := Lib.hid hn
  have hlen : l.length ≤ 1000 := hs.1
  clear h hs hn
  go_enter Tryd.func22, Tryd.ntmps22
  go_wp2
  go_loopw [3] (fun i wr => ∃ k : Nat, k ≤ l.length ∧ i = .int .i64 k ∧ Gr w wr) (fun i _ => l.length - (intOf i).toNat)
  case atStart => exact ⟨0, Nat.zero_le _, rfl, Gr.refl _⟩
  case round =>
    obtain ⟨k, hk, rfl, hg⟩ := hrel
    by_cases hlt : k < l.length
    · obtain ⟨b, o, s1, n1, rfl, c1, -, la1, -⟩ := (HL.out.gr hg).cell hlt
      have m1 := HS.out.at_ hlt
      have hn1 := HN.out _ (List.getElem_mem hlt)
      obtain ⟨p, hx⟩ : ∃ p, l[k] = p := ⟨_, rfl⟩
      rw [hx] at c1 la1 m1 hn1
      obtain ⟨x1, x2⟩ := p
      simp only at c1 la1 m1 hn1
      have HLA := Lib.hid la1; have HNX := Lib.hid hn1
      have m2 : x1.length ≤ 1000 := m1.1
      have f4 : (k : Int) < (l.length : Int) := by omega
      have f5 : (0 : Int) ≤ (k : Int) := by omega
      clear hx la1 hn1 m1
      obtain ⟨wo, rfl⟩ : ∃ wo : World, wo = wr := ⟨_, rfl⟩
      have HC := Lib.hid c1
      go_wp2
      go_loopw [4] (fun i wr => ∃ j : Nat, j ≤ x1.length ∧ i = .int .i64 j ∧ Gr wo wr) (fun i _ => x1.length - (intOf i).toNat)
      case atStart => exact ⟨0, Nat.zero_le _, rfl, Gr.refl _⟩
      case round =>
        obtain ⟨j, hj, rfl, hg2⟩ := hrel
        have c2 := hg2.cell HC.out
        by_cases hjl : j < x1.length
        · obtain ⟨b2, o2, rfl, d1, d2, -⟩ := (HLA.out.gr hg2).at_ hjl
          have e1 := HNX.out _ (List.getElem_mem hjl)
          obtain ⟨y, hy⟩ : ∃ y, x1[j] = y := ⟨_, rfl⟩
          rw [hy] at d1 d2 e1
          obtain ⟨y1, y2⟩ := y
          simp only at d1 d2 e1
          have e3 : nmB.toList = [95, 95, 110, 97, 109, 101, 95, 95] := by decide +kernel
          rw [e3] at e1
          have e2 : (y1.toList == [95, 95, 110, 97, 109, 101, 95, 95]) = false := e1
          have f6 : (j : Int) < (x1.length : Int) := by omega
          have f7 : (0 : Int) ≤ (j : Int) := by omega
          clear hy e1 e3
          go_wp2
          go_roundw
          case rel => exact ⟨j + 1, by omega, by go_num, hg2⟩
          case measure => simp [intOf]; omega
        · obtain rfl : j = x1.length := by omega
          go_wp2
          go_roundw
          case rel => exact ⟨k + 1, by omega, by go_num, hg.trans hg2⟩
          case measure => simp [intOf]; omega
    · obtain rfl : k = l.length := by omega
      go_wp2
      go_ret
      exact ⟨rfl, hg⟩
/-- what Map, Scaled make has no metric's name -/
theorem nm_pick (l : List Lb) : ∀ x ∈ pickL l [nmB] false, (x.1.toList == nmB.toList) = false := by
  intro x hx
  have := (List.mem_filter.1 hx).2
  simpa [hasN] using this
theorem nonm_nor {l : List Pt} (h : NoNm l) : NoNm (norV l) := by
  unfold norV
  split
  · intro p hp
    obtain ⟨q, hq, rfl⟩ := List.mem_map.1 ((ordP_perm l).mem_iff.1 hp)
    exact h q hq
  · intro p hp; simp at hp
theorem nonm_map (g : Nat → Nat) (l : List Pt) : NoNm (l.map (nmP g)) := by
  intro p hp
  obtain ⟨q, hq, rfl⟩ := List.mem_map.1 hp
  exact nm_pick q.1
theorem mp_nonm (fn : Int) (arg : Nat) (l : List Pt) : NoNm (mpV fn arg l) := by
  unfold mpV; split
  · exact nonm_nor (nonm_map _ l)
  · intro p hp; simp at hp
theorem nor_len0 {l : List Pt} (h : norE l = 0) : (norV l).length = l.length := by
  unfold norE at h
  cases h1 : okP l
  · rw [h1] at h; simp at h
  · cases h2 : nodB l
    · rw [h1, h2] at h; simp at h
    · rw [(norE_0 h1 h2).2, ordP_len]
theorem mp_len {fn : Int} {arg : Nat} {l : List Pt} (h : mpE fn arg l = 0) : (mpV fn arg l).length = l.length := by
  unfold mpE at h
  unfold mpV
  split at h
  · rw [if_pos (by assumption), nor_len0 h, List.length_map]
  · exact absurd h (by decide)
theorem sc_nonm (op : Int) (x : Nat) (left : Bool) (l : List Pt) : NoNm (scV op x left true l) := by
  unfold scV
  have hf : filB op true = false := by simp [filB]
  split
  · intro p hp; simp at hp
  · rw [hf]
    exact nonm_nor (nonm_map (fun y => Fv.opV op (sdA left x y) (sdB left x y)) l)
theorem sc_len {op : Int} {x : Nat} {left : Bool} {l : List Pt} (h : scE op x left true l = 0) : (scV op x left true l).length = l.length := by
  have hf : filB op true = false := by simp [filB]
  unfold scE at h
  unfold scV
  rw [hf] at h ⊢
  split at h
  · exact absurd h (by decide)
  · rw [if_neg (by assumption)]
    have h2 : norE (l.map (scF op left x)) = 0 := h
    show (norV (l.map (scF op left x))).length = l.length
    rw [nor_len0 h2, List.length_map]
end Go.Proofs.YtoooaipbkkiefaaDoor.Pt
