/- The reference's New: its walk. -/
import Derived.Test.YtoooaipbkkiefaaGreatDoorPutM
namespace Go.Proofs.YtoooaipbkkiefaaGreatDoor
open Go.RowKit
set_option maxRecDepth 100000
set_option maxHeartbeats 4000000

def RNewPost (l : List Rwm) (w : World) (e : Ending) (w' : World) : Prop :=
  Gr w w' ∧ if errA l = 0 then ∃ S v cs gs, e = .returned (.tuple #[.pointer (some ⟨S, 0, none⟩), .int .i64 0]) ∧ RSt w w' S v cs gs ∧ StL gs l else e = .returned (.tuple #[.pointer none, .int .i64 (errA l)])
theorem rst_0 (w W : World) (g : Gr w W) : RSt w (W.alloc (.cells #[.slice none 0 0] 98)) W.heap.size (.slice none 0 0) [] [] :=
  ⟨g.alloc _ _, g.size, heap_alloc_new W _, Own2.nil _ _, rfl, fun k c s hc => by simp at hc, fun k c s hc => by simp at hc⟩
theorem rNew_any (A : Option Addr) (c : Nat) (l : List Rwm) (w : World) (h : RawsAt w A l) (hw : Wr l) :
    Calls Tryz.prog 23 #[.slice A l.length c] w (RNewPost l w) := by
  have HL := Lib.hid h; have HW := Lib.hid hw
  have hn := hw.n
  clear h hw
  go_enter Tryz.func23, Tryz.ntmps23
  go_wp2
  go_loopw [4] (fun i wr => ∃ k : Nat, k ≤ l.length ∧ i = .int .i64 k ∧ Hid (∀ r ∈ l.take k, rawE r = 0) ∧ Hid (Gr w wr)) (fun i _ => l.length - (intOf i).toNat)
  case atStart => exact ⟨0, Nat.zero_le _, rfl, Lib.hid (fun r hr => by simp at hr), Lib.hid (Gr.refl _)⟩
  case round =>
    obtain ⟨k, hk, rfl, HP, HG⟩ := hrel
    by_cases hlt : k < l.length
    · obtain ⟨b, o, LA, lc, rfl, c1, hLA, c2, c3, -⟩ := (HL.out.gr HG.out).at_ hlt
      have hwr := HW.out.l l[k] (List.getElem_mem hlt)
      obtain ⟨r, hr⟩ : ∃ r, l[k] = r := ⟨_, rfl⟩
      have GX : Hid (l[k]? = some r) := Lib.hid (by rw [List.getElem?_eq_getElem hlt, hr])
      have HTk : Hid (l.take (k + 1) = l.take k ++ [r]) := Lib.hid (by rw [List.take_succ_eq_append_getElem hlt, hr])
      rw [hr] at c1 hLA c2 c3 hwr
      have n1 : (k : Int) < (l.length : Int) := by omega
      have CL := Lib.hid (rcheck_raw LA lc r wr hLA hwr.1 (by omega))
      clear hr hwr hLA
      obtain ⟨d, hd⟩ : ∃ d, rawE r = d := ⟨_, rfl⟩
      have HD := Lib.hid hd
      rw [hd] at CL
      obtain ⟨rl, rt, rv⟩ := r
      simp only at c1 c2 c3 CL
      clear hd
      go_wp2_with fail
      refine CL.out.mono ?_
      rintro e w1 ⟨rfl, g1⟩
      by_cases h0 : d = 0
      · have HP2 : Hid (∀ r ∈ l.take (k + 1), rawE r = 0) := Lib.hid (by
          rw [HTk.out]
          intro r hr
          rcases List.mem_append.1 hr with hr | hr
          · exact HP.out r hr
          · rw [List.mem_singleton] at hr; rw [hr, HD.out]; exact h0)
        subst h0
        go_wp2
        go_roundw
        case rel => exact ⟨k + 1, by omega, by go_num, HP2, Lib.hid (HG.out.trans g1)⟩
        case measure => simp [intOf]; omega
      · have HE : Hid (RNewPost l w (.returned (.tuple #[.pointer none, .int .i64 d])) w1) := Lib.hid (by
          have e := errA_at GX.out HP.out (by rw [HD.out]; exact h0)
          rw [HD.out] at e
          exact ⟨HG.out.trans g1, by rw [e, if_neg h0]⟩)
        have hb : (d != 0) = true := by simpa using h0
        go_wp2
        go_ret2
        exact HE.out
    · obtain rfl : k = l.length := by omega
      have HE0 : Hid (errA l = 0) := Lib.hid (errA_all (by have := HP.out; rwa [List.take_length] at this))
      have n2 : ¬ (l.length : Int) < (l.length : Int) := by omega
      have H0 : Hid (∃ v cs gs, RSt w (wr.alloc (.cells #[.slice none 0 0] 98)) wr.heap.size v cs gs ∧ StL gs (l.take 0)) := Lib.hid ⟨_, _, _, rst_0 w wr HG.out, by simpa using StL.nil⟩
      clear HP
      go_wp2
      obtain ⟨S, hS⟩ : ∃ S, wr.heap.size = S := ⟨_, rfl⟩
      rw [hS] at H0 ⊢
      obtain ⟨W0, hW0⟩ : ∃ W0, wr.alloc (.cells #[.slice none 0 0] 98) = W0 := ⟨_, rfl⟩
      rw [hW0] at H0 ⊢
      clear hW0 hS HG
      go_loopw [7] (fun i wr => ∃ k : Nat, k ≤ l.length ∧ i = .int .i64 k ∧ Hid (∃ v cs gs, RSt w wr S v cs gs ∧ StL gs (l.take k))) (fun i _ => l.length - (intOf i).toNat)
      case atStart => exact ⟨0, Nat.zero_le _, rfl, H0⟩
      case round =>
        clear H0
        obtain ⟨k, hk, rfl, HG⟩ := hrel
        by_cases hlt : k < l.length
        · obtain ⟨v, cs, gs, hst, hsl⟩ := HG.out
          obtain ⟨b, o, LA, lc, rfl, c1, hLA, c2, c3, -⟩ := (HL.out.gr hst.g).at_ hlt
          have hwr := HW.out.l l[k] (List.getElem_mem hlt)
          obtain ⟨r, hr⟩ : ∃ r, l[k] = r := ⟨_, rfl⟩
          have HTk : Hid (l.take (k + 1) = l.take k ++ [r]) := Lib.hid (by rw [List.take_succ_eq_append_getElem hlt, hr])
          rw [hr] at c1 hLA c2 c3 hwr
          have n1 : (k : Int) < (l.length : Int) := by omega
          have hbd := hsl.bd (by simp; omega) r
          obtain ⟨rl, rt, rv⟩ := r
          simp only at c1 c2 c3 hLA hwr hbd
          have HST := Lib.hid hst; have HSL := Lib.hid hsl; have HBD := Lib.hid hbd
          have CS := Lib.hid (rSetF_any LA rl lc wr hLA hwr.1 (by omega))
          have HC := Lib.hid (show wr.cell? ⟨b, o + k * 3 + 1, none⟩ = some (.int .i64 rt) from c2)
          clear hst hsl hbd hwr hLA hr HG
          have CT := Lib.hid (fun W => rstale_any rv W)
          have CN := Lib.hid (fun W => rcanon_any rv W)
          obtain ⟨z, hz⟩ : ∃ z, staleB rv = z := ⟨_, rfl⟩
          have HV : Hid (cnv rv = if z then rv else canon rv) := Lib.hid (by unfold cnv; rw [hz])
          rw [hz] at CT
          clear hz
          cases z
          all_goals
            go_wp2_with (first
              | (go_at_call 45; refine (CT.out _).mono ?_; rintro e w' ⟨rfl, rfl⟩)
              | (go_at_call 55; refine (CN.out _).mono ?_; rintro e w' ⟨rfl, rfl⟩)
              | (go_at_call 56; refine CS.out.mono ?_; rintro e w2 ⟨A1, c1', rfl, hl1, g2, -⟩; have c4 := g2.cell HC.out; have HG2 := Lib.hid g2; have HL1 := Lib.hid hl1; clear hl1 g2))
            have CP := Lib.hid (put_any w w2 S v cs gs ⟨A1, (setV rl).length, c1'⟩ (setV rl) (rt, cnv rv) (HST.out.gr HG2.out) ⟨rfl, HL1.out⟩ HBD.out)
            rw [HV.out] at CP
            simp only [Sl.v, Bool.false_eq_true, if_false, if_true] at CP
            refine CP.out.mono ?_
            rintro e w3 ⟨rfl, v3, cs3, h3⟩
            have HN : Hid (∃ v cs gs, RSt w w3 S v cs gs ∧ StL gs (l.take (k + 1))) := Lib.hid ⟨v3, cs3, _, h3, by
              rw [HTk.out]
              have := HSL.out.put ⟨rl, rt, rv⟩
              unfold smO at this
              rw [HV.out] at this
              simpa using this⟩
            clear h3 CP
            go_wp2
            go_roundw
            case rel => exact ⟨k + 1, by omega, by go_num, HN⟩
            case measure => simp [intOf]; omega
        · obtain rfl : k = l.length := by omega
          have HE : Hid (RNewPost l w (.returned (.tuple #[.pointer (some ⟨S, 0, none⟩), .int .i64 0])) wr) := Lib.hid (by
            obtain ⟨v, cs, gs, h1, h2⟩ := HG.out
            rw [List.take_length] at h2
            exact ⟨h1.g, by rw [if_pos HE0.out]; exact ⟨S, v, cs, gs, rfl, h1, h2⟩⟩)
          clear HG
          have n3 : ¬ (l.length : Int) < (l.length : Int) := by omega
          go_wp2
          go_ret2
          exact HE.out
end Go.Proofs.YtoooaipbkkiefaaGreatDoor
