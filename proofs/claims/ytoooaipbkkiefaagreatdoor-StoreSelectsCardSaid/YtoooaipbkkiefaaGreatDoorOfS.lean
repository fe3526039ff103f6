/- KnownS LawS OfS, in one text. -/
import Derived.Test.YtoooaipbkkiefaaGreatDoorRangeS
/-! The laws' first test: it answers true. -/
namespace Go.Proofs.YtoooaipbkkiefaaGreatDoor
open Go.RowKit Go.Sort
set_option maxRecDepth 100000
set_option maxHeartbeats 4000000

def ka : List Lb := [(⟨#[97]⟩, ⟨#[49]⟩)]
def kr : List Rwm := [⟨ka, 5, 4611686018427387904⟩, ⟨ka, 3, 4607182418800017408⟩, ⟨ka, 5, 4616189618054758400⟩]
def ks : List Sm := [(3, 4607182418800017408), (5, 4616189618054758400)]
theorem ka_B : lb_setB ka = true := by
  rw [setB_t]
  refine ⟨⟨?_, by decide +kernel⟩, by decide +kernel⟩
  have : (ka.all okN) = true := by decide +kernel
  exact List.all_eq_true.1 this
theorem ka_V : setV ka = ka := by
  have h : setL ka = ka := by decide +kernel
  unfold setV
  rw [ka_B, if_pos rfl, h]
theorem kr_E : errA kr = 0 := errA_all fun r hr => by
  have hE : setE ka = 0 := by unfold setE; rw [ka_B]; rfl
  simp only [kr, List.mem_cons, List.not_mem_nil, or_false] at hr
  rcases hr with rfl | rfl | rfl <;> (unfold rawE; rw [hE]; decide)
theorem kr_smp : smp ka kr = [(5, 4611686018427387904), (3, 4607182418800017408), (5, 4616189618054758400)] := by
  have h1 : cnv 4611686018427387904 = 4611686018427387904 := by decide +kernel
  have h2 : cnv 4607182418800017408 = 4607182418800017408 := by decide +kernel
  have h3 : cnv 4616189618054758400 = 4616189618054758400 := by decide +kernel
  unfold smp
  simp [kr, ka_V, smO, h1, h2, h3]
theorem kr_st : StL [(ka, ks)] kr := by
  refine ⟨by simp, fun x => ?_, fun s hs => ?_⟩
  · simp [kr, ka_V, eq_comm]
  · rw [List.mem_singleton] at hs
    subst hs
    refine ⟨[(3, 4607182418800017408), (5, 4611686018427387904), (5, 4616189618054758400)], by simp [AscT], ?_, by decide +kernel⟩
    show EqT (smp ka kr) _
    rw [kr_smp]
    intro t
    unfold atT
    by_cases e3 : t = 3
    · subst e3; rfl
    · by_cases e5 : t = 5
      · subst e5; rfl
      · have h3 : ((3 : Int) == t) = false := by simpa using Ne.symm e3
        have h5 : ((5 : Int) == t) = false := by simpa using Ne.symm e5
        simp [h3, h5]
theorem kr_last : lastP ks 7 3 = some 4616189618054758400 := by decide +kernel
theorem kr_range : rangeP ks 3 5 = [(5, 4616189618054758400)] := by decide +kernel
theorem kr_wr : Wr kr := ⟨by decide, fun r hr => by
  have hw : Wd ka := fun x hx => by
    simp only [ka, List.mem_cons, List.not_mem_nil, or_false] at hx
    subst hx
    decide +kernel
  simp only [kr, List.mem_cons, List.not_mem_nil, or_false] at hr
  rcases hr with rfl | rfl | rfl <;> exact ⟨hw, by decide⟩⟩
theorem knownS_any (w : World) (hk : Kn w) (ht : Tab w) :
    Calls Tryz.prog 5 #[] w fun e w' => e = .returned (.bool true) ∧ Gr w w' := by
  obtain ⟨W1, hW1, g1, hb1⟩ := fresh w #[.string ⟨#[97]⟩, .string ⟨#[49]⟩] 53
  obtain ⟨W2, hW2, g2, hb2⟩ := fresh W1 #[.slice (some ⟨w.heap.size, 0, none⟩) 1 1, .int .i64 5, .float .f64 4611686018427387904, .slice (some ⟨w.heap.size, 0, none⟩) 1 1, .int .i64 3, .float .f64 4607182418800017408, .slice (some ⟨w.heap.size, 0, none⟩) 1 1, .int .i64 5, .float .f64 4616189618054758400] 58
  have hs1 : W1.heap.size = w.heap.size + 1 := by rw [← hW1]; simp
  have hlab : LabsAt W2 (some ⟨w.heap.size, 0, none⟩) ka := fun _ => ⟨w.heap.size, 0, rfl, fun i x hx => by
    match i, hx with
    | 0, hx =>
      obtain rfl : ((⟨#[97]⟩, ⟨#[49]⟩) : Lb) = x := by simpa [ka] using hx
      exact ⟨g2.cell (hb1 0 _ rfl), g2.cell (hb1 1 _ rfl)⟩⟩
  have hraw : RawsAt W2 (some ⟨W1.heap.size, 0, none⟩) kr := fun _ => ⟨W1.heap.size, 0, rfl, fun i x hx => by
    match i, hx with
    | 0, hx =>
      obtain rfl : (⟨ka, 5, 4611686018427387904⟩ : Rwm) = x := by simpa [kr] using hx
      exact ⟨_, 1, hb2 0 _ rfl, hlab, hb2 1 _ rfl, hb2 2 _ rfl⟩
    | 1, hx =>
      obtain rfl : (⟨ka, 3, 4607182418800017408⟩ : Rwm) = x := by simpa [kr] using hx
      exact ⟨_, 1, hb2 3 _ rfl, hlab, hb2 4 _ rfl, hb2 5 _ rfl⟩
    | 2, hx =>
      obtain rfl : (⟨ka, 5, 4616189618054758400⟩ : Rwm) = x := by simpa [kr] using hx
      exact ⟨_, 1, hb2 6 _ rfl, hlab, hb2 7 _ rfl, hb2 8 _ rfl⟩⟩
  have CN : Hid (Calls Tryz.prog 21 #[.slice (some ⟨w.heap.size + 1, 0, none⟩) 3 3] W2 fun e w' => Gr W2 w' ∧ ∃ S, e = .returned (.tuple #[.pointer (some ⟨S, 0, none⟩), .int .i64 0]) ∧ StAt w' S [(ka, ks)]) := Lib.hid (by
    have h := newS_any (some ⟨W1.heap.size, 0, none⟩) 3 kr W2 hraw kr_wr (hk.gr (g1.trans g2)) (ht.gr (g1.trans g2))
    rw [hs1] at h
    refine h.mono fun e w' ⟨g, hp⟩ => ⟨g, ?_⟩
    rw [if_pos kr_E] at hp
    obtain ⟨S, gs, rfl, hst, hsl⟩ := hp
    have := hsl.unique kr_st
    subst this
    exact ⟨S, rfl, hst⟩)
  have HW1 := Lib.hid hW1; have HW2 := Lib.hid hW2; have HG2 := Lib.hid (g1.trans g2); have HT := Lib.hid ht
  have HSM : Hid (smpsAt [(ka, ks)] 0 = ks) := Lib.hid rfl
  have HAS : Hid (∀ s ∈ [((ka, ks) : Se)], AscT s.2 ∧ s.2.length ≤ 1000) := Lib.hid (fun s hs => by
    rw [List.mem_singleton] at hs
    subst hs
    exact ⟨kr_st.asc _ (by simp), by decide⟩)
  have hfe : ∀ w, (binOp .eql 40 (.float .f64 4616189618054758400) (.float .f64 4616189618054758400)).run Tryz.prog w = .ok (.bool true) w := fun w => by kernel_rfl
  clear hraw hlab hb1 hb2 hW1 hW2 g1 g2 hs1 hk ht
  go_enter Tryz.func5, Tryz.ntmps5
  go_upto_region 2 with fail
  rw [HW1.out]
  have CN2 : Hid (Calls Tryz.prog 21 #[.slice (some ⟨W1.heap.size, 0, none⟩) 3 3] (W1.alloc (.cells #[.slice (some ⟨w.heap.size, 0, none⟩) 1 1, .int .i64 5, .float .f64 4611686018427387904, .slice (some ⟨w.heap.size, 0, none⟩) 1 1, .int .i64 3, .float .f64 4607182418800017408, .slice (some ⟨w.heap.size, 0, none⟩) 1 1, .int .i64 5, .float .f64 4616189618054758400] 58)) fun e w' => Gr W2 w' ∧ ∃ S, e = .returned (.tuple #[.pointer (some ⟨S, 0, none⟩), .int .i64 0]) ∧ StAt w' S [(ka, ks)]) := Lib.hid (by
    rw [HW2.out]
    have hs1 : W1.heap.size = w.heap.size + 1 := by rw [← HW1.out]; simp
    rw [hs1]; exact CN.out)
  clear CN HW2
  go_wp2_with fail
  refine CN2.out.mono ?_
  rintro e w3 ⟨g3, S, rfl, hst⟩
  have HST := Lib.hid hst
  have HG3 := Lib.hid (HG2.out.trans g3)
  have CLA : Hid (Calls Tryz.prog 14 #[.pointer (some ⟨S, 0, none⟩), .int .i64 0, .int .i64 7, .int .i64 3] w3 fun e w' => Gr w3 w' ∧ e = .returned (.tuple #[.float .f64 4616189618054758400, .bool true])) := Lib.hid (by
    have h := last_any S [(ka, ks)] 0 7 3 w3 hst (HT.out.gr HG3.out) HAS.out ⟨by decide, by decide⟩ ⟨by decide, by decide⟩
    rw [HSM.out, kr_last] at h
    exact h)
  clear hst g3 CN2
  go_wp2_with (go_at_call 14; refine CLA.out.mono ?_; rintro e w4 ⟨g4, rfl⟩)
  have HG4 := Lib.hid (HG3.out.trans g4)
  have HST4 := Lib.hid (HST.out.gr g4)
  have CRA : Hid (Calls Tryz.prog 18 #[.pointer (some ⟨S, 0, none⟩), .int .i64 0, .int .i64 3, .int .i64 5] w4 fun e w' => Gr w4 w' ∧ ∃ g c, e = .returned (.slice (some ⟨g, 0, none⟩) 1 c) ∧ w'.cell? ⟨g, 1, none⟩ = some (.float .f64 4616189618054758400)) := Lib.hid (by
    have h := range_any S [(ka, ks)] 0 3 5 w4 HST4.out (HT.out.gr HG4.out) HAS.out
    rw [HSM.out, kr_range] at h
    refine h.mono ?_
    rintro e w' ⟨g, v, rfl, ho⟩
    obtain ⟨A, c, rfl, hat, -⟩ := ho.form (fun _ => rfl)
    obtain ⟨b, o, rfl, hcells⟩ := hat (by simp)
    obtain ⟨A', c', e, -, -, -, hA⟩ := ho.form (fun _ => rfl)
    obtain ⟨g', e2, -⟩ := hA (by simp)
    subst e2
    injection e with e e3 e4
    injection e with e
    injection e with e5 e6
    subst e5; subst e6
    obtain ⟨-, d2⟩ := hcells 0 _ rfl _ _ rfl
    exact ⟨g, b, c, rfl, d2⟩)
  clear CLA g4 HST
  go_wp2_with fail
  refine CRA.out.mono ?_
  rintro e w5 ⟨g5, g, c, rfl, hcell⟩
  have HG5 := Lib.hid (HG4.out.trans g5)
  have CLE := Lib.hid (len_any S [(ka, ks)] w5 (HST4.out.gr g5))
  clear CRA g5 HST4
  go_wp2_with (go_at_call 20; refine CLE.out.mono ?_; rintro e w6 ⟨rfl, rfl⟩)
  go_ret
  exact ⟨by first | rfl | simp, HG5.out⟩
end Go.Proofs.YtoooaipbkkiefaaGreatDoor
/-! What stage 6's laws are made of: few samples; two rows of samples held against each other. -/
namespace Go.Proofs.YtoooaipbkkiefaaGreatDoor
open Go.RowKit Go.Sort
set_option maxRecDepth 100000
set_option maxHeartbeats 4000000

def fewR (l : List Rwm) : Prop := l.length ≤ 150 ∧ ∀ r ∈ l, r.l.length ≤ 40 ∧ fewP r.l
/-- the texts are such as the model has -/
def WdR (l : List Rwm) : Prop := ∀ r ∈ l, Wd r.l
theorem fewR_wr {l : List Rwm} (h : fewR l) (hw : WdR l) : Wr l := ⟨by have := h.1; omega, fun r hr => ⟨hw r hr, by have := (h.2 r hr).1; omega⟩⟩
def FewPost (l : List Rwm) (w : World) (e : Ending) (w' : World) : Prop := w = w' ∧ ((fewR l ∧ e = .returned (.bool true)) ∨ (¬ fewR l ∧ e = .returned (.bool false)))
theorem fewS_any (A : Option Addr) (c : Nat) (l : List Rwm) (w : World) (h : RawsAt w A l) (hw : WdR l) (hl : l.length ≤ maxLen) (hll : ∀ r ∈ l, r.l.length ≤ maxLen) :
    Calls Tryz.prog 22 #[.slice A l.length c] w (FewPost l w) := by
  have HL := Lib.hid h; have HW := Lib.hid hw; have HLL := Lib.hid hll
  have HN : Hid (¬ fewR l → FewPost l w (.returned (.bool false)) w) := Lib.hid (fun h => ⟨rfl, .inr ⟨h, rfl⟩⟩)
  have HY : Hid (fewR l → FewPost l w (.returned (.bool true)) w) := Lib.hid (fun h => ⟨rfl, .inl ⟨h, rfl⟩⟩)
  unfold maxLen at hl
  clear h hw hll
  by_cases hb : 150 < l.length
  · have HE := Lib.hid (HN.out (fun h => by have := h.1; omega))
    go_enter Tryz.func22, Tryz.ntmps22
    go_wp2
    go_ret
    exact HE.out
  · go_enter Tryz.func22, Tryz.ntmps22
    go_wp2
    go_loopw [3] (fun i wr => ∃ k : Nat, k ≤ l.length ∧ i = .int .i64 k ∧ Hid (∀ r ∈ l.take k, r.l.length ≤ 40 ∧ fewP r.l) ∧ w = wr) (fun i _ => l.length - (intOf i).toNat)
    case atStart => exact ⟨0, Nat.zero_le _, rfl, Lib.hid (fun r hr => by simp at hr), rfl⟩
    case round =>
      obtain ⟨k, hk, rfl, HP, rfl⟩ := hrel
      by_cases hlt : k < l.length
      · obtain ⟨b, o, LA, lc, rfl, c1, hLA, c2, c3, -⟩ := HL.out.at_ hlt
        have hr1 := HW.out l[k] (List.getElem_mem hlt)
        have hr2 := HLL.out l[k] (List.getElem_mem hlt)
        obtain ⟨r, hr⟩ : ∃ r, l[k] = r := ⟨_, rfl⟩
        have GX : Hid (r ∈ l) := Lib.hid (by rw [← hr]; exact List.getElem_mem hlt)
        have HTk : Hid (l.take (k + 1) = l.take k ++ [r]) := Lib.hid (by rw [List.take_succ_eq_append_getElem hlt, hr])
        rw [hr] at c1 hLA hr1 hr2
        have n1 : (k : Int) < (l.length : Int) := by omega
        have n2 : (0 : Int) ≤ (k : Int) := by omega
        unfold maxLen at hr2
        by_cases h40 : 40 < r.l.length
        · have HE := Lib.hid (HN.out (fun h => by have := (h.2 r GX.out).1; omega))
          have n3 : decide ((r.l.length : Int) > 40) = true := decide_eq_true (by omega)
          have n3' : (40 : Int) < (r.l.length : Int) := by omega
          clear hLA hr1 c2 c3 hr
          go_wp2
          go_ret
          exact HE.out
        · have CF := Lib.hid (few_any LA r.l lc w hLA hr1 (by omega))
          have n3 : decide ((r.l.length : Int) > 40) = false := decide_eq_false (by omega)
          have n3' : ¬ (40 : Int) < (r.l.length : Int) := by omega
          by_cases hf : fewP r.l
          · have hd : decide (fewP r.l) = true := decide_eq_true hf
            rw [hd] at CF
            have HP2 : Hid (∀ r ∈ l.take (k + 1), r.l.length ≤ 40 ∧ fewP r.l) := Lib.hid (by
              rw [HTk.out]
              intro q hq
              rcases List.mem_append.1 hq with hq | hq
              · exact HP.out q hq
              · rw [List.mem_singleton] at hq; rw [hq]; exact ⟨by omega, hf⟩)
            clear hLA hr1 hr c2 c3 hd hf
            go_wp2_with (go_at_call 53; refine CF.out.mono ?_; rintro e w' ⟨rfl, rfl⟩)
            go_roundw
            case rel => exact ⟨k + 1, by omega, by go_num, HP2, by first | rfl | trivial⟩
            case measure => simp [intOf]; omega
          · have hd : decide (fewP r.l) = false := decide_eq_false hf
            rw [hd] at CF
            have HE := Lib.hid (HN.out (fun h => hf (h.2 r GX.out).2))
            clear hLA hr1 hr c2 c3 hd hf
            go_wp2_with (go_at_call 53; refine CF.out.mono ?_; rintro e w' ⟨rfl, rfl⟩)
            go_ret
            exact HE.out
      · obtain rfl : k = l.length := by omega
        have HE := Lib.hid (HY.out ⟨by omega, by have := HP.out; rwa [List.take_length] at this⟩)
        have n3 : ¬ (l.length : Int) < (l.length : Int) := by omega
        clear HP
        go_wp2
        go_ret
        exact HE.out
/-- two rows that read as one list -/
theorem samplesEq_any (A B : Option Addr) (c d : Nat) (l : List Sm) (w : World) (h : At2 encP w A l) (g : At2 encP w B l) (hl : l.length ≤ 1000) :
    Calls Tryz.prog 17 #[.slice A l.length c, .slice B l.length d] w fun e w' => e = .returned (.bool true) ∧ Gr w w' := by
  have HA := Lib.hid h; have HB := Lib.hid g
  clear h g
  go_enter Tryz.func17, Tryz.ntmps17
  go_wp2
  go_loopw [5] (fun i wr => ∃ k : Nat, k ≤ l.length ∧ i = .int .i64 k ∧ Hid (Gr w wr)) (fun i _ => l.length - (intOf i).toNat)
  case atStart => exact ⟨0, Nat.zero_le _, rfl, Lib.hid (Gr.refl _)⟩
  case round =>
    obtain ⟨k, hk, rfl, HG⟩ := hrel
    by_cases hlt : k < l.length
    · obtain ⟨q, hq⟩ : ∃ q, l[k]? = some q := ⟨_, List.getElem?_eq_getElem hlt⟩
      obtain ⟨b, o, rfl, hcells⟩ := (HA.out.gr HG.out) (by omega)
      obtain ⟨b', o', rfl, hcells'⟩ := (HB.out.gr HG.out) (by omega)
      obtain ⟨d1, d2⟩ := hcells k q hq _ _ rfl
      obtain ⟨e1, e2⟩ := hcells' k q hq _ _ rfl
      obtain ⟨qt, qv⟩ := q
      simp only at d1 d2 e1 e2
      have n1 : (k : Int) < (l.length : Int) := by omega
      have n2 : (0 : Int) ≤ (k : Int) := by omega
      have n3 : (qt != qt) = false := by simp
      have CSm : Hid (∀ W, Calls Tryz.prog 16 #[.float .f64 qv, .float .f64 qv] W fun e w' => e = .returned (.bool true) ∧ W = w') := Lib.hid (fun W => by
        have := rsame_any qv qv W
        simpa using this)
      have CSt := Lib.hid (fun W => rstale_any qv W)
      obtain ⟨z, hz⟩ : ∃ z, staleB qv = z := ⟨_, rfl⟩
      rw [hz] at CSt
      have n4 : (z != z) = false := by simp
      clear hz hq hcells hcells'
      go_wp2_with fail
      go_quiet (first
        | (go_at_call 16; exact quiet_left (CSm.out _))
        | (go_at_call 45; exact quiet_left (CSt.out _)))
      go_wp2
      go_roundw
      case rel => exact ⟨k + 1, by omega, by go_num, Lib.hid (HG.out.drewN _)⟩
      case measure => simp [intOf]; omega
    · obtain rfl : k = l.length := by omega
      have n3 : ¬ (l.length : Int) < (l.length : Int) := by omega
      go_wp2
      go_ret
      exact ⟨rfl, HG.out⟩
end Go.Proofs.YtoooaipbkkiefaaGreatDoor
/-! Of: the samples as the reference has them. -/
namespace Go.Proofs.YtoooaipbkkiefaaGreatDoor
open Go.RowKit Go.Sort
set_option maxRecDepth 100000
set_option maxHeartbeats 4000000

/-- a raw sample's three cells -/
abbrev Rc := Sl × Int × Nat
def encR (x : Rc) : List Value := [x.1.v, .int .i64 x.2.1, .float .f64 x.2.2]
theorem rflat_len (l : List Rc) : (l.flatMap encR).length = l.length * 3 := by
  induction l with
  | nil => rfl
  | cons x r ih => rw [List.flatMap_cons, List.length_append, ih, List.length_cons]; simp [encR]; omega
theorem rflat_get : ∀ (l : List Rc) (i : Nat) (x : Rc), l[i]? = some x → (l.flatMap encR)[i * 3]? = some x.1.v ∧ (l.flatMap encR)[i * 3 + 1]? = some (.int .i64 x.2.1) ∧ (l.flatMap encR)[i * 3 + 2]? = some (.float .f64 x.2.2)
  | [], i, x, h => by simp at h
  | y :: r, 0, x, h => by
    obtain rfl : y = x := by simpa using h
    exact ⟨rfl, rfl, rfl⟩
  | y :: r, i + 1, x, h => by
    have h1 := rflat_get r i x (by simpa using h)
    rw [List.flatMap_cons, show (i + 1) * 3 = i * 3 + 1 + 1 + 1 by omega]
    exact h1
def OwnR (W : World) (B : Nat) (v : Value) (l : List Rc) : Prop := W.ownsRow B 121 3 v l.length (l.flatMap encR)
theorem OwnR.gr {W W' : World} {B : Nat} {v : Value} {l : List Rc} (h : OwnR W B v l) (g : Gr W W') : OwnR W' B v l := World.ownsRow.kept h g.gb (by cases v.ownBlock <;> simp)
theorem raw_info : (Tryz.prog.info? 121).map (fun i => (i.zero, i.size, i.bytes)) = some (some (.agg #[.slice none 0 0, .int .i64 0, .float .f64 0]), 3, 40) := by kernel_rfl
theorem run_appR {W : World} {B : Nat} {v : Value} {l : List Rc} {x : Rc} {g : Nat} (h : OwnR W B v l) (h0 : W.cell? ⟨g, 0, none⟩ = some x.1.v) (h1 : W.cell? ⟨g, 1, none⟩ = some (.int .i64 x.2.1)) (h2 : W.cell? ⟨g, 2, none⟩ = some (.float .f64 x.2.2)) (hn : l.length ≤ 1000) (hB : B ≤ W.heap.size) :
    ∃ v' W', (Builtin.append_ #[64, 64] 64 #[v, .slice (some ⟨g, 0, none⟩) 1 1]).run Tryz.prog W = .ok v' W' ∧ (OwnR W' B v' (l ++ [x]) ∧ W.grownBy W' v.ownBlock) := by
  obtain ⟨i0, hi, hz0, hz1, hz2⟩ := info_parts raw_info
  have hadd : ∀ j, (⟨g, 0, none⟩ : Addr).add j = ⟨g, j, none⟩ := fun j => by unfold Addr.add; split <;> simp_all
  obtain ⟨v', w', hr, h3, h4, _, _⟩ := run_append_own_at (P := Tryz.prog) W B 64 64 121 i0 (.agg #[.slice none 0 0, .int .i64 0, .float .f64 0]) 3 40 Tryz.underlying64 hi hz0 hz1 hz2 rfl (by omega) v l.length _ h ⟨g, 0, none⟩ 1 1 (encR x) rfl (fun j u hu => by
    rw [hadd]
    match j, hu with
    | 0, hu => simp [encR] at hu; subst hu; exact h0
    | 1, hu => simp [encR] at hu; subst hu; exact h1
    | 2, hu => simp [encR] at hu; subst hu; exact h2) (fun u hu => by simp [encR, Sl.v] at hu; rcases hu with rfl | rfl | rfl <;> rfl) (by unfold maxLen; omega) (by omega) hB
  refine ⟨v', w', hr, ?_, h4⟩
  unfold OwnR
  rw [List.flatMap_append, List.length_append]
  simpa using h3
/-- three cells read as a raw sample -/
def R3 (W : World) (x : Rc) (r : Rwm) : Prop := x.1.n = r.l.length ∧ LabsAt W x.1.a r.l ∧ x.2.1 = r.t ∧ x.2.2 = r.v
theorem OwnR.raws {W : World} {B : Nat} {v : Value} {l : List Rc} {m : List Rwm} (h : OwnR W B v l) (hl : l.length = m.length) (hr : ∀ (i : Nat) x r, l[i]? = some x → m[i]? = some r → R3 W x r) : ∃ A c, v = .slice A m.length c ∧ RawsAt W A m := by
  have hcl := fun (g : Nat) (hg : v.ownBlock = some g) => h.cells hg
  rcases h.2 with ⟨e, e0⟩ | ⟨g, cap, cur, rfl, hb, hg, h1, h2, h3, h4⟩
  · exact ⟨none, 0, by rw [e, ← hl, e0], fun hh => by omega⟩
  · refine ⟨_, cap, by rw [← hl], fun h0 => ⟨g, 0, rfl, fun i r hi => ?_⟩⟩
    have hil : i < l.length := by rw [hl]; exact (List.getElem?_eq_some_iff.1 hi).1
    have hx := List.getElem?_eq_getElem hil
    obtain ⟨e1, e2, e3, e4⟩ := hr i _ r hx hi
    obtain ⟨g1, g2, g3⟩ := rflat_get l i _ hx
    have hadd : ∀ j, (⟨g, 0, none⟩ : Addr).add j = ⟨g, j, none⟩ := fun j => by unfold Addr.add; split <;> simp_all
    have d1 := hcl g rfl _ _ g1
    have d2 := hcl g rfl _ _ g2
    have d3 := hcl g rfl _ _ g3
    rw [hadd] at d1 d2 d3
    rw [Nat.zero_add]
    refine ⟨l[i].1.a, l[i].1.c, ?_, e2, by rw [d2, e3], by rw [d3, e4]⟩
    rw [d1]; unfold Sl.v; rw [e1]
def OfPost (l : List Rwm) (w : World) (e : Ending) (w' : World) : Prop := Gr w w' ∧ ∃ A c, e = .returned (.slice A l.length c) ∧ RawsAt w' A l
def OfHd (w W : World) (v : Value) (l : List Rwm) : Prop := Gr w W ∧ ∃ cs : List Rc, OwnR W w.heap.size v cs ∧ cs.length = l.length ∧ ∀ (i : Nat) x r, cs[i]? = some x → l[i]? = some r → R3 w x r
theorem of_any (A : Option Addr) (c : Nat) (l : List Rwm) (w : World) (h : RawsAt w A l) (hn : l.length ≤ 1000) :
    Calls Tryz.prog 24 #[.slice A l.length c] w (OfPost l w) := by
  have HL := Lib.hid h
  clear h
  go_enter Tryz.func24, Tryz.ntmps24
  go_wp2
  go_loopw [3, 4] (fun v i wr => ∃ k : Nat, k ≤ l.length ∧ i = .int .i64 k ∧ Hid (OfHd w wr v (l.take k))) (fun _ i _ => l.length - (intOf i).toNat)
  case atStart => exact ⟨0, Nat.zero_le _, rfl, Lib.hid ⟨Gr.refl _, [], World.ownsRow_nil _ _ _ _, rfl, fun i x r hx => by simp at hx⟩⟩
  case round =>
    obtain ⟨k, hk, rfl, HG⟩ := hrel
    by_cases hlt : k < l.length
    · obtain ⟨g, cs, ho, hlen, hrel⟩ := HG.out
      obtain ⟨b, o, LA, lc, hA, c1', hLA, c2', c3', hb⟩ := HL.out.at_ hlt
      subst hA
      have c1 := g.cell c1'; have c2 := g.cell c2'; have c3 := g.cell c3'
      obtain ⟨r, hr⟩ : ∃ r, l[k] = r := ⟨_, rfl⟩
      have HTk : Hid (l.take (k + 1) = l.take k ++ [r]) := Lib.hid (by rw [List.take_succ_eq_append_getElem hlt, hr])
      rw [hr] at c1 c2 c3 hLA c1' c2' c3'
      have HC := Lib.hid (And.intro c1' (And.intro c2' c3'))
      have n1 : (k : Int) < (l.length : Int) := by omega
      have n2 : (0 : Int) ≤ (k : Int) := by omega
      have hcl : cs.length ≤ 1000 := by rw [hlen]; simp; omega
      have HREL := Lib.hid hrel; have HLAB := Lib.hid hLA; have HLEN := Lib.hid hlen; have HO := Lib.hid ho; have HGR := Lib.hid g
      have HBW : Hid (∀ q, u3.ownBlock = some q → w.heap.size ≤ q) := Lib.hid (fun q hq => (World.ownsRow.lt ho q hq).1)
      obtain ⟨rl, rt, rv⟩ := r
      simp only at c1 c2 c3
      clear hr hLA hrel hlen ho g c1' c2' c3' HG
      have hne : b ≠ wr.heap.size := by have := HGR.out.size; omega
      go_wp2_with fail
      go_region_held3 (fun w' => w'.cell? ⟨b, o + k * 3, none⟩ = some (.slice LA rl.length lc) ∧ w'.cell? ⟨b, o + k * 3 + 1, none⟩ = some (.int .i64 rt) ∧ w'.cell? ⟨b, o + k * 3 + 2, none⟩ = some (.float .f64 rv))
        (first | exact ks7 | exact ⟨c1, c2, c3⟩ | go_keep)
        (first
          | (refine step_app2 rfl (.tmp 11) (.tmp 28) (by rfl) (by rfl) (by rfl) (by rfl) (run_appR (B := w.heap.size) (x := ((⟨LA, rl.length, lc⟩, rt, rv) : Rc)) ?_ ?_ ?_ ?_ hcl ?_) ?_
             · first | exact HO.out.gr ((Gr.refl _).drew.alloc _ _) | exact HO.out.gr ((Gr.refl _).alloc _ _).drew
             · show _ = some (Value.slice LA rl.length lc)
               go_simp
             · show _ = some (Value.int .i64 rt)
               go_simp
             · show _ = some (Value.float .f64 rv)
               go_simp
             · first | exact (HGR.out.trans ((Gr.refl _).drew.alloc _ _)).size | exact (HGR.out.trans ((Gr.refl _).alloc _ _).drew).size
             rintro v7 w7 ⟨ho7, hg7⟩
             have g7 : Gr w w7 := by
               first
               | exact ⟨(HGR.out.trans ((Gr.refl _).drew.alloc _ _)).b.grown hg7 (HGR.out.trans ((Gr.refl _).drew.alloc _ _)).size (fun q hq => HBW.out q hq)⟩
               | exact ⟨(HGR.out.trans ((Gr.refl _).alloc _ _).drew).b.grown hg7 (HGR.out.trans ((Gr.refl _).alloc _ _).drew).size (fun q hq => HBW.out q hq)⟩
             have ks7 : w7.cell? ⟨b, o + k * 3, none⟩ = some (.slice LA rl.length lc) ∧ w7.cell? ⟨b, o + k * 3 + 1, none⟩ = some (.int .i64 rt) ∧ w7.cell? ⟨b, o + k * 3 + 2, none⟩ = some (.float .f64 rv) := ⟨g7.cell HC.out.1, g7.cell HC.out.2.1, g7.cell HC.out.2.2⟩))
      all_goals
        have HN : Hid (OfHd w w7 v7 (l.take (k + 1))) := Lib.hid ⟨g7, cs ++ [((⟨LA, rl.length, lc⟩, rt, rv) : Rc)], ho7, by rw [HTk.out, List.length_append, List.length_append, HLEN.out]; rfl, fun i x r hx hr => by
          rw [HTk.out] at hr
          rcases Nat.lt_or_ge i cs.length with hi | hi
          · rw [List.getElem?_append_left hi] at hx
            rw [List.getElem?_append_left (by rw [← HLEN.out]; exact hi)] at hr
            exact HREL.out i x r hx hr
          · have h1 := (List.getElem?_eq_some_iff.1 hx).1
            rw [List.length_append, List.length_singleton] at h1
            obtain rfl : i = cs.length := by omega
            rw [List.getElem?_append_right (by omega), Nat.sub_self] at hx
            rw [HLEN.out, List.getElem?_append_right (by omega), Nat.sub_self] at hr
            simp at hx hr
            subst hx; subst hr
            exact ⟨rfl, HLAB.out, rfl, rfl⟩⟩
        clear g7 ks7 ho7 hg7
        go_wp2_with fail
        go_roundw
        case rel => exact ⟨k + 1, by omega, by go_num, HN⟩
        case measure => simp [intOf]; omega
    · obtain rfl : k = l.length := by omega
      have HE : Hid (OfPost l w (.returned u3) wr) := Lib.hid (by
        obtain ⟨g, cs, ho, hlen, hrel⟩ := HG.out
        rw [List.take_length] at hlen hrel
        obtain ⟨A', c', e, hat⟩ := OwnR.raws ho hlen (fun i x r hx hr => by
          obtain ⟨q1, q2, q3⟩ := hrel i x r hx hr
          exact ⟨q1, q2.gr g, q3⟩)
        exact ⟨g, A', c', by rw [e], hat⟩)
      have n3 : ¬ (l.length : Int) < (l.length : Int) := by omega
      clear HG
      go_wp2
      go_ret
      exact HE.out
end Go.Proofs.YtoooaipbkkiefaaGreatDoor
