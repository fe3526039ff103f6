/- New of a store: its walk. -/
import Derived.Test.YtoooaipbkkiefaaGreatDoorNewM
namespace Go.Proofs.YtoooaipbkkiefaaGreatDoor
open Go.RowKit Go.Sort
set_option maxRecDepth 100000
set_option maxHeartbeats 4000000

theorem set_sizes (l : List Lb) : ∀ x ∈ setV l, x.1.size ≤ 64 ∧ x.2.size ≤ 256 := by
  intro x hx
  unfold setV at hx
  split at hx
  · obtain ⟨-, ho, -⟩ := rightP_iff.1 (setL_right (by assumption))
    have h1 := ho x hx
    simp only [okV, Bool.and_eq_true, decide_eq_true_eq] at h1
    have := name_le h1.1
    omega
  · simp at hx
theorem map_get {α β : Type} {p : List α} {f : α → β} {k : Nat} {c : β} (h : (p.map f)[k]? = some c) : ∃ i, p[k]? = some i ∧ f i = c := by
  rw [List.getElem?_map] at h
  cases e : p[k]? with
  | none => rw [e] at h; cases h
  | some i => rw [e] at h; exact ⟨i, rfl, by simpa using h⟩
theorem nst_of_sort {w W W' : World} {M b c : Nat} {cs : List Sc} {gs : List Se} {ks : List (List Lb)} {l : List Rwm} (h : GSt w W M (.slice (some ⟨b, 0, none⟩) cs.length c) cs gs ks) (hg : Gath gs l) (p : List (Fin cs.length)) (hp : p.Perm (List.finRange cs.length))
    (hr : RowC W' b (p.map fun i => cs[i])) (ho : W.grownBy W' (some b)) (hpw : (p.map fun i => (gs[i.1]'(by have := i.2; have := h.len; omega)).1).Pairwise ltLs) :
    ∃ cs' gs', NSt w W' b cs' gs' ∧ cs'.length = cs.length ∧ (gs'.map (·.1)).Pairwise ltLs ∧ (∀ x, x ∈ gs'.map (·.1) ↔ ∃ r ∈ l, setV r.l = x) ∧ ∀ s ∈ gs', s.2 = smp s.1 l := by
  have hlen := h.len
  have hnd : p.Nodup := hp.nodup_iff.2 (List.nodup_finRange _)
  have hpl : p.length = cs.length := by rw [hp.length_eq]; simp
  let gf : Fin cs.length → Se := fun i => gs[i.1]'(by have := i.2; omega)
  have hb : w.heap.size ≤ b := (h.row.lt (k := b) rfl).1
  have ix : ∀ (i : Fin cs.length), cs[i.1]? = some cs[i] ∧ gs[i.1]? = some (gf i) := fun i => ⟨List.getElem?_eq_getElem i.2, List.getElem?_eq_getElem (by have := i.2; omega)⟩
  have two : ∀ {k : Nat} {c' : Sc} {s : Se}, (p.map fun i => cs[i])[k]? = some c' → (p.map gf)[k]? = some s → ∃ i : Fin cs.length, p[k]? = some i ∧ cs[i.1]? = some c' ∧ gs[i.1]? = some s := fun {k c' s} hc hs => by
    obtain ⟨i, hi, rfl⟩ := map_get hc
    obtain ⟨j, hj, rfl⟩ := map_get hs
    rw [hi] at hj
    obtain rfl := Option.some.inj hj
    exact ⟨i, hi, (ix i).1, (ix i).2⟩
  have hbl : ∀ {j : Nat} {d : Sc} {s : Se}, cs[j]? = some d → gs[j]? = some s → d.2.v.ownBlock = none ∨ d.2.v.ownBlock ≠ some b := fun {j d s} hd hs => own2_ne (h.rd j d s hd hs).2 h.row (by decide)
  have hmem : ∀ s, s ∈ p.map gf ↔ s ∈ gs := fun s => by
    constructor
    · intro hs
      obtain ⟨i, -, rfl⟩ := List.mem_map.1 hs
      exact List.getElem_mem _
    · intro hs
      obtain ⟨i, hi, rfl⟩ := List.getElem_of_mem hs
      exact List.mem_map.2 ⟨⟨i, by omega⟩, hp.mem_iff.2 (List.mem_finRange _), rfl⟩
  have hmm : ∀ x, x ∈ (p.map gf).map (·.1) ↔ x ∈ gs.map (·.1) := fun x => by
    rw [List.mem_map, List.mem_map]
    constructor
    · rintro ⟨s, hs, e⟩; exact ⟨s, (hmem s).1 hs, e⟩
    · rintro ⟨s, hs, e⟩; exact ⟨s, (hmem s).2 hs, e⟩
  have hs0 : ∀ s ∈ gs, 0 < s.2.length := fun s hs => by
    obtain ⟨r, hr, e⟩ := (hg.mem s.1).1 (List.mem_map_of_mem hs)
    rw [hg.s s hs]
    unfold smp
    rw [List.length_map]
    exact List.length_pos_of_mem (List.mem_filter.2 ⟨hr, by simpa using e⟩)
  refine ⟨p.map fun i => cs[i], p.map gf, ⟨h.g.only ho hb, hb, hr, by simp, fun k c' s hc hs => ?_, fun k c' s hc hs => ?_, fun i j d e hd he hij => ?_⟩, by simp [hpl], ?_, fun x => by rw [hmm]; exact hg.mem x, fun s hs => hg.s s ((hmem s).1 hs)⟩
  · obtain ⟨i, -, hci, hsi⟩ := two hc hs
    obtain ⟨a1, -⟩ := h.rd i.1 c' s hci hsi
    have a2 := h.off i.1 c' s hci hsi
    refine ⟨a1.only ho (fun h0 y hy e => (a2 h0 y hy).1 e), fun h0 y hy => ⟨fun e => (a2 h0 y hy).1 (by rw [e]; rfl), fun j d hd => ?_⟩⟩
    obtain ⟨i', -, rfl⟩ := map_get hd
    exact (a2 h0 y hy).2 i'.1 _ (ix i').1
  · obtain ⟨i, -, hci, hsi⟩ := two hc hs
    obtain ⟨-, a1⟩ := h.rd i.1 c' s hci hsi
    have hsm := SmV.of_own a1 (hs0 s (List.mem_of_getElem? hsi))
    have hne : c'.2.v.ownBlock ≠ some b := by
      rcases hbl hci hsi with e | e
      · rw [e]; simp
      · exact e
    exact ⟨hsm.far ho hne, hne⟩
  · obtain ⟨i1, hi1, rfl⟩ := map_get hd
    obtain ⟨j1, hj1, rfl⟩ := map_get he
    have hne : i1.1 ≠ j1.1 := fun e => by
      obtain rfl : i1 = j1 := Fin.ext e
      have hil := (List.getElem?_eq_some_iff.1 hi1).1
      exact hij ((List.getElem?_inj hil hnd).1 (by rw [hi1, hj1]))
    rcases h.inj i1.1 j1.1 _ _ (ix i1).1 (ix j1).1 hne with e | e
    · obtain ⟨x, hx, -⟩ := (SmV.of_own (h.rd i1.1 _ _ (ix i1).1 (ix i1).2).2 (hs0 _ (List.mem_of_getElem? (ix i1).2))).blk
      rw [hx] at e; cases e
    · exact e
  · rw [List.map_map]; exact hpw
/-- rows of series that are read -/
structure SerR (W : World) (A : Option Addr) (cs : List Sc) (gs : List Se) : Prop where
  row : At2 encS W A cs
  len : cs.length = gs.length
  s : ∀ (k : Nat) (c : Sc) (s : Se), cs[k]? = some c → gs[k]? = some s → LabV W c.1 s.1 ∧ c.2.n = s.2.length ∧ At2 encP W c.2.a s.2 ∧ s.2.length ≤ c.2.c
theorem SerR.gr {W W' : World} {A : Option Addr} {cs : List Sc} {gs : List Se} (h : SerR W A cs gs) (g : Gr W W') : SerR W' A cs gs :=
  ⟨h.row.gr g, h.len, fun k c s hc hs => ⟨(h.s k c s hc hs).1.gr g, (h.s k c s hc hs).2.1, (h.s k c s hc hs).2.2.1.gr g, (h.s k c s hc hs).2.2.2⟩⟩
theorem at2_rowP {W : World} {b : Nat} {l : List Sm} (h : RowP W b 0 l) : At2 encP W (some ⟨b, 0, none⟩) l := fun _ => ⟨b, 0, rfl, fun i x hx u v hu => by
  obtain ⟨⟨c1, -⟩, c2, -⟩ := h i x hx
  unfold encP at hu
  injection hu with e1 e2
  injection e2 with e2
  subst e1; subst e2
  exact ⟨c1, c2⟩⟩
theorem at2_rowC {W : World} {b : Nat} {l : List Sc} (h : RowC W b l) : At2 encS W (some ⟨b, 0, none⟩) l := fun _ => ⟨b, 0, rfl, fun i x hx u v hu => by
  obtain ⟨⟨c1, -⟩, c2, -⟩ := h i x hx
  unfold encS at hu
  injection hu with e1 e2
  injection e2 with e2
  subst e1; subst e2
  rw [Nat.zero_add]
  exact ⟨c1, c2⟩⟩
theorem NSt.ser {w W : World} {b : Nat} {cs : List Sc} {gs : List Se} (h : NSt w W b cs gs) : SerR W (some ⟨b, 0, none⟩) cs gs :=
  ⟨at2_rowC h.row, h.len, fun k c s hc hs => ⟨(h.lab k c s hc hs).1, by
    obtain ⟨x, e, -, h1, -, h3, h2⟩ := (h.smp k c s hc hs).1
    exact ⟨h1, by rw [e]; exact at2_rowP h2, h3⟩⟩⟩
/-- a store -/
def StAt (W : World) (S : Nat) (gs : List Se) : Prop := ∃ A c M cs, W.heap[S]? = some (.cells #[.slice A gs.length c, .map (some M)] 91 (0, 0)) ∧ SerR W A cs gs ∧ IdxOf W M gs ∧ gs.length ≤ 1000
theorem StAt.gr {W W' : World} {S : Nat} {gs : List Se} (h : StAt W S gs) (g : Gr W W') : StAt W' S gs := by
  obtain ⟨A, c, M, cs, h1, h2, ⟨B, K, mb, sv, h3⟩, h4⟩ := h
  exact ⟨A, c, M, cs, (g.b.block S (Array.getElem?_eq_some_iff.1 h1).1).trans h1, h2.gr g, ⟨B, K, mb, sv, h3.gr g⟩, h4⟩
def NewSPost (l : List Rwm) (w : World) (e : Ending) (w' : World) : Prop :=
  Gr w w' ∧ if errA l = 0 then ∃ S gs, e = .returned (.tuple #[.pointer (some ⟨S, 0, none⟩), .int .i64 0]) ∧ StAt w' S gs ∧ StL gs l else e = .returned (.tuple #[.pointer none, .int .i64 (errA l)])
theorem lasts_pos : ∀ {l : List Sm}, 0 < l.length → 0 < (lasts l).length
  | [x], _ => by simp [lasts]
  | x :: y :: r, _ => by
    unfold lasts
    split
    · exact lasts_pos (by simp)
    · simp
theorem nodup_len {α : Type} [DecidableEq α] : ∀ {a b : List α}, a.Nodup → (∀ x ∈ a, x ∈ b) → a.length ≤ b.length
  | [], _, _, _ => Nat.zero_le _
  | x :: r, b, h, g => by
    have hx := g x (by simp)
    obtain ⟨h1, h2⟩ := List.nodup_cons.1 h
    have := nodup_len (a := r) (b := b.erase x) h2 (fun y hy => (List.mem_erase_of_ne (a := y) (b := x) (fun e => h1 (by rw [← e]; exact hy))).2 (g y (by simp [hy])))
    rw [List.length_erase_of_mem hx] at this
    have := List.length_pos_of_mem hx
    simp; omega
theorem Gath.len {gs : List Se} {l : List Rwm} (h : Gath gs l) : gs.length ≤ l.length := by
  have := nodup_len (b := l.map fun r => setV r.l) h.nd (fun x hx => by
    obtain ⟨r, hr, e⟩ := (h.mem x).1 hx
    exact List.mem_map.2 ⟨r, hr, e⟩)
  simpa using this
/-- at the head of a round of settling -/
def SHd (w W : World) (b : Nat) (gs' : List Se) (k : Nat) : Prop := ∃ cs2 gs2, NSt w W b cs2 gs2 ∧ gs2.length = gs'.length ∧ ∀ (i : Nat) (s : Se), gs'[i]? = some s → (i < k → ∃ r, AscT r ∧ EqT s.2 r ∧ gs2[i]? = some (s.1, lasts r)) ∧ (k ≤ i → gs2[i]? = some s)
theorem SHd.stl {w W : World} {b : Nat} {gs' : List Se} {l : List Rwm} (h : SHd w W b gs' gs'.length) (hord : (gs'.map (·.1)).Pairwise ltLs) (hmm : ∀ x, x ∈ gs'.map (·.1) ↔ ∃ r ∈ l, setV r.l = x) (hsm : ∀ s ∈ gs', s.2 = smp s.1 l) : ∃ cs2 gs2, NSt w W b cs2 gs2 ∧ gs2.length = gs'.length ∧ StL gs2 l := by
  obtain ⟨cs2, gs2, hN, hl, hi⟩ := h
  have hm : gs2.map (·.1) = gs'.map (·.1) := by
    apply List.ext_getElem?
    intro i
    rw [List.getElem?_map, List.getElem?_map]
    cases e : gs'[i]? with
    | none =>
      have : gs2[i]? = none := List.getElem?_eq_none (by rw [hl]; exact List.getElem?_eq_none_iff.1 e)
      rw [this]
    | some s =>
      obtain ⟨r, -, -, e2⟩ := (hi i s e).1 (List.getElem?_eq_some_iff.1 e).1
      rw [e2]; rfl
  refine ⟨cs2, gs2, hN, hl, by rw [hm]; exact hord, fun x => by rw [hm]; exact hmm x, fun s hs => ?_⟩
  obtain ⟨i, hi2⟩ := List.getElem?_of_mem hs
  obtain ⟨s', e⟩ : ∃ s', gs'[i]? = some s' := ⟨_, List.getElem?_eq_getElem (by rw [← hl]; exact (List.getElem?_eq_some_iff.1 hi2).1)⟩
  obtain ⟨r, h1, h2, e2⟩ := (hi i s' e).1 (List.getElem?_eq_some_iff.1 e).1
  rw [hi2] at e2
  obtain rfl := Option.some.inj e2
  refine ⟨r, h1, ?_, rfl⟩
  rw [← hsm s' (List.mem_of_getElem? e)]
  exact h2
theorem newS_err (A : Option Addr) (c : Nat) (l : List Rwm) (w : World) (h : RawsAt w A l) (hw : Wr l) (hk : Kn w) (ht : Tab w) (he : ¬ errA l = 0) :
    Calls Tryz.prog 21 #[.slice A l.length c] w (NewSPost l w) := by
  have CG := Lib.hid (gather_any A c l w h hw hk ht)
  have HE : Hid (∀ W, Gr w W → NewSPost l w (.returned (.tuple #[.pointer none, .int .i64 (errA l)])) W) := Lib.hid (fun W g => ⟨g, by rw [if_neg he]⟩)
  clear h hw hk ht
  go_enter Tryz.func21, Tryz.ntmps21
  go_wp2_with fail
  refine CG.out.mono ?_
  intro e w1 hp
  unfold GatPost at hp
  rw [if_neg he] at hp
  obtain ⟨rfl, hg⟩ := hp
  have hb : (errA l != 0) = true := by simpa using he
  obtain ⟨d, hd⟩ : ∃ d, errA l = d := ⟨_, rfl⟩
  rw [hd] at HE hb he ⊢
  clear hd CG
  go_wp2
  go_ret2
  exact HE.out _ hg
theorem newS_any (A : Option Addr) (c : Nat) (l : List Rwm) (w : World) (h : RawsAt w A l) (hw : Wr l) (hk : Kn w) (ht : Tab w) :
    Calls Tryz.prog 21 #[.slice A l.length c] w (NewSPost l w) := by
  by_cases he : errA l = 0
  · have CG := Lib.hid (gather_any A c l w h hw hk ht)
    have HE : Hid (∀ W S gs, Gr w W → StAt W S gs → StL gs l → NewSPost l w (.returned (.tuple #[.pointer (some ⟨S, 0, none⟩), .int .i64 0])) W) := Lib.hid (fun W S gs g hs hl => ⟨g, by rw [if_pos he]; exact ⟨S, gs, rfl, hs, hl⟩⟩)
    have hn := hw.n
    clear h hw hk ht
    go_enter Tryz.func21, Tryz.ntmps21
    go_wp2_with fail
    refine CG.out.mono ?_
    intro e w1 hp
    unfold GatPost at hp
    rw [if_pos he] at hp
    obtain ⟨v, cs, gs, M, ks, rfl, hst, hga⟩ := hp
    clear CG he
    obtain ⟨A0, c0, rfl, -, -, -, hA0⟩ := hst.row.form (fun _ => rfl)
    by_cases h0 : 0 < cs.length
    · obtain ⟨b, rfl, -⟩ := hA0 h0
      have hcl : cs.length ≤ 1000 := by have := hga.len; have := hst.len; omega
      have hlb : ∀ s ∈ gs, s.1.length ≤ 32 := fun s hs => by
        obtain ⟨r, -, e⟩ := (hga.mem s.1).1 (List.mem_map_of_mem hs)
        rw [← e]; exact setV_len _
      have HLN := Lib.hid hst.len
      have CS := Lib.hid (sortS_any b c0 cs gs w1 (OwnC.row hst.row) HLN.out hcl h0 (hst.row.lt (k := b) rfl).2 (fun k c s hc hs => ⟨(hst.rd k c s hc hs).1, by have := hlb s (List.mem_of_getElem? hs); omega, fun h0 e => (hst.off k c s hc hs h0 b e).1 rfl⟩) hga.nd)
      have HST := Lib.hid hst; have HGA := Lib.hid hga
      clear hst hga hlb hA0
      go_wp2_with fail
      refine CS.out.mono ?_
      rintro e w2 ⟨rfl, p, hp, hrow, ho, hpw⟩
      obtain ⟨cs', gs', hN, hcl', hord, hmm, hsm⟩ := nst_of_sort HST.out HGA.out p hp hrow ho hpw
      have HORD := Lib.hid hord; have HMM := Lib.hid hmm; have HSM := Lib.hid hsm
      have HGL : Hid (gs'.length = cs.length) := Lib.hid (by rw [← hN.len, hcl'])
      have H0 : Hid (SHd w w2 b gs' 0) := Lib.hid ⟨cs', gs', hN, rfl, fun i s hs => ⟨fun h => absurd h (by omega), fun _ => hs⟩⟩
      clear hp hrow ho hpw hN hcl' hord hmm hsm CS HST HGA
      obtain ⟨n, hnn⟩ : ∃ n, cs.length = n := ⟨_, rfl⟩
      rw [hnn] at HGL hcl h0 ⊢
      clear hnn
      go_wp2
      go_loopw [19] (fun i wr => ∃ k : Nat, k ≤ n ∧ i = .int .i64 k ∧ Hid (SHd w wr b gs' k)) (fun i _ => n - (intOf i).toNat)
      case atStart => exact ⟨0, Nat.zero_le _, rfl, H0⟩
      case round =>
        clear H0
        obtain ⟨k, hk, rfl, HG⟩ := hrel
        by_cases hlt : k < n
        · have n1 : (k : Int) < (n : Int) := by omega
          obtain ⟨cs2, gs2, hN, hl2, hi2⟩ := HG.out
          have hkg : k < gs'.length := by have := HGL.out; omega
          obtain ⟨s, hs'⟩ : ∃ s, gs'[k]? = some s := ⟨_, List.getElem?_eq_getElem hkg⟩
          have hs := (hi2 k s hs').2 (Nat.le_refl _)
          obtain ⟨cc, hc⟩ : ∃ cc, cs2[k]? = some cc := ⟨_, List.getElem?_eq_getElem (by rw [hN.len, hl2]; exact hkg)⟩
          obtain ⟨⟨x, hx, hB, e1, e2, e3, hrp⟩, hnb⟩ := hN.smp k cc s hc hs
          obtain ⟨-, c2, -⟩ := hN.row k cc hc
          have hsl : s.2.length ≤ 1000 := by
            rw [HSM.out s (List.mem_of_getElem? hs')]
            exact Nat.le_trans (smp_len _ _) hn
          have hcv : cc.2.v = .slice (some ⟨x, 0, none⟩) s.2.length cc.2.c := by unfold Sl.v; rw [hx, e1]
          rw [hcv] at c2
          have CT := Lib.hid (settle_any x 0 cc.2.c s.2.length s.2 wr hrp rfl (by omega) e2 e3)
          have HPUT : Hid (∀ w3 r, AscT r → EqT s.2 r → Rw wr w3 x 0 (lasts r) → (w3.cell? ⟨b, k * 2 + 1, none⟩ = some (.slice (some ⟨x, 0, none⟩) s.2.length cc.2.c) ∧ w3.frozen? ⟨b, k * 2 + 1, none⟩ = false) ∧ SHd w (w3.setCell ⟨b, k * 2 + 1, none⟩ (.slice (some ⟨x, 0, none⟩) (lasts r).length (lasts r).length)) b gs' (k + 1)) := Lib.hid (fun w3 r h1 h2 h3 => by
            obtain ⟨p1, p2⟩ := hN.put hc hs hx h3 (lasts_pos (by rw [h2.length]; exact e2))
            rw [hcv] at p1
            refine ⟨p1, _, _, p2, by rw [List.length_set, hl2], fun i u hu => ⟨fun hik => ?_, fun hik => ?_⟩⟩
            · by_cases e : i = k
              · subst e
                rw [hs'] at hu
                obtain rfl := Option.some.inj hu
                exact ⟨r, h1, h2, List.getElem?_set_self (by omega)⟩
              · obtain ⟨q, a1, a2, a3⟩ := (hi2 i u hu).1 (by omega)
                exact ⟨q, a1, a2, by rw [List.getElem?_set_ne (Ne.symm e)]; exact a3⟩
            · rw [List.getElem?_set_ne (by omega)]
              exact (hi2 i u hu).2 (by omega))
          obtain ⟨m, hm⟩ : ∃ m, s.2.length = m := ⟨_, rfl⟩
          obtain ⟨q, hq⟩ : ∃ q, cc.2.c = q := ⟨_, rfl⟩
          rw [hm, hq] at c2 CT HPUT
          clear hN hl2 hi2 hs hs' hc hx hB e1 e2 e3 hrp hnb hsl hcv hm hq HG hkg
          go_wp2_with fail
          refine CT.out.mono ?_
          rintro e w3 ⟨r, kk, hA, hE, rfl, rfl, hrw⟩
          obtain ⟨⟨d1, d2⟩, hS⟩ := HPUT.out w3 r hA hE hrw
          have HS := Lib.hid hS
          clear hA hE hrw hS CT HPUT c2
          go_wp2
          go_roundw
          case rel => exact ⟨k + 1, by omega, by go_num, HS⟩
          case measure => simp [intOf]; omega
        · obtain rfl : k = n := by omega
          have HG2 : Hid (SHd w wr b gs' gs'.length) := Lib.hid (by rw [HGL.out]; exact HG.out)
          obtain ⟨cs2, gs2, hN, hl2, hst⟩ := HG2.out.stl HORD.out HMM.out HSM.out
          have hc2 : cs2.length = k := by rw [hN.len, hl2, HGL.out]
          have CI := Lib.hid (indexOf_any (some ⟨b, 0, none⟩) b c0 cs2 gs2 wr (fun _ => rfl) ⟨hN.row, hN.len, fun k c s hc hs => (hN.lab k c s hc hs).1⟩ (by omega) (fun s hs => by
            obtain ⟨r, -, e⟩ := (hst.mem s.1).1 (List.mem_map_of_mem hs)
            rw [← e]
            exact ⟨setV_len _, fun x hx => by have := set_sizes r.l x hx; omega⟩))
          rw [hc2] at CI
          have HSER := Lib.hid hN.ser; have HGR := Lib.hid hN.g; have HSTL := Lib.hid hst
          have HL2 : Hid (gs2.length = k) := Lib.hid (by rw [hl2, HGL.out])
          clear hN hl2 hst hc2 HG HG2
          have n2 : ¬ (k : Int) < (k : Int) := by omega
          go_wp2_with fail
          refine CI.out.mono ?_
          rintro e w5 ⟨M5, rfl, g5, hix⟩
          have HOUT : Hid (NewSPost l w (.returned (.tuple #[.pointer (some ⟨w5.heap.size, 0, none⟩), .int .i64 0])) (w5.alloc (.cells #[.slice (some ⟨b, 0, none⟩) k c0, .map (some M5)] 91))) := Lib.hid (by
            have ga : Gr w5 (w5.alloc (.cells #[.slice (some ⟨b, 0, none⟩) k c0, .map (some M5)] 91)) := (Gr.refl w5).alloc _ _
            obtain ⟨B, K, mb, sv, hi⟩ := hix
            exact HE.out _ _ gs2 ((HGR.out.trans g5).trans ga) ⟨_, c0, M5, cs2, by rw [HL2.out]; exact heap_alloc_new w5 _, (HSER.out.gr g5).gr ga, ⟨B, K, mb, sv, hi.gr ga⟩, by have := HL2.out; omega⟩ HSTL.out)
          clear hix g5 CI
          go_wp2
          go_ret2
          exact HOUT.out
    · have hcs : cs = [] := List.eq_nil_of_length_eq_zero (by omega)
      subst hcs
      have hgs : gs = [] := List.eq_nil_of_length_eq_zero (by have := hst.len; simpa using this.symm)
      subst hgs
      have HSTL : Hid (StL [] l) := Lib.hid ⟨by simp, hga.mem, fun s hs => by simp at hs⟩
      have HGR := Lib.hid hst.g
      have CI := Lib.hid (fun W => indexOf_any A0 0 c0 [] [] W (fun h => absurd h (by simp)) ⟨fun i x hx => by simp at hx, rfl, fun k c s hc => by simp at hc⟩ (by simp) (fun s hs => by simp at hs))
      have CS := Lib.hid (AnyF.slices_SortFunc_none Tryz.sortS A0 c0 (.func (.func 49) #[] #[]) w1)
      clear hst hga hA0 h0
      simp only [List.length_nil] at CI ⊢
      go_wp2_with fail
      refine Calls.mono (show Calls Tryz.prog 48 _ _ _ from CS.out) ?_
      rintro e w2 ⟨rfl, rfl⟩
      go_wp2_with fail
      refine wp_loop_rounds 1 ?_
      rw [rounds_succ]
      go_wp2_with fail
      refine (CI.out _).mono ?_
      rintro e w5 ⟨M5, rfl, g5, hix⟩
      have HOUT : Hid (NewSPost l w (.returned (.tuple #[.pointer (some ⟨w5.heap.size, 0, none⟩), .int .i64 0])) (w5.alloc (.cells #[.slice A0 0 c0, .map (some M5)] 91))) := Lib.hid (by
        have ga : Gr w5 (w5.alloc (.cells #[.slice A0 0 c0, .map (some M5)] 91)) := (Gr.refl w5).alloc _ _
        obtain ⟨B, K, mb, sv, hi⟩ := hix
        exact HE.out _ _ [] ((HGR.out.trans g5).trans ga) ⟨A0, c0, M5, [], heap_alloc_new w5 _, ⟨At2.nil _ _, rfl, fun k c s hc => by simp at hc⟩, ⟨B, K, mb, sv, hi.gr ga⟩, by simp⟩ HSTL.out)
      clear hix g5 CI
      go_wp2
      go_ret2
      exact HOUT.out
  · exact newS_err A c l w h hw hk ht he
end Go.Proofs.YtoooaipbkkiefaaGreatDoor
