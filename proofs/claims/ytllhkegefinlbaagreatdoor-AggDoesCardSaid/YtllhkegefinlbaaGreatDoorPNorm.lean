/- Points in the order of their labels: the library's sort. -/
import Derived.Test.YtllhkegefinlbaaGreatDoorPRef
import Derived.Test.YtllhkegefinlbaaGreatDoorShelf
import Derived.Shelf.SlSortCmp.WholeK
import Derived.Test.YtllhkegefinlbaaGreatDoorWith
namespace Go.Proofs.YtllhkegefinlbaaGreatDoor.Pt
open Go.RowKit Go.Sort
set_option maxRecDepth 100000
set_option maxHeartbeats 2000000

/-- the call that the sort makes -/
theorem cmpV_any (x y : Pc) (a b : List Lb) (W : World) (ha : LabV W x.1 a) (hb : LabV W y.1 b) (la : a.length ≤ 1099511627776) (lb : b.length ≤ 1099511627776) :
    Calls Tryz.prog 37 #[.agg #[x.1.v, .float .f64 x.2], .agg #[y.1.v, .float .f64 y.2]] W fun e w' => e = .returned (.int .i64 (cmpLs a b)) ∧ Gn W w' := by
  obtain ⟨⟨xa, xn, xc⟩, sb⟩ := x
  obtain ⟨⟨ya, yn, yc⟩, tb⟩ := y
  obtain ⟨rfl, ha⟩ := ha
  obtain ⟨rfl, hb⟩ := hb
  simp only at ha hb
  obtain ⟨⟨W1, hW1, hn1, c1⟩, -⟩ : (∃ W1, W.alloc (.cells #[.slice xa a.length xc, .float .f64 sb] 45) = W1 ∧ Gn W W1 ∧ W1.cell? ⟨W.heap.size, 0, none⟩ = some (.slice xa a.length xc)) ∧ True :=
    ⟨⟨_, rfl, (Gn.refl W).alloc _, by go_simp⟩, trivial⟩
  obtain ⟨W2, hW2, hn2, c2⟩ : ∃ W2, W1.alloc (.cells #[.slice ya b.length yc, .float .f64 tb] 45) = W2 ∧ Gn W1 W2 ∧ W2.cell? ⟨W1.heap.size, 0, none⟩ = some (.slice ya b.length yc) :=
    ⟨_, rfl, (Gn.refl W1).alloc _, by go_simp⟩
  have c1' := hn2.gr.cell c1
  have CC := Lib.hid (compareG_any xa ya a b xc yc W2 (ha.gr (hn1.trans hn2).gr) (hb.gr (hn1.trans hn2).gr) la lb)
  have HW1 := Lib.hid hW1; have HW2 := Lib.hid hW2; have HN := Lib.hid (hn1.trans hn2)
  have hs : W1.heap.size = W.heap.size + 1 := by rw [← hW1]; simp
  have HS := Lib.hid hs
  obtain ⟨v, hv⟩ : ∃ v, cmpLs a b = v := ⟨_, rfl⟩
  rw [hv] at CC ⊢
  simp only [Sl.v]
  rw [hs] at c2
  clear hW1 hW2 hn1 hn2 ha hb hs c1 hv
  obtain ⟨N, hN⟩ : ∃ N, W.heap.size = N := ⟨_, rfl⟩
  rw [hN] at c1' c2
  go_enter Tryz.func37, Tryz.ntmps37
  go_upto_region 1 with fail
  rw [HW1.out, HW2.out]
  clear hN
  go_wp2_with fail
  refine CC.out.mono ?_
  rintro e w5 ⟨rfl, hg⟩
  go_wp2
  go_ret
  exact ⟨rfl, HN.out.trans hg⟩
/-- a row of points' cells that may be written -/
def RowT (W : World) (b : Nat) (cs : List Pc) : Prop :=
  ∀ i x, cs[i]? = some x → (W.cell? ⟨b, i * 2, none⟩ = some x.1.v ∧ W.frozen? ⟨b, i * 2, none⟩ = false) ∧ W.cell? ⟨b, i * 2 + 1, none⟩ = some (.float .f64 x.2) ∧ W.frozen? ⟨b, i * 2 + 1, none⟩ = false
theorem OwnT.row {W : World} {B b c n : Nat} {cs : List Pc} (h : OwnT W B (.slice (some ⟨b, 0, none⟩) n c) cs) : RowT W b cs := by
  have hn : n = cs.length := by
    rcases h.2 with ⟨e, -⟩ | ⟨g, cap, cur, e, -⟩
    · cases e
    · injection e
  subst hn
  have hw : W.ownsRow B 45 2 (.slice (some ⟨b, 0, none⟩) cs.length c) cs.length (cs.flatMap encT) := h
  intro i x hx
  have hi := (List.getElem?_eq_some_iff.1 hx).1
  obtain ⟨f1, f2⟩ := flat2_get encT (fun _ => rfl) cs i x hx
  have c1 := hw.cellAt (i * 2) (by omega)
  have c2 := hw.cellAt (i * 2 + 1) (by omega)
  rw [f1] at c1
  rw [f2] at c2
  exact ⟨⟨c1, hw.frozenAt _⟩, c2, hw.frozenAt _⟩
section
variable {ι : Type} [Inhabited ι] (f : ι → Pc)
theorem flatF_get (l : List ι) (i : Nat) (x : ι) (h : l[i]? = some x) : (flatK (fun k => encT (f k)) 2 l.toArray)[i * 2]! = (f x).1.v ∧ (flatK (fun k => encT (f k)) 2 l.toArray)[i * 2 + 1]! = (.float .f64 (f x).2 : Value) := by
  obtain ⟨hi, rfl⟩ := List.getElem?_eq_some_iff.1 h
  have hg : l.toArray[i]! = l[i] := by simp [getElem!_pos, hi]
  refine ⟨?_, ?_⟩
  · rw [get_flatK _ _ _ _ (by simp; omega), show i * 2 / 2 = i by omega, show i * 2 % 2 = 0 by omega, hg]; rfl
  · rw [get_flatK _ _ _ _ (by simp; omega), show (i * 2 + 1) / 2 = i by omega, show (i * 2 + 1) % 2 = 1 by omega, hg]; rfl
theorem holdsF {W : World} {b : Nat} {l : List ι} (h : RowT W b (l.map f)) : HoldsK (fun k => encT (f k)) 2 W b 0 l.toArray := by
  intro j hj
  have hj' : j < l.length * 2 := by simpa using hj
  have hi : j / 2 < l.length := by omega
  have hx := List.getElem?_eq_getElem hi
  obtain ⟨⟨c1, f1⟩, c2, f2⟩ := h _ (f l[j / 2]) (by rw [List.getElem?_map, hx]; rfl)
  obtain ⟨g1, g2⟩ := flatF_get f l _ _ hx
  rw [Nat.zero_add]
  rcases Nat.mod_two_eq_zero_or_one j with e | e
  · have e2 : j / 2 * 2 = j := by omega
    rw [e2] at c1 f1 g1
    exact ⟨by rw [g1]; exact c1, f1⟩
  · have e2 : j / 2 * 2 + 1 = j := by omega
    rw [e2] at c2 f2
    rw [e2] at g2
    exact ⟨by rw [g2]; exact c2, f2⟩
theorem of_holdsF {W : World} {b : Nat} {l : List ι} (h : HoldsK (fun k => encT (f k)) 2 W b 0 l.toArray) : RowT W b (l.map f) := by
  intro i x hx
  rw [List.getElem?_map] at hx
  obtain ⟨y, hy, rfl⟩ : ∃ y, l[i]? = some y ∧ f y = x := by
    cases e : l[i]? with
    | none => rw [e] at hx; cases hx
    | some y => rw [e] at hx; exact ⟨y, rfl, by simpa using hx⟩
  obtain ⟨g1, g2⟩ := flatF_get f l i y hy
  have hi := (List.getElem?_eq_some_iff.1 hy).1
  have h1 := h (i * 2) (by simp; omega)
  have h2 := h (i * 2 + 1) (by simp; omega)
  simp only [id, Nat.zero_add] at h1 h2
  rw [g1] at h1
  rw [g2] at h2
  exact ⟨h1, h2⟩
end
theorem grown_sortWorldF {α : Type} [Inhabited α] {enc : α → List Value} {w : World} {b o n : Nat} {d : Array α} {os : Array Obj} : w.grownBy (sortWorldK enc 2 w b o n d os) (some b) := by
  refine ⟨rfl, rfl, rfl, ?_, fun k hk hne => ?_⟩
  · simp [sortWorldK, Go.Sort.grow, putRowK, putRow, mapBlock, Sort.ahead]
  · have hb : b ≠ k := fun e => hne (by rw [e])
    have e : (sortWorldK enc 2 w b o n d os).heap = (w.heap.modify b (onCells (putCells id o (flatK enc 2 d)))) ++ os := rfl
    rw [e, Array.getElem?_append_left (by simpa using hk), Array.getElem?_modify, if_neg hb]

theorem RowT.at2 {W : World} {b : Nat} {cs : List Pc} (h : RowT W b cs) : At2 encT W (some ⟨b, 0, none⟩) cs := fun h0 => ⟨b, 0, rfl, fun i x hx u v hu => by
  obtain ⟨⟨c1, -⟩, c2, -⟩ := h i x hx
  simp only [encT] at hu
  injection hu with e1 e2
  injection e2 with e2
  subst e1; subst e2
  rw [Nat.zero_add]
  exact ⟨c1, c2⟩⟩
/-- bits.Len -/
theorem bitsLen_any (n : Nat) (w : World) (h : n < 4611686018427387904) : Calls Tryz.prog 68 #[.int .u64 (n : Int)] w fun e w' => e = .returned (.int .i64 (Lib.bitLen n : Nat)) ∧ w' = w := by
  have h := Any.bits_Len (SlLaysF0.n15.bits (P := Tryz.prog) (ρ := Tryz.sortQ_ren) { Tryz.sortQ with }) (n : Int) w (by omega) (by omega)
  change Calls Tryz.prog 68 _ _ _ at h
  rwa [Int.toNat_natCast] at h
/-- the library's sort of points: what the row held, in order -/
theorem sortFuncV {α : Type} [Inhabited α] (enc : α → List Value) (hk : ∀ x, (enc x).length = 2) (h1 : ∀ x, ∀ v ∈ enc x, v.oneCell' = true) (cf : α → α → Int) (hO : SWO (ltOf cf)) (g : Nat) (cb : Array Value) (blk off cap : Nat) (d : Array α) (w : World)
    (eg : ∀ args w, (callFunc g args).run Tryz.prog w = .ok (.enter g args) w) (hcmp : CmpLays Tryz.prog g cb enc 2 cf blk off d.size w) (hH : HoldsK enc 2 w blk off d) (hblk : blk < w.heap.size) (hsz : d.size < 4611686018427387904) :
    Calls Tryz.prog 36 #[.slice (some ⟨blk, off, none⟩) d.size cap, .func (.func g) #[] cb] w fun e w' =>
      e = .returned (.tuple #[]) ∧ ∃ d' n os, PermIn 0 d.size d d' ∧ SortedIn (ltOf cf) 0 d.size d' ∧ w' = sortWorldK enc 2 w blk off n d' os := by
  have hlim : Lib.bitLen d.size < 4611686018427387904 := Nat.lt_of_le_of_lt (Lib.bitLen_le d.size 62 (by omega) (by omega)) (by omega)
  have hp := AnyQ.pdqsortCmpFunc_all Tryz.sortQ 2 Tryz.isAgg45 Tryz.sizeOf45 enc cf g cb hO blk off cap d w eg hcmp ⟨hk, h1, hH, hblk⟩ (d.size + 1) 0 d.size (Lib.bitLen d.size) d w (by omega) rfl (SWK.start hH) (Nat.zero_le _) (Nat.le_refl _) hsz hlim (Or.inl rfl)
  change Calls Tryz.prog 67 _ _ _ at hp
  have hl := bitsLen_any d.size w hsz
  have wr : IntKind.u64.wrap (d.size : Int) = d.size := by simp [IntKind.wrap, IntKind.bits, IntKind.signed]; omega
  have hs := pdq_sorts (ltOf cf) hO d 0 d.size (Lib.bitLen d.size) true true (Nat.zero_le _) (Nat.le_refl _) (Or.inl rfl)
  have HS := Lib.hid hs
  clear hH hcmp hk h1 hs
  go_enter Tryz.func36, Tryz.ntmps36
  go_wp2_with (first | (go_at_call 68; refine hl.mono ?_; rintro e w' ⟨rfl, rfl⟩) | (go_at_call 67; refine hp.mono ?_; rintro e w' ⟨rfl, n, os, rfl⟩))
  go_end0
  exact ⟨rfl, _, n, os, HS.out.1, HS.out.2, rfl⟩
/-- the n-th of a list, or nothing -/
def nth {α : Type} (l : List α) (z : α) : Option (Fin l.length) → α
  | none => z
  | some i => l[i]
theorem map_nth {α : Type} (l : List α) (z : α) : ((List.finRange l.length).map some).map (nth l z) = l := by
  apply List.ext_getElem
  · simp
  · intro i h1 h2; simp [nth]
def SortPost (b : Nat) (gs : List Pt) (W : World) (e : Ending) (w' : World) : Prop :=
  e = .returned (.tuple #[]) ∧ ∃ rs, PtsAt w' (some ⟨b, 0, none⟩) rs ∧ rs.Perm gs ∧ wsP rs ∧ W.grownBy w' (some b)
theorem sortV_any (b c : Nat) (cs : List Pc) (gs : List Pt) (W : World) (hr : RowT W b cs) (hR : Rds W cs gs) (hs : SmP gs) (hb : b < W.heap.size)
    (hoff : ∀ (k : Nat) (c : Pc) (p : Pt), cs[k]? = some c → gs[k]? = some p → 0 < p.1.length → c.1.v.ownBlock ≠ some b) :
    Calls Tryz.prog 36 #[.slice (some ⟨b, 0, none⟩) cs.length c, .func (.func 37) #[] #[]] W (SortPost b gs W) := by
  have eg : ∀ args w, (callFunc 37 args).run Tryz.prog w = .ok (.enter 37 args) w := enters_of Tryz.func37 (by kernel_rfl) rfl
  have hlen : cs.length = gs.length := hR.len
  have hgl := hs.1
  let f : Option (Fin cs.length) → Pc := nth cs (⟨none, 0, 0⟩, 0)
  let g : Option (Fin cs.length) → Pt := fun x => match x with | none => ([], 0) | some i => gs[i.1]'(by have := i.2; omega)
  have hrd : ∀ x, Rd W (f x) (g x) ∧ ((g x).1.length ≤ 1000) ∧ (0 < (g x).1.length → (f x).1.v.ownBlock ≠ some b) := fun x => by
    cases x with
    | none => exact ⟨⟨rfl, rfl, LabsAt.none_ _ _⟩, by show (0 : Nat) ≤ 1000; omega, fun h => absurd h (by show ¬ (0 : Nat) < 0; omega)⟩
    | some i =>
      have h1 : cs[i.1]? = some cs[i] := List.getElem?_eq_getElem i.2
      have h2 : gs[i.1]? = some (gs[i.1]'(by have := i.2; omega)) := List.getElem?_eq_getElem (by have := i.2; omega)
      exact ⟨hR.rd i.1 _ _ h1 h2, (hs.at_ (by have := i.2; omega)).1, fun h0 => hoff i.1 _ _ h1 h2 h0⟩
  let lab : Option (Fin cs.length) → List Lb := fun x => (g x).1
  let cf : Option (Fin cs.length) → Option (Fin cs.length) → Int := fun i j => cmpLs (lab i) (lab j)
  have hlt : ∀ i j, ltOf cf i j = true ↔ ltLs (lab i) (lab j) := fun i j => by simp [ltOf, cf, ltLs]
  have hltf : ∀ i j, ltOf cf i j = false ↔ ¬ ltLs (lab i) (lab j) := fun i j => by rw [← hlt]; simp
  have hO : SWO (ltOf cf) := ⟨fun i => (hltf i i).2 (ltLs_irrefl _), fun i j k h1 h2 => (hlt i k).2 (ltLs_trans ((hlt i j).1 h1) ((hlt j k).1 h2)), fun i j k h1 h2 => by
    rw [hltf] at h1 h2 ⊢
    intro h3
    rcases ltLs_tri (lab i) (lab j) with h | h | h
    · exact h1 h
    · rw [h] at h3; exact h2 h3
    · exact h2 (ltLs_trans h h3)⟩
  have hd : ((List.finRange cs.length).map some).toArray.size = cs.length := by simp
  have hC : CmpLays Tryz.prog 37 #[] (fun k : Option (Fin cs.length) => encT (f k)) 2 cf b 0 ((List.finRange cs.length).map some).toArray.size W := fun m os dk _ x y => by
    obtain ⟨a1, a2, a3⟩ := hrd x
    obtain ⟨b1, b2, b3⟩ := hrd y
    have hg : W.grownBy (sortWorldK (fun k : Option (Fin cs.length) => encT (f k)) 2 W b 0 m dk os) (some b) := grown_sortWorldF
    exact (cmpV_any (f x) (f y) (lab x) (lab y) _ (a1.2.only hg (fun h0 c hc e => a3 h0 (by rw [hc, ← e]))) (b1.2.only hg (fun h0 c hc e => b3 h0 (by rw [hc, ← e]))) (by show (g x).1.length ≤ _; omega) (by show (g y).1.length ≤ _; omega)).mono fun _ _ h => h
  have hH : HoldsK (fun k : Option (Fin cs.length) => encT (f k)) 2 W b 0 ((List.finRange cs.length).map some).toArray := holdsF f (by rw [map_nth]; exact hr)
  have hcon := sortFuncV (fun k : Option (Fin cs.length) => encT (f k)) (fun _ => rfl) (fun x v hv => by simp [encT, Sl.v] at hv; rcases hv with rfl | rfl <;> rfl) cf hO 37 #[] b 0 c ((List.finRange cs.length).map some).toArray W eg hC hH hb (by simp; omega)
  rw [hd] at hcon
  refine hcon.mono fun e w' ⟨he, d', m, os, hp, hso, hw⟩ => ⟨he, d'.toList.map g, ?_, ?_, ?_, ?_⟩
  · refine ⟨d'.toList.map f, RowT.at2 (of_holdsF f ?_), by simp, fun k c p hc hp2 => ?_⟩
    · rw [hw]
      have := holdsK_sortWorldK_c (fun k : Option (Fin cs.length) => encT (f k)) 2 W b 0 _ d' m os hH hb (by rw [hp.1])
      simpa using this
    · rw [List.getElem?_map] at hc hp2
      cases hx : d'.toList[k]? with
      | none => rw [hx] at hc; cases hc
      | some x =>
        rw [hx] at hc hp2
        obtain rfl : f x = c := by simpa using hc
        obtain rfl : g x = p := by simpa using hp2
        obtain ⟨a1, a2, a3⟩ := hrd x
        have hg : W.grownBy w' (some b) := by rw [hw]; exact grown_sortWorldF
        exact ⟨a1.1, a1.2.only hg (fun h0 c hc e => a3 h0 (by rw [hc, ← e]))⟩
  · have h1 := hp.2.2
    have e1 : ∀ n, d'.size = n → d'.extract 0 n = d' := fun n h => by subst h; exact Array.extract_size
    rw [e1 _ (by have := hp.1; rwa [hd] at this)] at h1
    have e2 : (((List.finRange cs.length).map some).toArray.extract 0 cs.length).toList = (List.finRange cs.length).map some := by
      have : ∀ (a : Array (Option (Fin cs.length))) n, a.size = n → a.extract 0 n = a := fun a n h => by subst h; exact Array.extract_size
      rw [this _ _ hd]
    rw [e2] at h1
    have h2 := h1.map g
    have e3 : ((List.finRange cs.length).map some).map g = gs := by
      apply List.ext_getElem
      · simp [hlen]
      · intro i h1 h2; simp [g]
    rwa [e3] at h2
  · unfold wsP
    rw [List.pairwise_map, List.pairwise_iff_getElem]
    intro i j hi hj hij
    have hsz : d'.size = cs.length := by have := hp.1; rwa [hd] at this
    have := hso i j (Nat.zero_le _) hij (by rw [← hsz]; simpa using hj)
    rw [getElem!_pos d' j (by simpa using hj), getElem!_pos d' i (by simpa using hi), hltf] at this
    simpa using this
  · rw [hw]; exact grown_sortWorldF
end Go.Proofs.YtllhkegefinlbaaGreatDoor.Pt
/- Normal, the program's. -/
namespace Go.Proofs.YtllhkegefinlbaaGreatDoor.Pt
open Go.RowKit Go.Sort
set_option maxRecDepth 100000
set_option maxHeartbeats 4000000
attribute [local irreducible] wpQuiet

theorem run_appV1 {W : World} {B : Nat} {v : Value} {l : List Pc} (x : Pc) {g : Nat} (h : OwnT W B v l) (h1 : W.cell? ⟨g, 0, none⟩ = some x.1.v) (h2 : W.cell? ⟨g, 1, none⟩ = some (.float .f64 x.2)) (hn : l.length ≤ 1000000) (hB : B ≤ W.heap.size) :
    ∃ v' W', (Builtin.append_ #[27, 27] 27 #[v, .slice (some ⟨g, 0, none⟩) 1 1]).run Tryz.prog W = .ok v' W' ∧ OwnT W' B v' (l ++ [x]) ∧ W.grownBy W' v.ownBlock ∧ (v'.ownBlock = v.ownBlock ∨ v'.ownBlock = some W.heap.size) :=
  run_appV (m := [x]) h (at2_cells rfl h1 h2) (by simp; omega) hB
theorem run_appR1 {W : World} {B : Nat} {v : Value} {l : List Pc} (x : Pc) {g : Nat} (h : OwnT W B v l) (h1 : W.cell? ⟨g, 0, none⟩ = some x.1.v) (h2 : W.cell? ⟨g, 1, none⟩ = some (.float .f64 x.2)) (hn : l.length ≤ 1000000) (hB : B ≤ W.heap.size) :
    ∃ v' W', (Builtin.append_ #[26, 26] 26 #[v, .slice (some ⟨g, 0, none⟩) 1 1]).run Tryz.prog W = .ok v' W' ∧ OwnT W' B v' (l ++ [x]) ∧ W.grownBy W' v.ownBlock ∧ (v'.ownBlock = v.ownBlock ∨ v'.ownBlock = some W.heap.size) :=
  run_appR (m := [x]) h (at2_cells rfl h1 h2) (by simp; omega) hB
theorem own_some {v : Value} {o : Option Nat} (ho : o ≠ none) {s : Nat} (hv : v.ownBlock = o ∨ v.ownBlock = some s) : v.ownBlock ≠ none := by
  rcases hv with e | e <;> rw [e]
  · exact ho
  · simp
/-- a state of Normal's loop -/
structure NSt (w W : World) (v : Value) (cs : List Pc) (l : List Pt) (k : Nat) : Prop where
  p : PSt w W v cs ((l.take k).map canP)
  n : v.ownBlock ≠ none
  ok : okP (l.take k) = true
theorem NSt.gr {w W W' : World} {v : Value} {cs : List Pc} {l : List Pt} {k : Nat} (h : NSt w W v cs l k) (g : Gr W W') : NSt w W' v cs l k := ⟨h.p.gr g, h.n, h.ok⟩
theorem NSt.more {w W W' : World} {v v' : Value} {cs : List Pc} {l : List Pt} {k : Nat} (h : NSt w W v cs l k) (hk : k < l.length) {A : Option Addr} {c : Nat} {x1 : List Lb} {x2 : Nat} (hx : l[k] = (x1, x2)) (hl : LabsAt W A x1) (hoff : 0 < x1.length → ∀ b, (Value.slice A x1.length c).ownBlock = some b → v.ownBlock ≠ some b)
    (hr : rightB x1 = true) (ho : OwnT W' w.heap.size v' (cs ++ [((⟨A, x1.length, c⟩, Fv.canon x2) : Pc)])) (hg : W.grownBy W' v.ownBlock) (hv : v'.ownBlock = v.ownBlock ∨ v'.ownBlock = some W.heap.size) : NSt w W' v' (cs ++ [((⟨A, x1.length, c⟩, Fv.canon x2) : Pc)]) l (k + 1) := by
  refine ⟨?_, own_some h.n hv, by rw [okP_take hk, h.ok, hx]; exact hr⟩
  rw [List.take_succ_eq_append_getElem hk, List.map_append, hx]
  refine h.p.app (r := [canP (x1, x2)]) (Rds.one ⟨rfl, rfl, hl⟩) (fun j c' p hc hp h0 b hb => ?_) ho hg hv
  match j, hc, hp with
  | 0, hc, hp =>
    obtain rfl : _ = c' := by simpa using hc
    obtain rfl : _ = p := by simpa using hp
    exact hoff h0 b hb
theorem normal_end {l rs : List Pt} (hok : okP l = true) (hp : rs.Perm (l.map canP)) (hw : wsP rs) : (risB rs = true → norE l = 0 ∧ norV l = rs) ∧ (risB rs = false → norE l = 4 ∧ norV l = []) := by
  constructor
  · intro h
    obtain ⟨e, hn⟩ := ordP_of (by simpa [risB] using h) hp
    have := norE_0 hok (show nodB l = true by simpa [nodB] using hn)
    exact ⟨this.1, this.2.trans e.symm⟩
  · intro h
    refine norE_4 hok ?_
    cases hn : nodB l
    · rfl
    · exfalso
      have h1 : (l.map (·.1)).Nodup := by simpa [nodB] using hn
      have h2 : (rs.map (·.1)).Nodup := (hp.map (·.1)).nodup_iff.2 (by rw [map_can]; exact h1)
      have := hw.ris h2
      simp [risB, this] at h

theorem normal_any (A : Option Addr) (l : List Pt) (c : Nat) (w : World) (h : PtsAt w A l) (hs : SmP l) (ht : Fv.Tab w) :
    Calls Tryz.prog 12 #[.slice A l.length c] w (VPost (norV l) (norE l) w) := by
  obtain ⟨i0, hi, hz0, hz1, hz2⟩ := info_parts pt_info
  have HL := Lib.hid h; have HS := Lib.hid hs; have HT := Lib.hid ht
  have hlen : l.length ≤ 1000 := hs.1
  have HNo : Hid (okP l = false → norE l = 1 ∧ norV l = []) := Lib.hid norE_1
  clear h hs ht
  go_enter Tryz.func12, Tryz.ntmps12
  go_wp2_with (refine wpList_make_own _ rfl _ _ 27 rfl w.heap.size 45 i0 _ 2 Tryz.underlying27 hi hz0 hz1 .i64 .i64 (l.length : Int) l.length rfl rfl rfl (by rw [hz2]; omega) (by unfold maxLen; omega) (Nat.le_refl _) ?_; intro W0 hown0 hgr0)
  have HST : Hid (NSt w W0 (.slice (some ⟨w.heap.size, 0, none⟩) 0 l.length) [] l 0) := Lib.hid ⟨⟨(Gr.refl w).grown hgr0 (by simp), hown0, by simpa using Rds.nil _, fun k c p hc => by simp at hc⟩, by simp [Value.ownBlock], rfl⟩
  clear hown0 hgr0 hi hz0 hz1 hz2 i0
  go_loopw [4, 12] (fun v i wr => ∃ (k : Nat) (cs : List Pc), k ≤ l.length ∧ i = .int .i64 k ∧ Hid (NSt w wr v cs l k)) (fun _ i _ => l.length - (intOf i).toNat)
  case atStart => exact ⟨0, [], Nat.zero_le _, rfl, HST⟩
  case round =>
    obtain ⟨k, cs, hk, rfl, HG⟩ := hrel
    by_cases hlt : k < l.length
    · have hg := HG.out.p.g
      obtain ⟨b, o, s1, n1, rfl, c1, c2, la1, hbl⟩ := (HL.out.gr hg).cell hlt
      have m1 := HS.out.at_ hlt
      have outn : rightB (l[k]).1 = false → Hid (norE l = 1 ∧ norV l = []) := fun h => Lib.hid (HNo.out (okP_not hlt h))
      obtain ⟨x, hx⟩ : ∃ x, l[k] = x := ⟨_, rfl⟩
      rw [hx] at c1 c2 la1 m1 outn
      obtain ⟨x1, x2⟩ := x
      simp only at c1 c2 la1 m1 outn
      have ON := Lib.hid outn
      have HX := Lib.hid hx
      have m2 : x1.length ≤ 1000 := m1.1
      obtain ⟨W2, hW2, g2, hb2⟩ := fresh wr #[.slice s1 x1.length n1, .float .f64 x2] 45
      have d1 := hb2 0 _ rfl
      have d2 := hb2 1 _ rfl
      have HW2 := Lib.hid hW2
      have CC := Lib.hid (right_any s1 x1 n1 W2 (la1.gr g2) m1.2 (by omega))
      have CL := Lib.hid (fun W (g : Gr W2 W) => cloneF_any s1 x1 n1 W ((la1.gr g2).gr g) (by omega))
      have HGA := Lib.hid (hg.trans g2)
      have HG2 := Lib.hid (HG.out.gr g2)
      have hcs : cs.length ≤ 1000 := by rw [HG.out.p.rds.len]; simp; omega
      obtain ⟨P, hP⟩ : ∃ P, wr.heap.size = P := ⟨_, rfl⟩
      simp only [hP] at d1 d2
      have HP := Lib.hid hP
      have HNE : Hid (some P ≠ u4.ownBlock) := Lib.hid (fun e => by have := (HG.out.p.row.lt e.symm).2; omega)
      clear hx outn la1 m1 hW2 hb2 HG hg hP
      obtain ⟨v, hv⟩ : ∃ v, rightB x1 = v := ⟨_, rfl⟩
      rw [hv] at CC
      cases v
      · have HN := ON.out hv
        clear hv
        go_upto_region 5 with fail
        rw [HW2.out, HP.out]
        go_wp2_with fail
        refine CC.out.mono ?_
        rintro e w3 ⟨rfl, g3⟩
        go_wp2
        go_ret2
        exact ⟨none, 0, by rw [HN.out.1, HN.out.2]; rfl, by rw [HN.out.2]; exact PtsAt.nil _ _, by rw [HN.out.2]; simp, by unfold maxLen; omega, HGA.out.trans g3⟩
      · have HV := Lib.hid hv
        clear hv
        go_upto_region 5 with fail
        rw [HW2.out, HP.out]
        go_wp2_with fail
        refine CC.out.mono ?_
        rintro e w3 ⟨rfl, g3⟩
        have e1 := g3.cell d1
        have e2 := g3.cell d2
        have CL3 := Lib.hid (fun W (g : Gr w3 W) => CL.out W (g3.trans g))
        have HT3 := Lib.hid ((HT.out.gv HGA.out).gv g3)
        have HG3 := Lib.hid (HG2.out.gr g3)
        clear d1 d2 CC g2
        go_wp2_with fail
        go_region_held3 (fun w' => w'.cell? ⟨P, 0, none⟩ = some (.slice s1 x1.length n1) ∧ w'.cell? ⟨P, 1, none⟩ = some (.float .f64 x2))
          (first | exact ksl | exact ks7 | exact ⟨e1, e2⟩ | go_keep)
          (first
            | (go_simp
               go_at_call 34
               refine (CL3.out _ (Gr.refl _).drew).mono ?_
               rintro e w4 ⟨A1, c1', rfl, hl4, g4, hf4⟩
               have gl5 : Gr w3 w4 := (Gr.refl _).drew.trans g4
               have ksl : w4.cell? ⟨P, 0, none⟩ = some (.slice s1 x1.length n1) ∧ w4.cell? ⟨P, 1, none⟩ = some (.float .f64 x2) := ⟨gl5.cell e1, gl5.cell e2⟩)
            | (go_simp
               go_at_call 35
               refine (Fv.canon_any _ _ (by first | exact HT3.out.gv gl5 | exact HT3.out.drew)).mono ?_
               rintro e w5 ⟨rfl, rfl⟩)
            | (refine step_app2 rfl (.tmp 20) (.tmp 28) (by rfl) (by rfl) (by rfl) (by rfl) (run_appV1 (B := w.heap.size) (l := cs) ((⟨A1, x1.length, c1'⟩, Fv.canon x2) : Pc) ?_ ?_ ?_ ?_ ?_) ?_
               · exact (HG3.out.gr (gl5.alloc _ _)).p.row
               · show _ = some (Value.slice A1 x1.length c1')
                 go_simp
               · show _ = some (Value.float .f64 (Fv.canon x2))
                 go_simp
               · omega
               · exact (HG3.out.gr (gl5.alloc _ _)).p.g.size
               rintro v7 w7 ⟨ho7, hg7, hv7⟩
               have ks7 : w7.cell? ⟨P, 0, none⟩ = some (.slice s1 x1.length n1) ∧ w7.cell? ⟨P, 1, none⟩ = some (.float .f64 x2) := ⟨hg7.cell (((Gr.refl _).alloc _ _).cell ksl.1) HNE.out, hg7.cell (((Gr.refl _).alloc _ _).cell ksl.2) HNE.out⟩))
        have HN : Hid (NSt w w7 v7 (cs ++ [((⟨A1, x1.length, c1'⟩, Fv.canon x2) : Pc)]) l (k + 1)) :=
          Lib.hid ((HG3.out.gr (gl5.alloc _ _)).more hlt HX.out (hl4.gr ((Gr.refl _).alloc _ _)) (fun h0 b hb e => by
            have h1 := hf4 h0 b hb
            have h2 := (HG3.out.p.row.lt e).2
            have h3 : w3.drew.heap.size = w3.heap.size := rfl
            omega) HV.out ho7 hg7 hv7)
        clear ho7 hg7 hv7 ks7 ksl hf4 hl4 g4 gl5
        go_wp2_with fail
        go_roundw
        case rel => exact ⟨k + 1, _, by omega, by go_num, HN⟩
        case measure => simp [intOf]; omega
    · obtain rfl : k = l.length := by omega
      have HOK : Hid (okP l = true) := Lib.hid (by have := HG.out.ok; rwa [List.take_length] at this)
      have hp := HG.out.p
      rw [List.take_length] at hp
      obtain ⟨g, cap, cur, e, hgb⟩ := hp.row.heap HG.out.n
      subst e
      have HP := Lib.hid hp
      have HSMP : Hid (SmP (l.map canP)) := Lib.hid (HS.out.sub (by simp) fun p hp => by obtain ⟨q, hq, rfl⟩ := List.mem_map.1 hp; exact ⟨q, hq, rfl⟩)
      have HSO := Lib.hid (sortV_any g cap cs (l.map canP) wr hp.row.row hp.rds HSMP.out (Array.getElem?_eq_some_iff.1 hgb).1 (fun j c p hc hp2 h0 e => hp.off j c p hc hp2 h0 g e rfl))
      have HGW : Hid (w.heap.size ≤ g) := Lib.hid (hp.row.lt rfl).1
      have hcl : cs.length = l.length := by rw [hp.rds.len]; simp
      have HCL := Lib.hid hcl
      have hcm : l.length ≤ cap ∧ cap ≤ maxLen := by
        obtain ⟨A, c, e, -, h1, h2, -⟩ := hp.at_
        injection e with e1 e2 e3
        subst e3
        simp at h1
        exact ⟨h1, h2⟩
      have HCM := Lib.hid hcm
      clear hp hgb HG hcl hcm
      go_wp2_with fail
      refine HSO.out.mono ?_
      rintro e w1 ⟨rfl, rs, hrs, hperm, hws, hgr⟩
      have hrl : cs.length = rs.length := by rw [hperm.length_eq, HCL.out]; simp
      have HSR : Hid (SmP rs) := Lib.hid (HSMP.out.sub (by rw [hperm.length_eq]; omega) fun p hp => ⟨p, hperm.mem_iff.1 hp, rfl⟩)
      have HE := Lib.hid (normal_end HOK.out hperm hws)
      have HG1 : Hid (Gr w w1) := Lib.hid (HP.out.g.grown hgr (fun k hk => by cases hk; exact HGW.out))
      have HRS := Lib.hid hrs
      have HRI := Lib.hid (rises_any (some ⟨g, 0, none⟩) rs cap w1 hrs HSR.out)
      rw [← hrl] at HRI
      have HRL := Lib.hid hrl
      clear hrs hperm hws hgr hrl HSO
      obtain ⟨v, hv⟩ : ∃ v, risB rs = v := ⟨_, rfl⟩
      rw [hv] at HE HRI
      clear hv
      cases v
      · have HN := Lib.hid (HE.out.2 rfl)
        go_wp2_with fail
        refine HRI.out.mono ?_
        rintro e w3 ⟨rfl, g3⟩
        go_wp2
        go_ret2
        exact ⟨none, 0, by rw [HN.out.1, HN.out.2]; rfl, by rw [HN.out.2]; exact PtsAt.nil _ _, by rw [HN.out.2]; simp, by unfold maxLen; omega, HG1.out.trans g3⟩
      · have HN := Lib.hid (HE.out.1 rfl)
        go_wp2_with fail
        refine HRI.out.mono ?_
        rintro e w3 ⟨rfl, g3⟩
        go_wp2
        go_ret2
        exact ⟨some ⟨g, 0, none⟩, cap, by rw [HN.out.1, HN.out.2, ← HRL.out]; rfl, by rw [HN.out.2]; exact HRS.out.gr g3, by rw [HN.out.2, ← HRL.out, HCL.out]; exact HCM.out.1, HCM.out.2, HG1.out.trans g3⟩
end Go.Proofs.YtllhkegefinlbaaGreatDoor.Pt
