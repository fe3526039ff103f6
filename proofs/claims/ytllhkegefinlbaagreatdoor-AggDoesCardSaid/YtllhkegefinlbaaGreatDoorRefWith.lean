/- With, the reference's; Group, the program's. -/
import Derived.Test.YtllhkegefinlbaaGreatDoorApp
import Derived.Test.YtllhkegefinlbaaGreatDoorText
import Derived.Test.YtllhkegefinlbaaGreatDoorRefRight
namespace Go.Proofs.YtllhkegefinlbaaGreatDoor
open Go.RowKit Go.Sort
set_option maxRecDepth 100000
set_option maxHeartbeats 4000000

theorem putL_at {l : List Lb} {x : Lb} {k : Nat} (h1 : ∀ y ∈ l.take k, ltS y.1 x.1 = true) (h2 : k = l.length ∨ ∃ h : k < l.length, ltS (l[k]).1 x.1 = false) : putL l x = l.take k ++ [x] ++ l.drop k := by
  have hd : (l.drop k).dropWhile (fun y => ltS y.1 x.1) = l.drop k ∧ (l.drop k).takeWhile (fun y => ltS y.1 x.1) = [] := by
    rcases h2 with rfl | ⟨h, h2⟩
    · simp
    · rw [drop_lab h, List.dropWhile_cons_of_neg (by simp [h2]), List.takeWhile_cons_of_neg (by simp [h2])]; exact ⟨rfl, rfl⟩
  have ht : ∀ r : List Lb, (∀ y ∈ r, ltS y.1 x.1 = true) → ∀ q, (r ++ q).takeWhile (fun y => ltS y.1 x.1) = r ++ q.takeWhile (fun y => ltS y.1 x.1) ∧ (r ++ q).dropWhile (fun y => ltS y.1 x.1) = q.dropWhile (fun y => ltS y.1 x.1) := by
    intro r hr q
    induction r with
    | nil => simp
    | cons a r ih =>
      have ha := hr a List.mem_cons_self
      obtain ⟨i1, i2⟩ := ih fun y hy => hr y (List.mem_cons_of_mem _ hy)
      simp [ha, i1, i2]
  obtain ⟨t1, t2⟩ := ht _ h1 (l.drop k)
  rw [List.take_append_drop] at t1 t2
  unfold putL
  rw [t1, t2, hd.1, hd.2]; simp
end Go.Proofs.YtllhkegefinlbaaGreatDoor
namespace Go.Proofs.YtllhkegefinlbaaGreatDoor
open Go.RowKit Go.Sort
set_option maxRecDepth 100000
set_option maxHeartbeats 4000000

theorem setL_snoc (r : List Lb) (x : Lb) : setL (r ++ [x]) = if full x then putL (setL r) x else setL r := by
  unfold setL
  rw [List.filter_append]
  cases h : full x
  · rw [List.filter_cons_of_neg (by simp [h])]; simp
  · rw [List.filter_cons_of_pos h, List.foldl_append]; simp
def noDup (l : List Lb) (k j : Nat) : Prop := ∀ t x y, t < j → l[t]? = some x → l[k]? = some y → x.1 ≠ y.1
theorem setP_s {l : List Lb} {k : Nat} {x : Lb} (hx : l[k]? = some x) (h : setP (l.take k)) (ho : okN x = true) (hd : noDup l k k) : setP (l.take (k + 1)) := by
  obtain ⟨hk, rfl⟩ := List.getElem?_eq_some_iff.1 hx
  rw [List.take_succ_eq_append_getElem hk]
  refine ⟨fun y hy => ?_, ?_⟩
  · rcases List.mem_append.1 hy with hy | hy
    · exact h.1 y hy
    · rw [List.mem_singleton] at hy; rw [hy]; exact ho
  · rw [List.map_append, List.nodup_append]
    refine ⟨h.2, by simp, fun a ha b hb => ?_⟩
    obtain ⟨y, hy, rfl⟩ := List.mem_map.1 ha
    obtain rfl : b = (l[k]).1 := by simpa using hb
    obtain ⟨t, ht, rfl⟩ := List.getElem_of_mem hy
    simp only [List.length_take] at ht
    rw [List.getElem_take]
    exact hd t _ _ (by omega) (List.getElem?_eq_getElem (by omega)) hx
theorem setP_dup {l : List Lb} {k j : Nat} {x y : Lb} (hx : l[j]? = some x) (hy : l[k]? = some y) (hj : j < k) (e : x.1 = y.1) : ¬ setP l := by
  intro hp
  obtain ⟨hj', rfl⟩ := List.getElem?_eq_some_iff.1 hx
  obtain ⟨hk', rfl⟩ := List.getElem?_eq_some_iff.1 hy
  have := hp.2
  unfold List.Nodup at this
  rw [List.pairwise_map, List.pairwise_iff_getElem] at this
  exact this j k hj' hk' hj e

end Go.Proofs.YtllhkegefinlbaaGreatDoor
namespace Go.Proofs.YtllhkegefinlbaaGreatDoor
open Go.RowKit Go.Sort
set_option maxRecDepth 100000
set_option maxHeartbeats 4000000

def nmsB (ns : List ByteArray) : Bool := ns.all fun x => decide (x.size ≤ 400)
theorem nms_not {ns : List ByteArray} {k : Nat} (h : k < ns.length) (g : 400 < (ns[k]).size) : nmsB ns = false := by
  unfold nmsB
  rw [List.all_eq_false]
  exact ⟨_, List.getElem_mem h, by simpa using g⟩
theorem nms_all {ns : List ByteArray} (h : ∀ i x, i < ns.length → ns[i]? = some x → x.size ≤ 400) : nmsB ns = true := by
  unfold nmsB
  rw [List.all_eq_true]
  intro x hx
  obtain ⟨i, hi, rfl⟩ := List.getElem_of_mem hx
  simpa using h i _ hi (List.getElem?_eq_getElem hi)
def nmsTo (ns : List ByteArray) (k : Nat) : Prop := ∀ i x, i < k → ns[i]? = some x → x.size ≤ 400
theorem nmsTo_s {ns : List ByteArray} {k : Nat} (hk : k < ns.length) (h : nmsTo ns k) (g : (ns[k]).size ≤ 400) : nmsTo ns (k + 1) := fun i x hi hx => by
  by_cases e : i = k
  · subst e; rw [List.getElem?_eq_getElem hk] at hx; cases hx; exact g
  · exact h i x (by omega) hx
end Go.Proofs.YtllhkegefinlbaaGreatDoor
namespace Go.Proofs.YtllhkegefinlbaaGreatDoor
open Go.RowKit Go.Sort
set_option maxRecDepth 100000
set_option maxHeartbeats 4000000

theorem strs_one (W : World) (x : ByteArray) : StrsAt (W.alloc (.cells #[.string x] 9)) (some ⟨W.heap.size, 0, none⟩) [x] := fun _ =>
  ⟨W.heap.size, 0, rfl, fun i y hy => by
    match i, hy with
    | 0, hy =>
      obtain rfl : x = y := by simpa using hy
      go_simp⟩
def outL (l : List Lb) (nm vl : ByteArray) : List Lb := if vl.size = 0 then pickL l [nm] false else putL (pickL l [nm] false) (nm, vl)
def withL (l : List Lb) (nm vl : ByteArray) : List Lb := if rightB (outL l nm vl) then outL l nm vl else l
theorem pickL_wd {l : List Lb} (h : Wd l) (ns : List ByteArray) (am : Bool) : Wd (pickL l ns am) := fun x hx => h x (List.mem_filter.1 hx).1
theorem putL_len (l : List Lb) (x : Lb) : (putL l x).length = l.length + 1 := by rw [(putL_perm l x).length_eq]; rfl
theorem outL_len (l : List Lb) (nm vl : ByteArray) : (outL l nm vl).length ≤ l.length + 1 := by
  unfold outL
  have := pickL_len l [nm] false
  split
  · omega
  · rw [putL_len]; omega
theorem outL_wd {l : List Lb} (h : Wd l) {nm vl : ByteArray} (h1 : nm.size ≤ maxLen) (h2 : vl.size ≤ maxLen) : Wd (outL l nm vl) := by
  unfold outL
  split
  · exact pickL_wd h _ _
  · intro x hx
    rcases List.mem_cons.1 ((putL_perm _ _).mem_iff.1 hx) with rfl | hx
    · exact ⟨h1, h2⟩
    · exact pickL_wd h _ _ x hx
def ListPost (l : List Lb) (w : World) (e : Ending) (w' : World) : Prop := ∃ A c, e = .returned (.slice A l.length c) ∧ LabsAt w' A l ∧ Gr w w'

/-- what With hands back: what it was handed, or labels in new memory -/
def RwPost (A0 : Option Addr) (l0 l : List Lb) (w : World) (e : Ending) (w' : World) : Prop :=
  ∃ A c, e = .returned (.slice A l.length c) ∧ LabsAt w' A l ∧ Gr w w' ∧ ((A = A0 ∧ l = l0) ∨ ∀ b, (Value.slice A l.length c).ownBlock = some b → w.heap.size ≤ b)
/-! Group -/
def groupL (l : List Lb) (how : Int) (ns : List ByteArray) : List Lb := if how = 1 then pickL l ns true else if how = 2 then pickL l (nmB :: ns) false else []
theorem pick_two (l : List Lb) (ns : List ByteArray) : pickL (pickL l ns false) [nmB] false = pickL l (nmB :: ns) false := by
  unfold pickL
  rw [List.filter_filter]
  congr 1
  funext x
  unfold hasN
  simp only [List.any_cons, List.any_nil, Bool.or_false]
  cases (x.1.toList == nmB.toList) <;> cases (ns.any fun m => x.1.toList == m.toList) <;> rfl
/-- what Group hands back: labels in new memory -/
def NewPost (l : List Lb) (w : World) (e : Ending) (w' : World) : Prop := ∃ A c, e = .returned (.slice A l.length c) ∧ LabsAt w' A l ∧ Gr w w' ∧ ∀ b, (Value.slice A l.length c).ownBlock = some b → w.heap.size ≤ b
theorem groupF_any (A N : Option Addr) (l : List Lb) (ns : List ByteArray) (c d : Nat) (how : Int) (w : World) (h : LabsAt w A l) (hs : StrsAt w N ns) (hl : l.length ≤ 549755813888) (hn : ns.length ≤ 1099511627776) :
    Calls Tryz.prog 43 #[.slice A l.length c, .agg #[.int .i64 how, .slice N ns.length d]] w (NewPost (groupL l how ns) w) := by
  have B1 : Gr w (w.alloc (.cells #[.int .i64 how, .slice N ns.length d] 24)) := (Gr.refl w).alloc _ _
  have CK := Lib.hid (keep_any A N l ns c d _ (h.gr B1) (hs.gr B1) hl hn)
  have CD := Lib.hid (drop_any A N l ns c d _ (h.gr B1) (hs.gr B1) hl hn)
  have HB := Lib.hid B1
  clear h hs B1
  by_cases e1 : how = 1
  · subst e1
    have HG : Hid (groupL l 1 ns = pickL l ns true) := Lib.hid rfl
    go_enter Tryz.func43, Tryz.ntmps43
    go_wp2_with fail
    refine CK.out.mono ?_
    rintro e w1 ⟨v1, rfl, hown, hg⟩
    obtain ⟨A1, c1, rfl, hl1, -⟩ := hown.form
    have HB1 : Hid (∀ b, (Value.slice A1 (pickL l ns true).length c1).ownBlock = some b → w.heap.size ≤ b) := Lib.hid (fun b hb => by have := (hown.lt (k := b) hb).1; simp at this; omega)
    have HL1 := Lib.hid hl1
    clear hown hl1
    go_wp2
    go_ret
    exact ⟨_, _, by rw [HG.out]; rfl, by rw [HG.out]; exact HL1.out, HB.out.trans hg, by rw [HG.out]; exact HB1.out⟩
  by_cases e2 : how = 2
  · subst e2
    have HG : Hid (groupL l 2 ns = pickL (pickL l ns false) [nmB] false) := Lib.hid (by rw [pick_two]; rfl)
    have hpl := pickL_len l ns false
    go_enter Tryz.func43, Tryz.ntmps43
    go_wp2_with fail
    refine CD.out.mono ?_
    rintro e w1 ⟨v1, rfl, hown, hg⟩
    obtain ⟨A1, c1, rfl, hl1, -⟩ := hown.form
    have HZ : Hid (w.heap.size ≤ w1.heap.size) := Lib.hid (HB.out.trans hg).size
    have CD2 := Lib.hid (drop_any A1 (some ⟨w1.heap.size, 0, none⟩) _ [nmB] c1 1 (w1.alloc (.cells #[.string nmB] 9)) (hl1.gr ((Gr.refl w1).alloc _ _)) (strs_one w1 nmB) (by omega) (by simp))
    clear hown hl1
    go_wp2_with fail
    refine CD2.out.mono ?_
    rintro e w2 ⟨v2, rfl, hown2, hg2⟩
    obtain ⟨A2, c2, rfl, hl2, -⟩ := hown2.form
    have HB2 : Hid (∀ b, (Value.slice A2 (pickL (pickL l ns false) [nmB] false).length c2).ownBlock = some b → w.heap.size ≤ b) := Lib.hid (fun b hb => by have := (hown2.lt (k := b) hb).1; have := HZ.out; simp at *; omega)
    have HL2 := Lib.hid hl2
    clear hown2 hl2
    go_wp2
    go_ret
    exact ⟨_, _, by rw [HG.out]; rfl, by rw [HG.out]; exact HL2.out, (HB.out.trans hg).trans (((Gr.refl w1).alloc _ _).trans hg2), by rw [HG.out]; exact HB2.out⟩
  · have HG : Hid (groupL l how ns = []) := Lib.hid (by unfold groupL; rw [if_neg e1, if_neg e2])
    have d1 : (how == 1) = false := by simpa using e1
    have d2 : (how == 2) = false := by simpa using e2
    go_enter Tryz.func43, Tryz.ntmps43
    go_wp2
    go_ret
    exact ⟨_, _, by rw [HG.out]; rfl, by rw [HG.out]; exact LabsAt.none_ _ _, HB.out, fun b hb => by simp [Value.ownBlock] at hb⟩
theorem group_any (A N : Option Addr) (l : List Lb) (ns : List ByteArray) (c d : Nat) (how : Int) (w : World) (h : LabsAt w A l) (hs : StrsAt w N ns) (hl : l.length ≤ 549755813888) (hn : ns.length ≤ 1099511627776) :
    Calls Tryz.prog 43 #[.slice A l.length c, .agg #[.int .i64 how, .slice N ns.length d]] w (ListPost (groupL l how ns) w) :=
  (groupF_any A N l ns c d how w h hs hl hn).mono fun _ _ ⟨A', c', h1, h2, h3, _⟩ => ⟨A', c', h1, h2, h3⟩
end Go.Proofs.YtllhkegefinlbaaGreatDoor
