/- With, the reference's; Group, the program's. -/
import Derived.Test.YtoooaipbkkiefaaDoorNames
import Derived.Test.YtoooaipbkkiefaaDoorRefRight
namespace Go.Proofs.YtoooaipbkkiefaaDoor
open Go.RowKit Go.Sort
set_option maxRecDepth 100000
set_option maxHeartbeats 4000000

theorem strs_one (W : World) (x : ByteArray) : StrsAt (W.alloc (.cells #[.string x] 9)) (some ⟨W.heap.size, 0, none⟩) [x] := fun _ =>
  ⟨W.heap.size, 0, rfl, fun i y hy => by
    match i, hy with
    | 0, hy =>
      obtain rfl : x = y := by simpa using hy
      go_simp⟩
def outL (l : List Lb) (nm vl : ByteArray) : List Lb := if vl.size = 0 then pickL l [nm] false else putL (pickL l [nm] false) (nm, vl)
def withL (l : List Lb) (nm vl : ByteArray) : List Lb := if rightB (outL l nm vl) then outL l nm vl else l
theorem pickL_wd {l : List Lb} (h : Wd l) (ns : List ByteArray) (am : Bool) : Wd (pickL l ns am) := fun x hx => h x (List.mem_filter.1 hx).1
theorem putL_len (l : List Lb) (x : Lb) : (putL l x).length = l.length + 1 := by rw [(putL_perm l x).length_eq]; rfl
theorem outL_len (l : List Lb) (nm vl : ByteArray) : (outL l nm vl).length ≤ l.length + 1 := by
  unfold outL
  have := pickL_len l [nm] false
  split
  · omega
  · rw [putL_len]; omega
theorem outL_wd {l : List Lb} (h : Wd l) {nm vl : ByteArray} (h1 : nm.size ≤ maxLen) (h2 : vl.size ≤ maxLen) : Wd (outL l nm vl) := by
  unfold outL
  split
  · exact pickL_wd h _ _
  · intro x hx
    rcases List.mem_cons.1 ((putL_perm _ _).mem_iff.1 hx) with rfl | hx
    · exact ⟨h1, h2⟩
    · exact pickL_wd h _ _ x hx
def ListPost (l : List Lb) (w : World) (e : Ending) (w' : World) : Prop := ∃ A c, e = .returned (.slice A l.length c) ∧ LabsAt w' A l ∧ Gr w w'

/-- what With hands back: what it was handed, or labels in new memory -/
def RwPost (A0 : Option Addr) (l0 l : List Lb) (w : World) (e : Ending) (w' : World) : Prop :=
  ∃ A c, e = .returned (.slice A l.length c) ∧ LabsAt w' A l ∧ Gr w w' ∧ ((A = A0 ∧ l = l0) ∨ ∀ b, (Value.slice A l.length c).ownBlock = some b → w.heap.size ≤ b)
theorem rWithF_any (A : Option Addr) (l : List Lb) (c : Nat) (nm vl : ByteArray) (w : World) (h : LabsAt w A l) (hw : Wd l) (hl : l.length ≤ 549755813887) (h1 : nm.size ≤ maxLen) (h2 : vl.size ≤ maxLen) :
    Calls Tryd.prog 56 #[.slice A l.length c, .string nm, .string vl] w (RwPost A l (withL l nm vl) w) := by
  have HL := Lib.hid h
  have CD := Lib.hid (rDrop_any A (some ⟨w.heap.size, 0, none⟩) l [nm] c 1 (w.alloc (.cells #[.string nm] 9)) (h.gr ((Gr.refl w).alloc _ _)) (strs_one w nm) (by omega) (by simp))
  have hWO := outL_wd hw h1 h2
  have hLO := outL_len l nm vl
  have hPL := pickL_len l [nm] false
  clear h hw
  obtain ⟨O, hO⟩ : ∃ O, outL l nm vl = O := ⟨_, rfl⟩
  have HW : Hid (withL l nm vl = if rightB O then O else l) := Lib.hid (by unfold withL; rw [hO])
  rw [hO] at hWO hLO
  have CR := Lib.hid (fun A' c' W (g : LabsAt W A' O) => rRight_any A' O c' W g hWO (by omega))
  obtain ⟨rb, hrb⟩ : ∃ rb, rightB O = rb := ⟨_, rfl⟩
  rw [hrb] at CR HW
  by_cases h0 : vl.size = 0
  · have hO2 : pickL l [nm] false = O := by rw [← hO]; unfold outL; rw [if_pos h0]
    rw [hO2] at CD hPL
    obtain rfl := empty_eq h0
    clear h0 hO hO2 hrb hWO h1 h2
    cases rb
    all_goals
      go_enter Tryd.func56, Tryd.ntmps56
      go_wp2_with fail
      refine CD.out.mono ?_
      rintro e w1 ⟨v1, rfl, hown, hg⟩
      obtain ⟨A1, c1, rfl, hl1, -⟩ := hown.form
      have HB1 : Hid (∀ b, (Value.slice A1 O.length c1).ownBlock = some b → w.heap.size ≤ b) := Lib.hid (fun b hb => by have := (hown.lt (k := b) hb).1; simp at this; omega)
      have HL1 := Lib.hid hl1
      have HG1 : Hid (Gr w w1) := Lib.hid (((Gr.refl w).alloc _ _).trans hg)
      clear hown hl1 hg
      go_wp2_with fail
      refine (CR.out _ _ _ HL1.out).mono ?_
      rintro e w2 ⟨rfl, hg2⟩
      have HG2 := Lib.hid (HG1.out.trans hg2)
      have HL2 := Lib.hid (HL1.out.gr hg2)
      clear hg2
      go_wp2
      go_ret
      first
        | exact ⟨_, _, by rw [HW.out]; rfl, by rw [HW.out]; exact HL.out.gr HG2.out, HG2.out, .inl ⟨rfl, by rw [HW.out]; rfl⟩⟩
        | exact ⟨_, _, by rw [HW.out]; rfl, by rw [HW.out]; exact HL2.out, HG2.out, .inr (by rw [HW.out]; exact HB1.out)⟩
  · have hO2 : putL (pickL l [nm] false) (nm, vl) = O := by rw [← hO]; unfold outL; rw [if_neg h0]
    obtain ⟨n1, n2, n3⟩ := ne_facts (by omega : 0 < vl.size)
    obtain ⟨P, hP⟩ : ∃ P, pickL l [nm] false = P := ⟨_, rfl⟩
    rw [hP] at CD hPL hO2
    have CP := Lib.hid (fun v W (g : Reads W v P) => put_any v P (nm, vl) W g (by omega))
    rw [hO2] at CP
    clear h0 hO hO2 hrb hWO h1 h2 hP
    cases rb
    all_goals
      go_enter Tryd.func56, Tryd.ntmps56
      go_wp2_with fail
      refine CD.out.mono ?_
      rintro e w1 ⟨v1, rfl, hown, hg⟩
      have HR := Lib.hid hown.reads
      obtain ⟨A1, c1, rfl, -, -⟩ := hown.form
      have HG1 : Hid (Gr w w1) := Lib.hid (((Gr.refl w).alloc _ _).trans hg)
      clear hown hg
      go_wp2_with fail
      refine (CP.out _ _ HR.out).mono ?_
      rintro e w2 ⟨v2, rfl, hown2, hg2⟩
      obtain ⟨A2, c2, rfl, hl2, -⟩ := hown2.form
      have HB2 : Hid (∀ b, (Value.slice A2 O.length c2).ownBlock = some b → w.heap.size ≤ b) := Lib.hid (fun b hb => by have := (hown2.lt (k := b) hb).1; have := HG1.out.size; omega)
      have HL2 := Lib.hid hl2
      have HG2 := Lib.hid (HG1.out.trans hg2)
      clear hown2 hl2 hg2
      go_wp2_with fail
      refine (CR.out _ _ _ HL2.out).mono ?_
      rintro e w3 ⟨rfl, hg3⟩
      have HG3 := Lib.hid (HG2.out.trans hg3)
      have HL3 := Lib.hid (HL2.out.gr hg3)
      clear hg3
      go_wp2
      go_ret
      first
        | exact ⟨_, _, by rw [HW.out]; rfl, by rw [HW.out]; exact HL.out.gr HG3.out, HG3.out, .inl ⟨rfl, by rw [HW.out]; rfl⟩⟩
        | exact ⟨_, _, by rw [HW.out]; rfl, by rw [HW.out]; exact HL3.out, HG3.out, .inr (by rw [HW.out]; exact HB2.out)⟩
theorem rWith_any (A : Option Addr) (l : List Lb) (c : Nat) (nm vl : ByteArray) (w : World) (h : LabsAt w A l) (hw : Wd l) (hl : l.length ≤ 549755813887) (h1 : nm.size ≤ maxLen) (h2 : vl.size ≤ maxLen) :
    Calls Tryd.prog 56 #[.slice A l.length c, .string nm, .string vl] w (ListPost (withL l nm vl) w) :=
  (rWithF_any A l c nm vl w h hw hl h1 h2).mono fun _ _ ⟨A', c', h1, h2, h3, _⟩ => ⟨A', c', h1, h2, h3⟩

/-! Group -/
def groupL (l : List Lb) (how : Int) (ns : List ByteArray) : List Lb := if how = 1 then pickL l ns true else if how = 2 then pickL l (nmB :: ns) false else []
theorem pick_two (l : List Lb) (ns : List ByteArray) : pickL (pickL l ns false) [nmB] false = pickL l (nmB :: ns) false := by
  unfold pickL
  rw [List.filter_filter]
  congr 1
  funext x
  unfold hasN
  simp only [List.any_cons, List.any_nil, Bool.or_false]
  cases (x.1.toList == nmB.toList) <;> cases (ns.any fun m => x.1.toList == m.toList) <;> rfl
end Go.Proofs.YtoooaipbkkiefaaDoor
