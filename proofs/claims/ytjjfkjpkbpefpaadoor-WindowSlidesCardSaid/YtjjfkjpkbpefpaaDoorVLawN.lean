/- What is known; WindowNames' walk. -/
import Derived.Test.YtjjfkjpkbpefpaaDoorVKnown
namespace Go.Proofs.YtjjfkjpkbpefpaaDoor.Vn
open Go.RowKit
set_option maxRecDepth 100000
set_option maxHeartbeats 4000000

def s0 : List Sm := [(1, 4617315517961601024), (2, 4619567317775286272), (3, 4607182418800017408)]
theorem s0_fn : fnP 8 s0 0 3 = some 4613937818241073152 := by decide +kernel
theorem s0_cut : (strL s0 1 2).length = 1 := by decide +kernel
theorem rate_is : namedN ⟨#[114, 97, 116, 101]⟩ = 9 := by decide +kernel
theorem s0_at (w : World) : At2 encP (w.alloc (.cells #[.int .i64 1, .float .f64 4617315517961601024, .int .i64 2, .float .f64 4619567317775286272, .int .i64 3, .float .f64 4607182418800017408] 34)) (some ⟨w.heap.size, 0, none⟩) s0 := fun _ => ⟨_, 0, rfl, fun i x hx u v hu => by
  rw [World.cell?_alloc_at _ _ _ _ (by simp), World.cell?_alloc_at _ _ _ _ (by simp)]
  match i, hx with
  | 0, hx => simp [s0] at hx; subst hx; simp [encP] at hu; obtain ⟨rfl, rfl⟩ := hu; exact ⟨rfl, rfl⟩
  | 1, hx => simp [s0] at hx; subst hx; simp [encP] at hu; obtain ⟨rfl, rfl⟩ := hu; exact ⟨rfl, rfl⟩
  | 2, hx => simp [s0] at hx; subst hx; simp [encP] at hu; obtain ⟨rfl, rfl⟩ := hu; exact ⟨rfl, rfl⟩
  | n + 3, hx => simp [s0] at hx⟩
theorem s0_h (w : World) (ht : Tab w) (hf : FTab w) : SmpH (w.alloc (.cells #[.int .i64 1, .float .f64 4617315517961601024, .int .i64 2, .float .f64 4619567317775286272, .int .i64 3, .float .f64 4607182418800017408] 34)) (some ⟨w.heap.size, 0, none⟩) 3 s0 :=
  ⟨ht.gv ((Gr.refl w).alloc _ _), hf.gr ((Gr.refl w).alloc _ _), s0_at w, by decide, by decide, by unfold AscT s0; decide, by decide⟩
theorem known_any (w : World) (ht : Tab w) (hf : FTab w) :
    Calls Tryd.prog 9 #[] w fun e w' => e = .returned (.bool true) ∧ Gr w w' := by
  have HH := Lib.hid (s0_h w ht hf)
  obtain ⟨X, hX, g0, -⟩ := fresh w #[.int .i64 1, .float .f64 4617315517961601024, .int .i64 2, .float .f64 4619567317775286272, .int .i64 3, .float .f64 4607182418800017408] 34
  rw [hX] at HH
  have HX := Lib.hid hX; have G0 := Lib.hid g0
  have CF := Lib.hid (Fn_any 8 (some ⟨w.heap.size, 0, none⟩) 3 s0 0 3 X HH.out (by omega) (by omega))
  unfold FnPost at CF
  rw [s0_fn] at CF
  have CN := Lib.hid (fun W (g : Gr X W) => Named_any ⟨#[114, 97, 116, 101]⟩ W (HH.out.hf.gr g))
  have hr : namV ⟨#[114, 97, 116, 101]⟩ = .tuple #[.int .i64 9, .bool true] := by unfold namV; rw [rate_is]; rfl
  rw [hr] at CN
  have CNm : Hid (∀ W, Gr X W → Calls Tryd.prog 21 #[.int .i64 13] W fun e w' => e = .returned (.string ⟨#[119, 97, 118, 101, 95, 109, 97, 103]⟩) ∧ W = w') := Lib.hid fun W g => Name_any 13 W (HH.out.hf.gr g)
  have CC := Lib.hid (fun W (g : Gr X W) => Cut_any (some ⟨w.heap.size, 0, none⟩) 3 s0 1 2 W (HH.out.at_.gr g) HH.out.asc (by decide) (by decide))
  unfold CutP at CC
  rw [s0_cut] at CC
  have CF2 : Hid (Calls Tryd.prog 12 #[.int .i64 8, .slice (some ⟨w.heap.size, 0, none⟩) 3 3, .int .i64 0, .int .i64 3] X fun e w' => e = .returned (.tuple #[.float .f64 4613937818241073152, .bool true]) ∧ Gr X w') := CF
  have CC2 : Hid (∀ W, Gr X W → Calls Tryd.prog 16 #[.slice (some ⟨w.heap.size, 0, none⟩) 3 3, .int .i64 1, .int .i64 2] W fun e w' => (∃ A' c', e = .returned (.slice A' 1 c')) ∧ Gr W w') := Lib.hid fun W g => (CC.out W g).mono fun e w' ⟨h1, A', c', h2, _⟩ => ⟨⟨A', c', h2⟩, h1⟩
  have o1 : (FloatKind.f64.format.order 4613937818241073152 4613937818241073152 == some .eq) = true := by decide +kernel
  clear CF CC hX g0 ht hf hr
  go_enter Tryd.func9, Tryd.ntmps9
  go_upto_region 2 with fail
  rw [HX.out]
  go_wp2_with (first
    | (go_at_call 12; refine CF2.out.mono ?_; rintro e w1 ⟨rfl, g1⟩; have HG1 := Lib.hid g1; clear g1)
    | (go_at_call 19; refine (CN.out _ HG1.out).mono ?_; rintro e w2 ⟨rfl, rfl⟩)
    | (go_at_call 21; refine (CNm.out _ HG1.out).mono ?_; rintro e w3 ⟨rfl, rfl⟩)
    | (go_at_call 16; refine (CC2.out _ HG1.out).mono ?_; rintro e w4 ⟨⟨A', c', rfl⟩, g4⟩; have HG4 := Lib.hid g4; clear g4)
    | fail)
  go_ret
  exact ⟨rfl, (G0.out.trans HG1.out).trans HG4.out⟩
theorem walkNames (fn : Int) (s : ByteArray) (w : World) (ht : Tab w) (hf : FTab w) :
    Calls Tryd.prog 4 #[.int .i64 fn, .string s] w fun e w' => e = .returned (.bool true) ∧ Gr w w' := by
  have CK := Lib.hid (known_any w ht hf)
  have CN := Lib.hid (fun W (g : Gr w W) s => Named_any s W (hf.gr g))
  have CRN := Lib.hid (fun W => rNamed_any s W)
  have CM := Lib.hid (fun W (g : Gr w W) => Name_any fn W (hf.gr g))
  have CRM := Lib.hid (fun W => rName_any fn W)
  have HB := Lib.hid (named_back fn)
  have HV : Hid (∀ s, namV s = .tuple #[.int .i64 (namedN s), .bool (namedN s != 0)]) := Lib.hid fun _ => rfl
  obtain ⟨T, hT⟩ : ∃ T, nameOf fn = T := ⟨_, rfl⟩
  rw [hT] at CM CRM HB
  have CN1 := Lib.hid (fun W g => CN.out W g s)
  have CN2 := Lib.hid (fun W g => CN.out W g T)
  rw [HV.out] at CN1 CN2 CRN
  obtain ⟨N1, hN1⟩ : ∃ N1, namedN s = N1 := ⟨_, rfl⟩
  obtain ⟨b1, hb1⟩ : ∃ b1, (N1 != 0) = b1 := ⟨_, rfl⟩
  rw [hN1] at CN1 CRN
  rw [hb1] at CN1 CRN
  clear CN HV hN1 hb1 hT ht hf
  rcases HB.out with ⟨-, hn, hn1, hT⟩ | ⟨-, hn, hT⟩
  · have hM : (namedN T != 0) = true := bne_iff_ne.2 (by omega)
    rw [hn, hM] at CN2
    have t1 : (T.toList == []) = false := by simpa using hT
    have t2 : (T.toList != []) = true := by simpa using hT
    clear hn hn1 hM HB
    go_enter Tryd.func4, Tryd.ntmps4
    go_wp2_with (first
      | (go_at_call 9; refine CK.out.mono ?_; rintro e w1 ⟨rfl, g1⟩; have HG1 := Lib.hid g1; clear g1)
      | (go_at_call_of 19 (Value.string s); refine (CN1.out _ HG1.out).mono ?_; rintro e w2 ⟨rfl, rfl⟩)
      | (go_at_call 20; refine (CRN.out _).mono ?_; rintro e w3 ⟨rfl, g3⟩; have HG3 := Lib.hid (HG1.out.trans g3); clear g3)
      | (go_at_call 21; refine (CM.out _ HG3.out).mono ?_; rintro e w4 ⟨rfl, rfl⟩)
      | (go_at_call 19; refine (CN2.out _ HG3.out).mono ?_; rintro e w2 ⟨rfl, rfl⟩)
      | (go_at_call 22; refine (CRM.out _).mono ?_; rintro e w5 ⟨rfl, g5⟩; have HG5 := Lib.hid (HG3.out.trans g5); clear g5)
      | fail)
    go_ret
    exact ⟨rfl, HG5.out⟩
  · rw [hn] at CN2
    have t1 : (T.toList == []) = true := by simpa using hT
    have t2 : (T.toList != []) = false := by simpa using hT
    clear hn HB
    go_enter Tryd.func4, Tryd.ntmps4
    go_wp2_with (first
      | (go_at_call 9; refine CK.out.mono ?_; rintro e w1 ⟨rfl, g1⟩; have HG1 := Lib.hid g1; clear g1)
      | (go_at_call_of 19 (Value.string s); refine (CN1.out _ HG1.out).mono ?_; rintro e w2 ⟨rfl, rfl⟩)
      | (go_at_call 20; refine (CRN.out _).mono ?_; rintro e w3 ⟨rfl, g3⟩; have HG3 := Lib.hid (HG1.out.trans g3); clear g3)
      | (go_at_call 21; refine (CM.out _ HG3.out).mono ?_; rintro e w4 ⟨rfl, rfl⟩)
      | (go_at_call 19; refine (CN2.out _ HG3.out).mono ?_; rintro e w2 ⟨rfl, rfl⟩)
      | (go_at_call 22; refine (CRM.out _).mono ?_; rintro e w5 ⟨rfl, g5⟩; have HG5 := Lib.hid (HG3.out.trans g5); clear g5)
      | fail)
    go_ret
    exact ⟨rfl, HG5.out⟩
end Go.Proofs.YtjjfkjpkbpefpaaDoor.Vn
