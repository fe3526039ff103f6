/- The walk of RegexJoins. -/
import Derived.Test.YtnbanlakmalbhaaKnown
import Derived.Test.YtnbanlakmalbhaaText
namespace Go.Proofs.Ytnbanlakmalbhaa
open Go.RowKit
set_option maxRecDepth 100000
set_option maxHeartbeats 8000000

def orT (a b : ByteArray) : ByteArray := (⟨#[40]⟩ ++ a ++ ⟨#[41, 124, 40]⟩ ++ b ++ ⟨#[41]⟩ : ByteArray)
def twoT (a b : ByteArray) : ByteArray := (⟨#[40]⟩ ++ a ++ ⟨#[41, 40]⟩ ++ b ++ ⟨#[41]⟩ : ByteArray)
def starT (a : ByteArray) : ByteArray := (⟨#[40]⟩ ++ a ++ ⟨#[41, 42]⟩ : ByteArray)
theorem orT_read {a b : ByteArray} {n m : Nd} (ha : readS a.data.toList = (true, n, a.data.toList.length)) (hb : readS b.data.toList = (true, m, b.data.toList.length)) : readS (orT a b).data.toList = (true, .op 2 [.op 1 [n], .op 1 [m]], (orT a b).data.toList.length) := by
  have := read_or ha hb
  have e : (orT a b).data.toList = 40 :: (a.data.toList ++ (41 :: 124 :: 40 :: (b.data.toList ++ [41]))) := by unfold orT; simp [ByteArray.data_append]
  rwa [← e] at this
theorem twoT_read {a b : ByteArray} {n m : Nd} (ha : readS a.data.toList = (true, n, a.data.toList.length)) (hb : readS b.data.toList = (true, m, b.data.toList.length)) : readS (twoT a b).data.toList = (true, .op 2 [.op 1 [n, m]], (twoT a b).data.toList.length) := by
  have := read_two ha hb
  have e : (twoT a b).data.toList = 40 :: (a.data.toList ++ (41 :: 40 :: (b.data.toList ++ [41]))) := by unfold twoT; simp [ByteArray.data_append]
  rwa [← e] at this
theorem starT_read {a : ByteArray} {n : Nd} (ha : readS a.data.toList = (true, n, a.data.toList.length)) : readS (starT a).data.toList = (true, .op 2 [.op 1 [.op 3 [n]]], (starT a).data.toList.length) := by
  have := read_rep ha 42 3 (.inl ⟨rfl, rfl⟩)
  have e : (starT a).data.toList = 40 :: (a.data.toList ++ [41, 42]) := by unfold starT; simp [ByteArray.data_append]
  rwa [← e] at this
theorem size_orT (a b : ByteArray) : (orT a b).size = a.size + b.size + 5 := by unfold orT; simp only [ByteArray.size_append]; show 1 + a.size + 3 + b.size + 1 = _; omega
theorem size_twoT (a b : ByteArray) : (twoT a b).size = a.size + b.size + 4 := by unfold twoT; simp only [ByteArray.size_append]; show 1 + a.size + 2 + b.size + 1 = _; omega
theorem size_starT (a : ByteArray) : (starT a).size = a.size + 3 := by unfold starT; simp only [ByteArray.size_append]; show 1 + a.size + 2 = _; omega
/-- the law, once all is compiled -/
structure Five (w : World) (P Q O B S : Nat) (n m : Nd) : Prop where
  p : Pat w P n
  q : Pat w Q m
  o : Pat w O (.op 2 [.op 1 [n], .op 1 [m]])
  b : Pat w B (.op 2 [.op 1 [n, m]])
  s : Pat w S (.op 2 [.op 1 [.op 3 [n]]])
theorem Five.gr {w W : World} {P Q O B S : Nat} {n m : Nd} (h : Five w P Q O B S n m) (g : Gr w W) : Five W P Q O B S n m := ⟨h.p.gr g, h.q.gr g, h.o.gr g, h.b.gr g, h.s.gr g⟩
theorem five_or {w : World} {P Q O B S : Nat} {n m : Nd} (h : Five w P Q O B S n m) (s : ByteArray) : hits (.op 2 [.op 1 [n], .op 1 [m]]) s.data.toList = (hits n s.data.toList || hits m s.data.toList) :=
  hits_eq h.o.w (by rw [lg_or, Bool.or_eq_true, hits_iff h.p.w, hits_iff h.q.w])
theorem five_two {w : World} {P Q O B S : Nat} {n m : Nd} (h : Five w P Q O B S n m) (s t : ByteArray) (h1 : hits n s.data.toList = true) (h2 : hits m t.data.toList = true) : hits (.op 2 [.op 1 [n, m]]) (s ++ t).data.toList = true :=
  hits_eq h.b.w (by
    rw [lg_two]
    exact ⟨fun _ => rfl, fun _ => ⟨_, _, by simp [ByteArray.data_append], (hits_iff h.p.w _).1 h1, (hits_iff h.q.w _).1 h2⟩⟩)
theorem five_0 {w : World} {P Q O B S : Nat} {n m : Nd} (h : Five w P Q O B S n m) : hits (.op 2 [.op 1 [.op 3 [n]]]) (⟨#[]⟩ : ByteArray).data.toList = true :=
  hits_eq h.s.w (by
    rw [lg_piece, lg_star]
    exact ⟨fun _ => rfl, fun _ => .nil⟩)
theorem five_1 {w : World} {P Q O B S : Nat} {n m : Nd} (h : Five w P Q O B S n m) (s : ByteArray) (h1 : hits n s.data.toList = true) : hits (.op 2 [.op 1 [.op 3 [n]]]) s.data.toList = true :=
  hits_eq h.s.w (by
    rw [lg_piece, lg_star]
    exact ⟨fun _ => rfl, fun _ => star_one ((hits_iff h.p.w _).1 h1)⟩)
theorem five_2 {w : World} {P Q O B S : Nat} {n m : Nd} (h : Five w P Q O B S n m) (s : ByteArray) (h1 : hits n s.data.toList = true) : hits (.op 2 [.op 1 [.op 3 [n]]]) (s ++ s).data.toList = true :=
  hits_eq h.s.w (by
    rw [lg_piece, lg_star, ByteArray.data_append, Array.toList_append]
    exact ⟨fun _ => rfl, fun _ => .cons ((hits_iff h.p.w _).1 h1) (star_one ((hits_iff h.p.w _).1 h1))⟩)
theorem lawJoins_long (a b s t : ByteArray) (w : World) (h : 60 < a.size ∨ 60 < b.size ∨ 60 < s.size ∨ 60 < t.size) :
    Calls Try.prog 4 #[.string a, .string b, .string s, .string t] w fun e w' => e = .returned (.bool true) ∧ Gr w w' := by
  have CK := Lib.hid (fun W => known_any W)
  have key : decide ((60 : Int) < (a.size : Int)) = true ∨ (decide ((60 : Int) < (a.size : Int)) = false ∧ decide ((60 : Int) < (b.size : Int)) = true) ∨ (decide ((60 : Int) < (a.size : Int)) = false ∧ decide ((60 : Int) < (b.size : Int)) = false ∧ decide ((60 : Int) < (s.size : Int)) = true) ∨ (decide ((60 : Int) < (a.size : Int)) = false ∧ decide ((60 : Int) < (b.size : Int)) = false ∧ decide ((60 : Int) < (s.size : Int)) = false ∧ decide ((60 : Int) < (t.size : Int)) = true) := by simp; omega
  clear h
  rcases key with h | ⟨h1, h2⟩ | ⟨h1, h2, h3⟩ | ⟨h1, h2, h3, h4⟩
  all_goals
    go_enter Try.func4, Try.ntmps4
    go_wp2_with fail
    refine (CK.out _).mono ?_
    rintro e w1 ⟨rfl, hg1⟩
    have G1 := Lib.hid hg1
    clear hg1 CK
    go_wp2
    go_ret
    exact ⟨rfl, G1.out⟩
theorem lawJoins_not1 (a b s t : ByteArray) (w : World) (la : a.size ≤ 60) (lb : b.size ≤ 60) (ls : s.size ≤ 60) (lt : t.size ≤ 60) {k c : Nat} (h : treeS a.data.toList = .inr (k, c)) :
    Calls Try.prog 4 #[.string a, .string b, .string s, .string t] w fun e w' => e = .returned (.bool true) ∧ Gr w w' := by
  have CK := Lib.hid (fun W => known_any W)
  have C1 := Lib.hid (fun W => tree_no h (by omega) W)
  have C2 := Lib.hid (fun W => tree_some b (by omega) W)
  have da : decide ((60 : Int) < (a.size : Int)) = false := by simp; omega
  have db : decide ((60 : Int) < (b.size : Int)) = false := by simp; omega
  have ds : decide ((60 : Int) < (s.size : Int)) = false := by simp; omega
  have dt : decide ((60 : Int) < (t.size : Int)) = false := by simp; omega
  have hc := treeS_err h
  clear h la lb ls lt
  rcases hc with rfl | rfl
  all_goals
    go_enter Try.func4, Try.ntmps4
    go_wp2_with fail
    refine (CK.out _).mono ?_
    rintro e w1 ⟨rfl, hg1⟩
    have G1 := Lib.hid hg1
    clear hg1 CK
    go_wp2_with fail
    refine (C1.out _).mono ?_
    rintro e w2 ⟨g2, rfl⟩
    have G2 := Lib.hid (G1.out.trans g2)
    clear g2
    go_wp2_with fail
    refine (C2.out _).mono ?_
    rintro e w3 ⟨g3, A, k3, c3, rfl⟩
    have G3 := Lib.hid (G2.out.trans g3)
    clear g3
    go_wp2
    go_ret
    exact ⟨rfl, G3.out⟩
theorem lawJoins_not2 (a b s t : ByteArray) (w : World) (la : a.size ≤ 60) (lb : b.size ≤ 60) (ls : s.size ≤ 60) (lt : t.size ≤ 60) {n : Nd} {k c : Nat} (h1 : treeS a.data.toList = .inl n) (h : treeS b.data.toList = .inr (k, c)) :
    Calls Try.prog 4 #[.string a, .string b, .string s, .string t] w fun e w' => e = .returned (.bool true) ∧ Gr w w' := by
  have CK := Lib.hid (fun W => known_any W)
  have C1 := Lib.hid (fun W => tree_yes h1 (by omega) W)
  have C2 := Lib.hid (fun W => tree_no h (by omega) W)
  have da : decide ((60 : Int) < (a.size : Int)) = false := by simp; omega
  have db : decide ((60 : Int) < (b.size : Int)) = false := by simp; omega
  have ds : decide ((60 : Int) < (s.size : Int)) = false := by simp; omega
  have dt : decide ((60 : Int) < (t.size : Int)) = false := by simp; omega
  have hc := treeS_err h
  clear h h1 la lb ls lt
  rcases hc with rfl | rfl
  all_goals
    go_enter Try.func4, Try.ntmps4
    go_wp2_with fail
    refine (CK.out _).mono ?_
    rintro e w1 ⟨rfl, hg1⟩
    have G1 := Lib.hid hg1
    clear hg1 CK
    go_wp2_with fail
    refine (C1.out _).mono ?_
    rintro e w2 ⟨g2, P, rfl, hP⟩
    have G2 := Lib.hid (G1.out.trans g2)
    clear g2 hP
    go_wp2_with fail
    refine (C2.out _).mono ?_
    rintro e w3 ⟨g3, rfl⟩
    have G3 := Lib.hid (G2.out.trans g3)
    clear g3
    go_wp2
    go_ret
    exact ⟨rfl, G3.out⟩
theorem lawJoins_yes (a b s t : ByteArray) (w : World) (la : a.size ≤ 60) (lb : b.size ≤ 60) (ls : s.size ≤ 60) (lt : t.size ≤ 60) {n m : Nd} (h1 : treeS a.data.toList = .inl n) (h2 : treeS b.data.toList = .inl m) :
    Calls Try.prog 4 #[.string a, .string b, .string s, .string t] w fun e w' => e = .returned (.bool true) ∧ Gr w w' := by
  have CK := Lib.hid (fun W => known_any W)
  have C1 := Lib.hid (fun W => tree_yes h1 (by omega) W)
  have C2 := Lib.hid (fun W => tree_yes h2 (by omega) W)
  have ra := (treeS_ok h1).2.2
  have rb := (treeS_ok h2).2.2
  have C3 := Lib.hid (fun W => tree_deep (orT_read ra rb) (by rw [size_orT]; omega) W)
  have C4 := Lib.hid (fun W => tree_deep (twoT_read ra rb) (by rw [size_twoT]; omega) W)
  have C5 := Lib.hid (fun W => tree_deep (starT_read ra) (by rw [size_starT]; omega) W)
  have MP := Lib.hid (fun (P : Nat) (n : Nd) (w W : World) (h : Pat w P n) (g : Gr w W) (x : Bool) (hx : hits n s.data.toList = x) => pm h g s (by omega) hx)
  have MT := Lib.hid (fun (P : Nat) (n : Nd) (w W : World) (h : Pat w P n) (g : Gr w W) (x : Bool) (hx : hits n t.data.toList = x) => pm h g t (by omega) hx)
  have M0 := Lib.hid (fun (P : Nat) (n : Nd) (w W : World) (h : Pat w P n) (g : Gr w W) (x : Bool) (hx : hits n (⟨#[]⟩ : ByteArray).data.toList = x) => pm h g ⟨#[]⟩ (by decide) hx)
  have MST := Lib.hid (fun (P : Nat) (n : Nd) (w W : World) (h : Pat w P n) (g : Gr w W) (x : Bool) (hx : hits n (s ++ t).data.toList = x) => pm h g (s ++ t) (by rw [ByteArray.size_append]; omega) hx)
  have MSS := Lib.hid (fun (P : Nat) (n : Nd) (w W : World) (h : Pat w P n) (g : Gr w W) (x : Bool) (hx : hits n (s ++ s).data.toList = x) => pm h g (s ++ s) (by rw [ByteArray.size_append]; omega) hx)
  unfold orT at C3
  unfold twoT at C4
  unfold starT at C5
  have da : decide ((60 : Int) < (a.size : Int)) = false := by simp; omega
  have db : decide ((60 : Int) < (b.size : Int)) = false := by simp; omega
  have ds : decide ((60 : Int) < (s.size : Int)) = false := by simp; omega
  have dt : decide ((60 : Int) < (t.size : Int)) = false := by simp; omega
  have z1 : ¬ 9223372036854775807 < 1 + a.size := by omega
  have z2 : ¬ 9223372036854775807 < 1 + a.size + 3 := by omega
  have z3 : ¬ 9223372036854775807 < 1 + a.size + 3 + b.size := by omega
  have z4 : ¬ 9223372036854775807 < 1 + a.size + 3 + b.size + 1 := by omega
  have z5 : ¬ 9223372036854775807 < 1 + a.size + 2 := by omega
  have z6 : ¬ 9223372036854775807 < 1 + a.size + 2 + b.size := by omega
  have z7 : ¬ 9223372036854775807 < 1 + a.size + 2 + b.size + 1 := by omega
  have z8 : ¬ 9223372036854775807 < s.size + t.size := by omega
  have z9 : ¬ 9223372036854775807 < s.size + s.size := by omega
  clear h1 h2 la lb ls lt ra rb
  go_enter Try.func4, Try.ntmps4
  go_wp2_with fail
  refine (CK.out _).mono ?_
  rintro e w1 ⟨rfl, hg1⟩
  have G1 := Lib.hid hg1
  clear hg1 CK
  go_wp2_with fail
  refine (C1.out _).mono ?_
  rintro e w2 ⟨g2, P, rfl, hP⟩
  have G2 := Lib.hid (G1.out.trans g2)
  have HP := Lib.hid hP
  clear g2 hP C1 G1
  go_wp2_with fail
  refine (C2.out _).mono ?_
  rintro e w3 ⟨g3, Q, rfl, hQ⟩
  have G3 := Lib.hid (G2.out.trans g3)
  have HP3 := Lib.hid (HP.out.gr g3)
  have HQ := Lib.hid hQ
  clear g3 hQ HP C2 G2
  go_wp2_with fail
  refine (C3.out _).mono ?_
  rintro e w4 ⟨g4, AO, kO, cO, rfl, hO⟩
  have G4 := Lib.hid (G3.out.trans g4)
  have H34 := Lib.hid g4
  have HO := Lib.hid hO
  clear g4 hO C3 G3
  go_wp2_with fail
  refine (C4.out _).mono ?_
  rintro e w5 ⟨g5, AB, kB, cB, rfl, hB⟩
  have G5 := Lib.hid (G4.out.trans g5)
  have H45 := Lib.hid g5
  have HB := Lib.hid hB
  clear g5 hB C4 G4
  go_wp2_with fail
  refine (C5.out _).mono ?_
  rintro e w6 ⟨g6, AS, kS, cS, rfl, hS⟩
  have G6 := Lib.hid (G5.out.trans g6)
  have H56 := Lib.hid g6
  have HS := Lib.hid hS
  clear g6 hS C5 G5
  obtain ⟨hO⟩ : Nonempty (cO = 6 ∨ (cO = 0 ∧ ∃ P, AO = some ⟨P, 0, none⟩ ∧ Pat w4 P (.op 2 [.op 1 [n], .op 1 [m]]))) := ⟨HO.out⟩
  obtain ⟨hB⟩ : Nonempty (cB = 6 ∨ (cB = 0 ∧ ∃ P, AB = some ⟨P, 0, none⟩ ∧ Pat w5 P (.op 2 [.op 1 [n, m]]))) := ⟨HB.out⟩
  obtain ⟨hS⟩ : Nonempty (cS = 6 ∨ (cS = 0 ∧ ∃ P, AS = some ⟨P, 0, none⟩ ∧ Pat w6 P (.op 2 [.op 1 [.op 3 [n]]]))) := ⟨HS.out⟩
  clear HO HB HS
  rcases hO with rfl | ⟨rfl, O, rfl, hO⟩
  · clear hB hS
    go_wp2
    go_ret
    exact ⟨rfl, G6.out⟩
  rcases hB with rfl | ⟨rfl, B, rfl, hB⟩
  · clear hO hS
    go_wp2
    go_ret
    exact ⟨rfl, G6.out⟩
  rcases hS with rfl | ⟨rfl, S, rfl, hS⟩
  · clear hO hB
    go_wp2
    go_ret
    exact ⟨rfl, G6.out⟩
  have h5 : Five w6 P Q O B S n m := ⟨((HP3.out.gr H34.out).gr H45.out).gr H56.out, ((HQ.out.gr H34.out).gr H45.out).gr H56.out, (hO.gr H45.out).gr H56.out, hB.gr H56.out, hS⟩
  have H5 := Lib.hid h5
  clear h5 hO hB hS HP3 HQ H34 H45 H56
  obtain ⟨x, hx⟩ : ∃ x, hits n s.data.toList = x := ⟨_, rfl⟩
  obtain ⟨y, hy⟩ : ∃ y, hits m s.data.toList = y := ⟨_, rfl⟩
  obtain ⟨z, hz⟩ : ∃ z, hits m t.data.toList = z := ⟨_, rfl⟩
  have hor := five_or H5.out s
  rw [hx, hy] at hor
  have XP := Lib.hid (fun W g => MP.out P n w6 W H5.out.p g x hx)
  have XQ := Lib.hid (fun W g => MP.out Q m w6 W H5.out.q g y hy)
  have XT := Lib.hid (fun W g => MT.out Q m w6 W H5.out.q g z hz)
  have XO := Lib.hid (fun W g => MP.out O _ w6 W H5.out.o g (x || y) hor)
  have X0 := Lib.hid (fun W g => M0.out S _ w6 W H5.out.s g true (five_0 H5.out))
  have XB := Lib.hid (fun W g (h : x = true) (h2 : z = true) => MST.out B _ w6 W H5.out.b g true (five_two H5.out s t (hx.trans h) (hz.trans h2)))
  have X1 := Lib.hid (fun W g (h : x = true) => MP.out S _ w6 W H5.out.s g true (five_1 H5.out s (hx.trans h)))
  have X2 := Lib.hid (fun W g (h : x = true) => MSS.out S _ w6 W H5.out.s g true (five_2 H5.out s (hx.trans h)))
  have G0 := Lib.hid (Gr.refl w6)
  clear hx hy hz hor MP MT M0 MST MSS H5
  cases x
  · clear XB X1 X2
    cases y
    all_goals
      go_wp2_with fail
      refine (XO.out _ G0.out).mono ?_
      rintro e v0 ⟨rfl, g0⟩
      have I0 := Lib.hid (G0.out.trans g0)
      clear g0
      go_wp2_with fail
      refine (XP.out _ I0.out).mono ?_
      rintro e v1 ⟨rfl, g1⟩
      have I1 := Lib.hid (I0.out.trans g1)
      clear g1
      go_wp2_with fail
      refine (XQ.out _ I1.out).mono ?_
      rintro e v2 ⟨rfl, g2⟩
      have I2 := Lib.hid (I1.out.trans g2)
      clear g2
      go_wp2_with fail
      refine (XP.out _ I2.out).mono ?_
      rintro e v3 ⟨rfl, g3⟩
      have I3 := Lib.hid (I2.out.trans g3)
      clear g3
      go_wp2_with fail
      refine (X0.out _ I3.out).mono ?_
      rintro e v4 ⟨rfl, g4⟩
      have I4 := Lib.hid (I3.out.trans g4)
      clear g4
      go_wp2_with fail
      refine (XP.out _ I4.out).mono ?_
      rintro e v5 ⟨rfl, g5⟩
      have I5 := Lib.hid (I4.out.trans g5)
      clear g5
      go_wp2
      go_ret
      exact ⟨rfl, G6.out.trans I5.out⟩
  · cases z
    · clear XB
      go_wp2_with fail
      refine (XO.out _ G0.out).mono ?_
      rintro e v0 ⟨rfl, g0⟩
      have I0 := Lib.hid (G0.out.trans g0)
      clear g0
      go_wp2_with fail
      refine (XP.out _ I0.out).mono ?_
      rintro e v1 ⟨rfl, g1⟩
      have I1 := Lib.hid (I0.out.trans g1)
      clear g1
      go_wp2_with fail
      refine (XP.out _ I1.out).mono ?_
      rintro e v2 ⟨rfl, g2⟩
      have I2 := Lib.hid (I1.out.trans g2)
      clear g2
      go_wp2_with fail
      refine (XT.out _ I2.out).mono ?_
      rintro e v3 ⟨rfl, g3⟩
      have I3 := Lib.hid (I2.out.trans g3)
      clear g3
      go_wp2_with fail
      refine (X0.out _ I3.out).mono ?_
      rintro e v4 ⟨rfl, g4⟩
      have I4 := Lib.hid (I3.out.trans g4)
      clear g4
      go_wp2_with fail
      refine (XP.out _ I4.out).mono ?_
      rintro e v5 ⟨rfl, g5⟩
      have I5 := Lib.hid (I4.out.trans g5)
      clear g5
      go_wp2_with fail
      refine (X1.out _ I5.out (by simp)).mono ?_
      rintro e v6 ⟨rfl, g6⟩
      have I6 := Lib.hid (I5.out.trans g6)
      clear g6
      go_wp2_with fail
      refine (X2.out _ I6.out (by simp)).mono ?_
      rintro e v7 ⟨rfl, g7⟩
      have I7 := Lib.hid (I6.out.trans g7)
      clear g7
      go_wp2
      go_ret
      exact ⟨rfl, G6.out.trans I7.out⟩
    · skip
      go_wp2_with fail
      refine (XO.out _ G0.out).mono ?_
      rintro e v0 ⟨rfl, g0⟩
      have I0 := Lib.hid (G0.out.trans g0)
      clear g0
      go_wp2_with fail
      refine (XP.out _ I0.out).mono ?_
      rintro e v1 ⟨rfl, g1⟩
      have I1 := Lib.hid (I0.out.trans g1)
      clear g1
      go_wp2_with fail
      refine (XP.out _ I1.out).mono ?_
      rintro e v2 ⟨rfl, g2⟩
      have I2 := Lib.hid (I1.out.trans g2)
      clear g2
      go_wp2_with fail
      refine (XT.out _ I2.out).mono ?_
      rintro e v3 ⟨rfl, g3⟩
      have I3 := Lib.hid (I2.out.trans g3)
      clear g3
      go_wp2_with fail
      refine (XB.out _ I3.out (by simp) (by simp)).mono ?_
      rintro e v4 ⟨rfl, g4⟩
      have I4 := Lib.hid (I3.out.trans g4)
      clear g4
      go_wp2_with fail
      refine (X0.out _ I4.out).mono ?_
      rintro e v5 ⟨rfl, g5⟩
      have I5 := Lib.hid (I4.out.trans g5)
      clear g5
      go_wp2_with fail
      refine (XP.out _ I5.out).mono ?_
      rintro e v6 ⟨rfl, g6⟩
      have I6 := Lib.hid (I5.out.trans g6)
      clear g6
      go_wp2_with fail
      refine (X1.out _ I6.out (by simp)).mono ?_
      rintro e v7 ⟨rfl, g7⟩
      have I7 := Lib.hid (I6.out.trans g7)
      clear g7
      go_wp2_with fail
      refine (X2.out _ I7.out (by simp)).mono ?_
      rintro e v8 ⟨rfl, g8⟩
      have I8 := Lib.hid (I7.out.trans g8)
      clear g8
      go_wp2
      go_ret
      exact ⟨rfl, G6.out.trans I8.out⟩
theorem lawJoins_any (a b s t : ByteArray) (w : World) :
    Calls Try.prog 4 #[.string a, .string b, .string s, .string t] w fun e w' => e = .returned (.bool true) ∧ Gr w w' := by
  by_cases h : a.size ≤ 60 ∧ b.size ≤ 60 ∧ s.size ≤ 60 ∧ t.size ≤ 60
  · obtain ⟨la, lb, ls, lt⟩ := h
    cases h1 : treeS a.data.toList with
    | inr x => exact lawJoins_not1 a b s t w la lb ls lt h1
    | inl n =>
      cases h2 : treeS b.data.toList with
      | inr x => exact lawJoins_not2 a b s t w la lb ls lt h1 h2
      | inl m => exact lawJoins_yes a b s t w la lb ls lt h1 h2
  · exact lawJoins_long a b s t w (by omega)
end Go.Proofs.Ytnbanlakmalbhaa
