/- piece, the program's. -/
import Derived.Test.YtegbenbhiadnbaaDoorCutMath
import Derived.Test.YtegbenbhiadnbaaDoorRefPiece
import Derived.Test.YtegbenbhiadnbaaDoorShelf
namespace Go.Proofs.YtegbenbhiadnbaaDoor
open Go.RowKit Go.Sort
set_option maxRecDepth 100000
set_option maxHeartbeats 4000000

/-- what the library's variables hold -/
structure Env (w : World) : Prop where
  m : ∃ m, w.cell? ⟨0, 0, none⟩ = some (.int .i64 m)
  s : ∃ ev, w.cell? ⟨1, 0, none⟩ = some ev ∧ (ev = .nilIface ∨ ∃ te pe, ev = .iface te pe)
  r : ∃ ev, w.cell? ⟨2, 0, none⟩ = some ev ∧ (ev = .nilIface ∨ ∃ te pe, ev = .iface te pe)
  k : Kn w
theorem Env.gr {w w' : World} (h : Env w) (g : Gr w w') : Env w' :=
  ⟨h.m.imp fun _ h => g.cell h, h.s.imp fun _ h => ⟨g.cell h.1, h.2⟩, h.r.imp fun _ h => ⟨g.cell h.1, h.2⟩, h.k.gr g⟩
theorem atoi_any (D : List UInt8) (w : World) (h : Env w) (hl : D.length ≤ 281474976710656) :
    Calls Tryd.prog 55 #[.string ⟨D.toArray⟩] w fun e w' => (∃ n ev, e = .returned (.tuple #[.int .i64 n, ev]) ∧ ∀ m : Nat, m ≤ 1000000000000000000 → D = Lib.decDigits m → n = (m : Int)) ∧ Gr w w' := by
  have hd : (⟨D.toArray⟩ : ByteArray).data.toList = D := by simp
  have hs : (⟨D.toArray⟩ : ByteArray).size = D.length := by simp [ByteArray.size]
  cases hA : Lib.atoiAll D with
  | ok v =>
    refine (Any.strconv_Atoi_ok Tryd.laysC172 ⟨D.toArray⟩ (by rw [hs]; omega) v (by rw [hd]; exact hA) w).mono ?_
    rintro e w' ⟨rfl, hw⟩
    refine ⟨⟨v, _, rfl, fun m hm e => ?_⟩, ?_⟩
    · rw [e, atoi_dec m hm] at hA
      injection hA with hA
      exact hA.symm
    · rcases hw with rfl | ⟨t, rfl⟩
      · exact Gr.refl _
      · exact ⟨Lib.bytesWorld_below _ _ _⟩
  | range =>
    obtain ⟨ev, h1, h2⟩ := h.r
    refine (Any.strconv_Atoi_range Tryd.laysC172 ⟨D.toArray⟩ (by rw [hs]; omega) (by rw [hd]; exact hA) ev w h1 h2).mono ?_
    rintro e w' ⟨N, rfl, -, -, hb⟩
    refine ⟨⟨_, _, rfl, fun m hm e => ?_⟩, ⟨hb⟩⟩
    rw [e, atoi_dec m hm] at hA
    cases hA
  | _ =>
    obtain ⟨ev, h1, h2⟩ := h.s
    refine (Any.strconv_Atoi_syntax Tryd.laysC172 ⟨D.toArray⟩ (by rw [hs]; omega) (by rw [hd]; exact hA) ev w h1 h2).mono ?_
    rintro e w' ⟨N, rfl, -, -, hb⟩
    refine ⟨⟨_, _, rfl, fun m hm e => ?_⟩, ⟨hb⟩⟩
    rw [e, atoi_dec m hm] at hA
    cases hA
theorem cutc_any (s : ByteArray) (w : World) (h : Env w) (hs : s.size < 4294967281) :
    Calls Tryd.prog 54 #[.string s, .string ⟨#[58]⟩] w fun e w' => (∃ D R b, e = .returned (.tuple #[.string ⟨D.toArray⟩, .string ⟨R.toArray⟩, .bool b]) ∧ ((b = true ∧ s.data.toList = D ++ 58 :: R ∧ ∀ u ∈ D, u ≠ 58) ∨ (b = false ∧ D = s.data.toList ∧ R = [] ∧ ∀ u ∈ s.data.toList, u ≠ 58))) ∧ Gr w w' := by
  obtain ⟨m, hm⟩ := h.m
  refine (Tryd.strings_Cut s ⟨#[58]⟩ m w hs hm).mono ?_
  rintro e w' ⟨rfl, n, rfl⟩
  refine ⟨?_, (Gr.refl _).drewN _⟩
  have hc := cut_colon s.data.toList
  have e58 : (⟨#[58]⟩ : ByteArray).data.toList = [58] := rfl
  rw [e58]
  rcases hc with ⟨D, R, h1, h2, h3⟩ | ⟨h1, h2⟩
  · exact ⟨D, R, true, by rw [h3], .inl ⟨rfl, h1, h2⟩⟩
  · exact ⟨_, [], false, by rw [h2], .inr ⟨rfl, rfl, rfl, h1⟩⟩
theorem itoa_any (n : Nat) (w : World) (h : Env w) (hn : n ≤ 4294967000) :
    Calls Tryd.prog 56 #[.int .i64 n] w fun e w' => e = .returned (.string ⟨(Lib.decDigits n).toArray⟩) ∧ Gr w w' := by
  refine (Tryd.strconv_Itoa (n : Int) (by omega) (by omega) w h.k).mono ?_
  rintro e w' ⟨rfl, k, os, rfl⟩
  refine ⟨by rw [Lib.itoa_nonneg], ?_⟩
  exact ⟨⟨rfl, rfl, rfl, by simp [Go.Sort.grow], fun k hk => by simp [Go.Sort.grow, Array.getElem?_append, hk]⟩⟩
theorem str_take (R : List UInt8) (k : Nat) : (⟨R.toArray⟩ : ByteArray).extract 0 k = ⟨(R.take k).toArray⟩ := by
  apply bytes_ext
  simp [ByteArray.data_extract]
theorem str_drop (R : List UInt8) (k : Nat) : (⟨R.toArray⟩ : ByteArray).extract k R.length = ⟨(R.drop k).toArray⟩ := by
  apply bytes_ext
  simp [ByteArray.data_extract]
  rw [List.take_of_length_le (by simp)]
def PieceP (s : ByteArray) (w : World) (e : Ending) (w' : World) : Prop :=
  Gr w w' ∧ ((∃ t r, s.data.toList = pieceK t ++ r ∧ e = .returned (.tuple #[.string ⟨t.toArray⟩, .string ⟨r.toArray⟩, .bool true])) ∨ (e = .returned (.tuple #[.string ⟨#[]⟩, .string ⟨#[]⟩, .bool false]) ∧ PN s.data.toList))
theorem piece_any (s : ByteArray) (w : World) (h : Env w) (hs : s.size ≤ 4294967000) :
    Calls Tryd.prog 37 #[.string s] w (PieceP s w) := by
  have CC := Lib.hid (cutc_any s w h (by omega))
  have CA := Lib.hid (fun (D : List UInt8) (hl : D.length ≤ 4294967000) W (g : Gr w W) => atoi_any D W (h.gr g) (by omega))
  have CI := Lib.hid (fun (n : Nat) (hn : n ≤ 4294967000) W (g : Gr w W) => itoa_any n W (h.gr g) hn)
  have hsl : s.data.toList.length = s.size := by simp
  have HSL := Lib.hid hsl
  clear h hsl
  go_enter Tryd.func37, Tryd.ntmps37
  go_wp2_with fail
  refine CC.out.mono ?_
  rintro e w1 ⟨⟨D, R, b, rfl, hcut⟩, hg1⟩
  have HC := Lib.hid hcut
  clear hcut
  have hDl : D.length ≤ s.size ∧ R.length ≤ s.size := by
    rcases HC.out with ⟨-, e, -⟩ | ⟨-, e, e2, -⟩
    · have := HSL.out; rw [e] at this; simp at this; omega
    · rw [e, e2, HSL.out]; simp
  go_wp2_with fail
  refine (CA.out D (by omega) _ hg1).mono ?_
  rintro e w2 ⟨⟨n, ev, rfl, hn⟩, hg2⟩
  have HN := Lib.hid hn
  have HG2 := Lib.hid (hg1.trans hg2)
  clear hn hg1 hg2
  have hRs : (⟨R.toArray⟩ : ByteArray).size = R.length := by simp [ByteArray.size]
  have bad : (∀ t r, D = Lib.decDigits t.length → R = t ++ r → n = (t.length : Int) → t = []) → Hid (PN s.data.toList) := fun hb t r ht => by
    rcases HC.out with ⟨-, e, e2⟩ | ⟨-, e, e2, e3⟩
    · obtain ⟨h1, h2⟩ := piece_cut e e2 ht
      refine .inr (hb t r h1 h2 (HN.out t.length ?_ h1))
      have := hDl.2
      rw [h2] at this; simp at this; omega
    · exact absurd ht (piece_colon e3 t r)
  have BAD := Lib.hid bad; clear bad
  by_cases h1 : n < 1
  · have HP := BAD.out fun t r _ _ e => List.eq_nil_of_length_eq_zero (by omega)
    go_wp2
    go_ret3
    exact ⟨HG2.out, .inr ⟨rfl, HP.out⟩⟩
  obtain ⟨k, rfl⟩ : ∃ k : Nat, n = (k : Int) := ⟨n.toNat, by omega⟩
  by_cases h2 : R.length < k
  · have HP := BAD.out fun t r _ e2 e => by have : t.length ≤ R.length := (by rw [e2]; simp); omega
    go_wp2
    go_ret3
    exact ⟨HG2.out, .inr ⟨rfl, HP.out⟩⟩
  have h1' : ¬ (k : Int) < 1 := h1
  have h2' : ¬ (R.length : Int) < (k : Int) := by omega
  have h0 : ¬ k = 0 := by omega
  clear h1
  have CK := Lib.hid (CI.out k (by omega) _ HG2.out)
  obtain ⟨K, hK⟩ : ∃ K, Lib.decDigits k = K := ⟨_, rfl⟩
  rw [hK] at CK
  cases hq : (K == D)
  · have HP := BAD.out fun t r e1 _ e => by
      have e3 : t.length = k := by omega
      rw [← e3, ← e1] at hK
      rw [hK] at hq
      simp at hq
    go_wp2_with fail
    refine CK.out.mono ?_
    rintro e w3 ⟨rfl, g3⟩
    go_wp2
    go_ret3
    exact ⟨HG2.out.trans g3, .inr ⟨rfl, HP.out⟩⟩
  · have hKD : K = D := by simpa using hq
    go_wp2_with fail
    refine CK.out.mono ?_
    rintro e w3 ⟨rfl, g3⟩
    have HSF : Hid (s.data.toList = pieceK (R.take k) ++ R.drop k) := Lib.hid (by
      rcases HC.out with ⟨-, e, -⟩ | ⟨-, -, e2, -⟩
      · rw [e, ← hKD, ← hK]
        have hl : (R.take k).length = k := by simp; omega
        unfold pieceK
        rw [hl]
        simp
      · rw [e2] at h2; simp at h2; omega)
    have HG3 := Lib.hid (HG2.out.trans g3)
    have h3 : (k : Int) ≤ (R.length : Int) := by omega
    have h3' : k ≤ R.length := by omega
    have h5 : (0 : Int) ≤ (k : Int) := by omega
    go_wp2_with fail
    clear hq hKD hK HC hDl g3 HSL CA CI
    go_quiet (fail)
    go_wp2
    go_ret3
    refine ⟨HG3.out.drewN _, .inl ⟨R.take k, R.drop k, HSF.out, ?_⟩⟩
    rw [← str_take, ← str_drop]
    rfl
end Go.Proofs.YtegbenbhiadnbaaDoor
