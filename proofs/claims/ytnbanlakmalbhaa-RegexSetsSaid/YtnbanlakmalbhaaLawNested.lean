/- The walk of RegexNested. -/
import Derived.Test.YtnbanlakmalbhaaKnown
import Derived.Test.YtnbanlakmalbhaaNest
namespace Go.Proofs.Ytnbanlakmalbhaa
open Go.RowKit
set_option maxRecDepth 100000
set_option maxHeartbeats 8000000

theorem str_cat (a b : List UInt8) : (⟨a.toArray⟩ ++ ⟨b.toArray⟩ : ByteArray) = ⟨(a ++ b).toArray⟩ := by
  apply ByteArray.ext
  rw [ByteArray.data_append]
  simp
theorem str_catV (a b : List UInt8) : Value.string (⟨a.toArray⟩ ++ ⟨b.toArray⟩ : ByteArray) = .string ⟨(a ++ b).toArray⟩ := by rw [str_cat]
theorem lit_size (l : List UInt8) : (⟨l.toArray⟩ : ByteArray).size = l.length := by show l.toArray.size = _; simp
theorem lawNested_out (deep n : Int) (e : Bool) (w : World) (h : ¬ (1 ≤ deep ∧ deep ≤ 60 ∧ 0 ≤ n ∧ n ≤ 200)) :
    Calls Try.prog 7 #[.int .i64 deep, .int .i64 n, .bool e] w fun e w' => e = .returned (.bool true) ∧ Gr w w' := by
  have CK := Lib.hid (fun W => known_any W)
  have key : deep < 1 ∨ (¬ deep < 1 ∧ 60 < deep) ∨ (¬ deep < 1 ∧ ¬ 60 < deep ∧ n < 0) ∨ (¬ deep < 1 ∧ ¬ 60 < deep ∧ ¬ n < 0 ∧ 200 < n) := by omega
  clear h
  rcases key with h | ⟨h1, h2⟩ | ⟨h1, h2, h3⟩ | ⟨h1, h2, h3, h4⟩
  all_goals
    go_enter Try.func7, Try.ntmps7
    go_wp2_with fail
    refine (CK.out _).mono ?_
    rintro e w1 ⟨rfl, hg1⟩
    go_wp2
    go_ret
    exact ⟨rfl, hg1⟩
theorem lawNested_in (deep n : Nat) (e : Bool) (w : World) (h1 : 1 ≤ deep) (h2 : deep ≤ 60) (h3 : n ≤ 200) :
    Calls Try.prog 7 #[.int .i64 deep, .int .i64 n, .bool e] w fun e w' => e = .returned (.bool true) ∧ Gr w w' := by
  have CK := Lib.hid (fun W => known_any W)
  have n1 : ¬ (deep : Int) < 1 := by omega
  have n2 : ¬ (60 : Int) < (deep : Int) := by omega
  have n3 : ¬ (n : Int) < 0 := by omega
  have n4 : ¬ (200 : Int) < (n : Int) := by omega
  go_enter Try.func7, Try.ntmps7
  go_wp2_with fail
  refine (CK.out _).mono ?_
  rintro e w1 ⟨rfl, hg1⟩
  go_wp2
  go_loopw [7, 8] (fun s i wr => ∃ (k : Nat) (l : List UInt8), i = .int .i64 k ∧ s = .string ⟨l.toArray⟩ ∧ k ≤ deep ∧ Hid (l = List.replicate k 40) ∧ l.length = k ∧ Gr w wr) (fun _ i _ => deep - (intOf i).toNat)
  case atStart => exact ⟨0, [], rfl, rfl, Nat.zero_le _, Lib.hid rfl, rfl, hg1⟩
  case round =>
    obtain ⟨k, l, rfl, rfl, hk, HL, hl, hg⟩ := hrel
    by_cases hlt : k < deep
    · have b1 : (k : Int) < (deep : Int) := by omega
      have z : ¬ 9223372036854775807 < l.length + 1 := by omega
      go_wp2
      go_roundw
      case rel => exact ⟨k + 1, l ++ [40], by go_num, str_catV l [40], by omega, Lib.hid (by rw [HL.out, List.replicate_succ']), by simp; omega, hg⟩
      case measure => simp [intOf]; omega
    · have b1 : ¬ (k : Int) < (deep : Int) := by omega
      have z : ¬ 9223372036854775807 < l.length + 1 := by omega
      have HL1 : Hid (l ++ [97] = List.replicate deep 40 ++ ([97] ++ (List.replicate 0 [42, 41]).flatten)) := Lib.hid (by rw [HL.out, show k = deep by omega]; rfl)
      have hl1 : (l ++ [97]).length = deep + 1 := by simp; omega
      clear HL
      go_wp2
      go_loopw [7, 9] (fun s i wr => ∃ (k : Nat) (l : List UInt8), i = .int .i64 k ∧ s = .string ⟨l.toArray⟩ ∧ k ≤ deep ∧ Hid (l = List.replicate deep 40 ++ ([97] ++ (List.replicate k [42, 41]).flatten)) ∧ l.length = deep + 1 + 2 * k ∧ Gr w wr) (fun _ i _ => deep - (intOf i).toNat)
      case atStart => exact ⟨0, _, rfl, str_catV l [97], Nat.zero_le _, HL1, hl1, hg⟩
      case round =>
        clear b1 z HL1 hl1 hg hl hk hlt
        obtain ⟨j, l, rfl, rfl, hk, HL, hl, hg⟩ := hrel
        by_cases hlt : j < deep
        · have b1 : (j : Int) < (deep : Int) := by omega
          have z : ¬ 9223372036854775807 < l.length + 2 := by omega
          go_wp2
          go_roundw
          case rel => exact ⟨j + 1, l ++ [42, 41], by go_num, str_catV l [42, 41], by omega, Lib.hid (by rw [HL.out, rep_flat]; simp), by simp; omega, hg⟩
          case measure => simp [intOf]; omega
        · have b1 : ¬ (j : Int) < (deep : Int) := by omega
          have z : ¬ 9223372036854775807 < l.length + 1 := by omega
          have HL1 : Hid (l ++ [42] = nestT deep) := Lib.hid (by rw [HL.out, show j = deep by omega]; unfold nestT; simp)
          clear HL hl
          go_wp2
          go_loopw [10, 11] (fun s i wr => ∃ (k : Nat) (t : List UInt8), i = .int .i64 k ∧ s = .string ⟨t.toArray⟩ ∧ k ≤ n ∧ Hid (t = List.replicate k 97) ∧ t.length = k ∧ Gr w wr) (fun _ i _ => n - (intOf i).toNat)
          case atStart => exact ⟨0, [], rfl, rfl, Nat.zero_le _, Lib.hid rfl, rfl, hg⟩
          case round =>
            clear b1 z hg hlt hk
            obtain ⟨m, t, rfl, rfl, hk, HT, ht, hg⟩ := hrel
            by_cases hlt : m < n
            · have b1 : (m : Int) < (n : Int) := by omega
              have z : ¬ 9223372036854775807 < t.length + 1 := by omega
              go_wp2
              go_roundw
              case rel => exact ⟨m + 1, t ++ [97], by go_num, str_catV t [97], by omega, Lib.hid (by rw [HT.out, List.replicate_succ']), by simp; omega, hg⟩
              case measure => simp [intOf]; omega
            · have b1 : ¬ (m : Int) < (n : Int) := by omega
              have z : ¬ 9223372036854775807 < t.length + 1 := by omega
              have HN : Hid (t = List.replicate n 97) := Lib.hid (by rw [HT.out, show m = n by omega])
              have hle : (l ++ [42]).length = 3 * deep + 2 := by rw [HL1.out, nestT_len]
              have e42 : (⟨l.toArray⟩ ++ ⟨#[42]⟩ : ByteArray) = ⟨(l ++ [42]).toArray⟩ := str_cat l [42]
              have C := Lib.hid (fun W => tree_any (⟨l.toArray⟩ ++ ⟨#[42]⟩) (by rw [e42, lit_size]; omega) W)
              have htr : treeS (⟨l.toArray⟩ ++ ⟨#[42]⟩ : ByteArray).data.toList = if deep ≤ 40 then .inl (nestN deep) else .inr (40, 6) := by
                rw [e42]
                show treeS (l ++ [42]).toArray.toList = _
                rw [HL1.out]
                exact nest_tree deep h2
              rw [htr] at C
              have e98 : (⟨t.toArray⟩ ++ ⟨#[98]⟩ : ByteArray) = ⟨(t ++ [98]).toArray⟩ := str_cat t [98]
              have hh : ∀ hw : Wf (nestN deep), hits (nestN deep) (⟨t.toArray⟩ ++ ⟨#[98]⟩ : ByteArray).data.toList = false ∧ hits (nestN deep) (⟨t.toArray⟩ : ByteArray).data.toList = true := fun hw => by
                have a1 := nest_hits deep n true hw
                have a2 := nest_hits deep n false hw
                rw [← HN.out] at a1 a2
                rw [e98]
                exact ⟨a1, by simpa using a2⟩
              have HH := Lib.hid hh
              have hz : (⟨t.toArray⟩ ++ ⟨#[98]⟩ : ByteArray).size ≤ 1000000000000 ∧ (⟨t.toArray⟩ : ByteArray).size ≤ 1000000000000 := by
                rw [e98, lit_size, lit_size]; simp; omega
              have HZ := Lib.hid hz
              have M1 := Lib.hid (fun (P : Nat) W (h : Pat W P (nestN deep)) => pm h (Gr.refl W) _ HZ.out.1 (HH.out h.w).1)
              have M2 := Lib.hid (fun (P : Nat) W (h : Pat W P (nestN deep)) => pm h (Gr.refl W) _ HZ.out.2 (HH.out h.w).2)
              have HG := Lib.hid hg
              clear hg htr e42 e98 hh hz hle HT HN HL1
              by_cases hd : deep ≤ 40
              · have n5 : ¬ (40 : Int) < (deep : Int) := by omega
                rw [if_pos hd] at C
                have C2 : Hid (∀ W, Calls Try.prog 10 #[.string (⟨l.toArray⟩ ++ ⟨#[42]⟩)] W fun e w' => Gr W w' ∧ ∃ P, e = .returned (.tuple #[.pointer (some ⟨P, 0, none⟩), .int .i64 0, .int .i64 0]) ∧ Pat w' P (nestN deep)) := Lib.hid C.out
                clear C
                cases e
                · go_wp2_with fail
                  refine (C2.out _).mono ?_
                  rintro e w2 ⟨g2, P, rfl, hP⟩
                  have G2 := Lib.hid (HG.out.trans g2)
                  have HP := Lib.hid hP
                  clear g2 hP
                  go_wp2_with fail
                  refine (M2.out P _ HP.out).mono ?_
                  rintro e w3 ⟨rfl, g3⟩
                  go_wp2
                  go_ret
                  exact ⟨rfl, G2.out.trans g3⟩
                · go_wp2_with fail
                  refine (C2.out _).mono ?_
                  rintro e w2 ⟨g2, P, rfl, hP⟩
                  have G2 := Lib.hid (HG.out.trans g2)
                  have HP := Lib.hid hP
                  clear g2 hP
                  go_wp2_with fail
                  refine (M1.out P _ HP.out).mono ?_
                  rintro e w3 ⟨rfl, g3⟩
                  go_wp2
                  go_ret
                  exact ⟨rfl, G2.out.trans g3⟩
              · have n5 : (40 : Int) < (deep : Int) := by omega
                rw [if_neg hd] at C
                have C2 : Hid (∀ W, Calls Try.prog 10 #[.string (⟨l.toArray⟩ ++ ⟨#[42]⟩)] W fun e w' => Gr W w' ∧ e = .returned (.tuple #[.pointer none, .int .i64 40, .int .i64 6])) := Lib.hid C.out
                clear C M1 M2
                cases e
                all_goals
                  go_wp2_with fail
                  refine (C2.out _).mono ?_
                  rintro e w2 ⟨g2, rfl⟩
                  have G2 := Lib.hid (HG.out.trans g2)
                  clear g2
                  go_wp2
                  go_ret
                  exact ⟨rfl, G2.out⟩
theorem lawNested_any (deep n : Int) (e : Bool) (w : World) :
    Calls Try.prog 7 #[.int .i64 deep, .int .i64 n, .bool e] w fun e w' => e = .returned (.bool true) ∧ Gr w w' := by
  by_cases h : 1 ≤ deep ∧ deep ≤ 60 ∧ 0 ≤ n ∧ n ≤ 200
  · obtain ⟨h1, h2, h3, h4⟩ := h
    obtain ⟨d, rfl⟩ := Int.eq_ofNat_of_zero_le (show 0 ≤ deep by omega)
    obtain ⟨m, rfl⟩ := Int.eq_ofNat_of_zero_le h3
    exact lawNested_in d m e w (by omega) (by omega) (by omega)
  · exact lawNested_out deep n e w h
end Go.Proofs.Ytnbanlakmalbhaa
