/- Get, Keep, Drop, the program's. -/
import Derived.Test.YtllhkegefinlbaaGreatDoorBytes
import Derived.Deep.LoopGhost
namespace Go.Proofs.YtllhkegefinlbaaGreatDoor
open Go.RowKit Go.Sort
set_option maxRecDepth 100000
set_option maxHeartbeats 4000000

/-! Get -/
def getL : List Lb → ByteArray → ByteArray
  | [], _ => ⟨#[]⟩
  | x :: r, n => if x.1.toList == n.toList then x.2 else getL r n
theorem getL_step {l : List Lb} {k : Nat} (h : k < l.length) (n : ByteArray) : getL (l.drop k) n = if (l[k]).1.toList == n.toList then (l[k]).2 else getL (l.drop (k + 1)) n := by
  rw [drop_lab h]; rfl
/-! a slice of texts -/
def StrsAt (W : World) (A : Option Addr) (l : List ByteArray) : Prop :=
  0 < l.length → ∃ b o, A = some ⟨b, o, none⟩ ∧ ∀ i x, l[i]? = some x → W.cell? ⟨b, o + i, none⟩ = some (.string x)
theorem StrsAt.gr {W W' : World} {A : Option Addr} {l : List ByteArray} (h : StrsAt W A l) (g : Gr W W') : StrsAt W' A l := fun h0 => by
  obtain ⟨b, o, e, hc⟩ := h h0
  exact ⟨b, o, e, fun i x hx => g.cell (hc i x hx)⟩
theorem StrsAt.at_ {W : World} {A : Option Addr} {l : List ByteArray} (h : StrsAt W A l) {k : Nat} (hk : k < l.length) :
    ∃ b o, A = some ⟨b, o, none⟩ ∧ W.cell? ⟨b, o + k, none⟩ = some (.string l[k]) := by
  obtain ⟨b, o, e, hc⟩ := h (by omega)
  exact ⟨b, o, e, hc k _ (List.getElem?_eq_getElem hk)⟩
theorem StrsAt.none_ (W : World) (A : Option Addr) : StrsAt W A [] := fun h => absurd h (by simp)
def hasN (ns : List ByteArray) (n : ByteArray) : Bool := ns.any fun m => n.toList == m.toList
theorem hasN_step {ns : List ByteArray} {k : Nat} (h : k < ns.length) (n : ByteArray) : hasN (ns.drop k) n = ((n.toList == ns[k].toList) || hasN (ns.drop (k + 1)) n) := by
  unfold hasN; rw [List.drop_eq_getElem_cons h]; rfl
def pickL (l : List Lb) (ns : List ByteArray) (am : Bool) : List Lb := l.filter fun x => hasN ns x.1 == am
theorem pickL_snoc (l : List Lb) (ns : List ByteArray) (am : Bool) (x : Lb) : pickL (l ++ [x]) ns am = if hasN ns x.1 == am then pickL l ns am ++ [x] else pickL l ns am := by
  unfold pickL
  rw [List.filter_append]
  cases h : (hasN ns x.1 == am)
  · simp [h]
  · simp [h]
theorem pickL_len (l : List Lb) (ns : List ByteArray) (am : Bool) : (pickL l ns am).length ≤ l.length := List.length_filter_le _ _

theorem pick_any (A N : Option Addr) (l : List Lb) (ns : List ByteArray) (c d : Nat) (am : Bool) (w : World) (h : LabsAt w A l) (hs : StrsAt w N ns) (hl : l.length ≤ 549755813888) (hn : ns.length ≤ 1099511627776) :
    Calls Tryz.prog 93 #[.slice A l.length c, .slice N ns.length d, .bool am] w fun e w' => ∃ v, e = .returned v ∧ Own w' w.heap.size v (pickL l ns am) ∧ Gr w w' := by
  have HL := Lib.hid h; have HS := Lib.hid hs
  clear h hs
  cases am
  · go_enter Tryz.func93, Tryz.ntmps93
    go_wp2
    go_step3
    go_wp2
    go_step3
    go_wp2
    go_loopg [7, 14] l.length (fun g s7 s14 wx => ∃ k : Nat, k + g = l.length ∧ s14 = .int .i64 k ∧ Hid (Own wx w.heap.size s7 (pickL (l.take k) ns false)) ∧ Gr w wx)
    case atStart => exact ⟨0, by omega, rfl, Own.nil _ _, Gr.refl _⟩
    case round =>
      obtain ⟨k, hkg, rfl, HO, hg⟩ := hrel
      obtain ⟨wo, rfl⟩ : ∃ wo : World, wo = wr := ⟨_, rfl⟩
      cases gk with
      | zero =>
        have hkz : ¬ ((k : Int) < (l.length : Int)) := by omega
        have HE : Hid (l.take k = l) := Lib.hid (List.take_of_length_le (by omega))
        go_wp2
        try rw [Exit.noGoto_ret]
        go_ret
        exact ⟨_, rfl, by have := HO.out; rwa [HE.out] at this, hg⟩
      | succ g =>
        have hkz : (k : Int) < (l.length : Int) := by omega
        have hlt : k < l.length := by omega
        obtain ⟨b, o, rfl, c1, c2, -⟩ := (HL.out.gr hg).at_ hlt
        obtain ⟨x, hx⟩ : ∃ x, l[k] = x := ⟨_, rfl⟩
        have HT : Hid (pickL (l.take (k + 1)) ns false = if hasN ns x.1 == false then pickL (l.take k) ns false ++ [x] else pickL (l.take k) ns false) := Lib.hid (by rw [List.take_succ_eq_append_getElem hlt, hx, pickL_snoc])
        have hpl : (pickL (l.take k) ns false).length ≤ l.length := by have := pickL_len (l.take k) ns false; have h2 : (l.take k).length ≤ l.length := (by simp; omega); omega
        rw [hx] at c1 c2
        clear hx
        have hgs := hg.size
        have HBX : Hid ((wo.alloc (.cells #[.string x.1, .string x.2] 42)).cell? ⟨wo.heap.size, 0, none⟩ = some (.string x.1) ∧ (wo.alloc (.cells #[.string x.1, .string x.2] 42)).cell? ⟨wo.heap.size, 1, none⟩ = some (.string x.2)) := Lib.hid (by constructor <;> go_simp)
        have HO1 := Lib.hid (HO.out.alloc (.cells #[.string x.1, .string x.2] 42))
        have HG1 := Lib.hid (hg.alloc #[.string x.1, .string x.2] 42)
        go_wp2
        go_loopg [7, 20] ns.length (fun g2 s7 s20 wy => ∃ j : Nat, j + g2 = ns.length ∧ s20 = .int .i64 j ∧ Hid (hasN ns x.1 = hasN (ns.drop j) x.1) ∧ Hid (wy.cell? ⟨wo.heap.size, 0, none⟩ = some (.string x.1) ∧ wy.cell? ⟨wo.heap.size, 1, none⟩ = some (.string x.2)) ∧ Hid (Own wy w.heap.size s7 (pickL (l.take k) ns false)) ∧ Gr w wy)
        case atStart => exact ⟨0, by omega, rfl, rfl, HBX, HO1, HG1.out⟩
        case round =>
          clear HBX HO1 HG1
          obtain ⟨j, hjg, rfl, HJ, HB, HO2, hg2⟩ := hrel
          have d1 := HB.out.1
          have d2 := HB.out.2
          cases gk with
          | zero =>
            have hjz : ¬ ((j : Int) < (ns.length : Int)) := by omega
            have hn0 : hasN ns x.1 = false := by rw [HJ.out, List.drop_of_length_le (by omega)]; rfl
            have HN : Hid (pickL (l.take (k + 1)) ns false = pickL (l.take k) ns false ++ [x]) := Lib.hid (by rw [HT.out, hn0]; rfl)
            clear hn0
            go_wp2_with (at_builtin; refine wpList_app rfl rfl (.tmp 36) (.tmp 38) (by rfl) (by rfl) (B := w.heap.size) (l := pickL (l.take k) ns false) (m := [x]) (HO2.out.alloc _) (reads_new wr x) (by simp; omega) (by have := hg2.size; simp; omega) ?_; intro v3 W3 hown3 hbel3 hgrow3 hat3)
            go_roundg g
            case measure => omega
            case rel => exact ⟨k + 1, by omega, by go_num, Lib.hid (by rw [HN.out]; exact hown3), (hg2.alloc _ _).below hbel3 (Nat.le_refl _)⟩
          | succ g2 =>
            have hjz : (j : Int) < (ns.length : Int) := by omega
            obtain ⟨b2, o2, rfl, e1⟩ := (HS.out.gr hg2).at_ (by omega : j < ns.length)
            have HST := Lib.hid (hasN_step (by omega : j < ns.length) x.1)
            obtain ⟨m, hm⟩ : ∃ m, ns[j]'(by omega) = m := ⟨_, rfl⟩
            rw [hm] at e1 HST
            clear hm
            cases eq : (x.1.toList == m.toList)
            · have HJ2 : Hid (hasN ns x.1 = hasN (ns.drop (j + 1)) x.1) := Lib.hid (by rw [HJ.out, HST.out, eq]; rfl)
              go_wp2
              go_roundg g2
              case measure => omega
              case rel => exact ⟨j + 1, by omega, by go_num, HJ2, HB, HO2, hg2⟩
            · have hn1 : hasN ns x.1 = true := by rw [HJ.out, HST.out, eq]; rfl
              have HN : Hid (pickL (l.take (k + 1)) ns false = pickL (l.take k) ns false) := Lib.hid (by rw [HT.out, hn1]; rfl)
              clear hn1
              go_wp2
              go_roundg g
              case measure => omega
              case rel => exact ⟨k + 1, by omega, by go_num, Lib.hid (by rw [HN.out]; exact HO2.out), hg2⟩
  · go_enter Tryz.func93, Tryz.ntmps93
    go_wp2
    go_step3
    go_wp2
    go_step3
    go_wp2
    go_loopg [7, 14] l.length (fun g s7 s14 wx => ∃ k : Nat, k + g = l.length ∧ s14 = .int .i64 k ∧ Hid (Own wx w.heap.size s7 (pickL (l.take k) ns true)) ∧ Gr w wx)
    case atStart => exact ⟨0, by omega, rfl, Own.nil _ _, Gr.refl _⟩
    case round =>
      obtain ⟨k, hkg, rfl, HO, hg⟩ := hrel
      obtain ⟨wo, rfl⟩ : ∃ wo : World, wo = wr := ⟨_, rfl⟩
      cases gk with
      | zero =>
        have hkz : ¬ ((k : Int) < (l.length : Int)) := by omega
        have HE : Hid (l.take k = l) := Lib.hid (List.take_of_length_le (by omega))
        go_wp2
        try rw [Exit.noGoto_ret]
        go_ret
        exact ⟨_, rfl, by have := HO.out; rwa [HE.out] at this, hg⟩
      | succ g =>
        have hkz : (k : Int) < (l.length : Int) := by omega
        have hlt : k < l.length := by omega
        obtain ⟨b, o, rfl, c1, c2, -⟩ := (HL.out.gr hg).at_ hlt
        obtain ⟨x, hx⟩ : ∃ x, l[k] = x := ⟨_, rfl⟩
        have HT : Hid (pickL (l.take (k + 1)) ns true = if hasN ns x.1 == true then pickL (l.take k) ns true ++ [x] else pickL (l.take k) ns true) := Lib.hid (by rw [List.take_succ_eq_append_getElem hlt, hx, pickL_snoc])
        have hpl : (pickL (l.take k) ns true).length ≤ l.length := by have := pickL_len (l.take k) ns true; have h2 : (l.take k).length ≤ l.length := (by simp; omega); omega
        rw [hx] at c1 c2
        clear hx
        have hgs := hg.size
        have HBX : Hid ((wo.alloc (.cells #[.string x.1, .string x.2] 42)).cell? ⟨wo.heap.size, 0, none⟩ = some (.string x.1) ∧ (wo.alloc (.cells #[.string x.1, .string x.2] 42)).cell? ⟨wo.heap.size, 1, none⟩ = some (.string x.2)) := Lib.hid (by constructor <;> go_simp)
        have HO1 := Lib.hid (HO.out.alloc (.cells #[.string x.1, .string x.2] 42))
        have HG1 := Lib.hid (hg.alloc #[.string x.1, .string x.2] 42)
        go_wp2
        go_loopg [7, 20] ns.length (fun g2 s7 s20 wy => ∃ j : Nat, j + g2 = ns.length ∧ s20 = .int .i64 j ∧ Hid (hasN ns x.1 = hasN (ns.drop j) x.1) ∧ Hid (wy.cell? ⟨wo.heap.size, 0, none⟩ = some (.string x.1) ∧ wy.cell? ⟨wo.heap.size, 1, none⟩ = some (.string x.2)) ∧ Hid (Own wy w.heap.size s7 (pickL (l.take k) ns true)) ∧ Gr w wy)
        case atStart => exact ⟨0, by omega, rfl, rfl, HBX, HO1, HG1.out⟩
        case round =>
          clear HBX HO1 HG1
          obtain ⟨j, hjg, rfl, HJ, HB, HO2, hg2⟩ := hrel
          have d1 := HB.out.1
          have d2 := HB.out.2
          cases gk with
          | zero =>
            have hjz : ¬ ((j : Int) < (ns.length : Int)) := by omega
            have hn0 : hasN ns x.1 = false := by rw [HJ.out, List.drop_of_length_le (by omega)]; rfl
            have HN : Hid (pickL (l.take (k + 1)) ns true = pickL (l.take k) ns true) := Lib.hid (by rw [HT.out, hn0]; rfl)
            clear hn0
            go_wp2
            go_roundg g
            case measure => omega
            case rel => exact ⟨k + 1, by omega, by go_num, Lib.hid (by rw [HN.out]; exact HO2.out), hg2⟩
          | succ g2 =>
            have hjz : (j : Int) < (ns.length : Int) := by omega
            obtain ⟨b2, o2, rfl, e1⟩ := (HS.out.gr hg2).at_ (by omega : j < ns.length)
            have HST := Lib.hid (hasN_step (by omega : j < ns.length) x.1)
            obtain ⟨m, hm⟩ : ∃ m, ns[j]'(by omega) = m := ⟨_, rfl⟩
            rw [hm] at e1 HST
            clear hm
            cases eq : (x.1.toList == m.toList)
            · have HJ2 : Hid (hasN ns x.1 = hasN (ns.drop (j + 1)) x.1) := Lib.hid (by rw [HJ.out, HST.out, eq]; rfl)
              go_wp2
              go_roundg g2
              case measure => omega
              case rel => exact ⟨j + 1, by omega, by go_num, HJ2, HB, HO2, hg2⟩
            · have hn1 : hasN ns x.1 = true := by rw [HJ.out, HST.out, eq]; rfl
              have HN : Hid (pickL (l.take (k + 1)) ns true = pickL (l.take k) ns true ++ [x]) := Lib.hid (by rw [HT.out, hn1]; rfl)
              clear hn1
              go_wp2_with (at_builtin; refine wpList_app rfl rfl (.tmp 29) (.tmp 31) (by rfl) (by rfl) (B := w.heap.size) (l := pickL (l.take k) ns true) (m := [x]) (HO2.out.alloc _) (reads_new wr x) (by simp; omega) (by have := hg2.size; simp; omega) ?_; intro v3 W3 hown3 hbel3 hgrow3 hat3)
              go_roundg g
              case measure => omega
              case rel => exact ⟨k + 1, by omega, by go_num, Lib.hid (by rw [HN.out]; exact hown3), (hg2.alloc _ _).below hbel3 (Nat.le_refl _)⟩
end Go.Proofs.YtllhkegefinlbaaGreatDoor
