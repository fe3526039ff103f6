/- A set of matchers, asked of labels. -/
import Derived.Test.YtnlfndhgdeapeaaLLabs
import Derived.Laws.StructEq
import Derived.Lib.QuietBelow
import Derived.Test.YtnlfndhgdeapeaaBytes
import Derived.Deep.LoopGhost
import Derived.Test.YtnlfndhgdeapeaaMHold
namespace Go.Proofs.Ytnlfndhgdeapeaa
open Go.RowKit
set_option maxRecDepth 100000
set_option maxHeartbeats 1000000

theorem eql_lab (a b c d : ByteArray) (w : World) : (binOp .eql 81 (.agg #[.string a, .string b]) (.agg #[.string c, .string d])).run Try.prog w = .ok (.bool (a.toList == c.toList && b.toList == d.toList)) w := by
  have u9 := Try.underlying9
  have a9 := Try.isAgg9
  have z9 := Try.sizeOf9
  have hS : Try.prog.underlying 81 = some (.struct (Try.prog.fieldsOf 81)) := by kernel_rfl
  have hp : Try.prog.stoodInHeld 81 = false := by kernel_rfl
  rw [run_eql_struct, show (10000 : Nat) = 9999 + 1 from rfl, run_equalIn_agg w 9999 81 _ _ hS hp]
  simp only [Program.fieldsOf, Try.underlying81]
  go_simp
  by_cases h1 : a.toList = c.toList <;> by_cases h2 : b.toList = d.toList <;> simp [h1, h2]

def ordS (a b : ByteArray) : Int := if ltS a b then -1 else if a.toList == b.toList then 0 else 1
theorem cmpL_eq (a b c d : ByteArray) : cmpL (a, b) (c, d) = if (a.toList == c.toList) && (b.toList == d.toList) then 0 else if Op.bytesLess a.toList c.toList || (a.toList == c.toList && Op.bytesLess b.toList d.toList) then -1 else 1 := by
  unfold cmpL
  have : ((a, b) = (c, d)) ↔ ((a.toList == c.toList) && (b.toList == d.toList)) = true := by
    rw [Bool.and_eq_true, beq_t, beq_t]; simp
  simp only [this]
  rfl
theorem ordS_eq (a b c d : ByteArray) : cmpL (a, b) (c, d) = if ordS a c = 0 then ordS b d else ordS a c := by
  rw [cmpL_eq]
  unfold ordS ltS
  cases e1 : (a.toList == c.toList)
  · cases Op.bytesLess a.toList c.toList <;> simp
  · have e : a = c := beq_t.1 e1
    subst e
    have e2 : Op.bytesLess a.toList a.toList = false := ltS_irrefl a
    rw [e2]
    cases e3 : (b.toList == d.toList)
    · cases Op.bytesLess b.toList d.toList <;> simp
    · have e : b = d := beq_t.1 e3
      subst e
      have e2 : Op.bytesLess b.toList b.toList = false := ltS_irrefl b
      rw [e2]; simp
/-! lists -/
def cmpLs : List Lb → List Lb → Int
  | [], [] => 0
  | [], _ :: _ => -1
  | _ :: _, [] => 1
  | a :: r, b :: s => if cmpL a b = 0 then cmpLs r s else cmpL a b
theorem drop_lab {l : List Lb} {k : Nat} (h : k < l.length) : l.drop k = l[k] :: l.drop (k + 1) := List.drop_eq_getElem_cons h
theorem cmpLs_step {a b : List Lb} {k : Nat} (ha : k < a.length) (hb : k < b.length) : cmpLs (a.drop k) (b.drop k) = if cmpL a[k] b[k] = 0 then cmpLs (a.drop (k + 1)) (b.drop (k + 1)) else cmpL a[k] b[k] := by
  rw [drop_lab ha, drop_lab hb]; rfl
theorem cmpLs_end {a b : List Lb} {k : Nat} (h1 : k ≤ a.length) (h2 : k ≤ b.length) (h : k = a.length ∨ k = b.length) : cmpLs (a.drop k) (b.drop k) = if a.length < b.length then -1 else if b.length < a.length then 1 else 0 := by
  rcases h with rfl | rfl
  · rw [List.drop_length]
    cases e : b.drop a.length with
    | nil => have := congrArg List.length e; simp at this; rw [if_neg (by omega), if_neg (by omega)]; rfl
    | cons x r => have := congrArg List.length e; simp at this; rw [if_pos (by omega)]; rfl
  · rw [List.drop_length]
    cases e : a.drop b.length with
    | nil => have := congrArg List.length e; simp at this; rw [if_neg (by omega), if_neg (by omega)]; rfl
    | cons x r => have := congrArg List.length e; simp at this; rw [if_neg (by omega), if_pos (by omega)]; rfl

def cmpI (a b : Int) : Int := if a < b then -1 else if b < a then 1 else 0
theorem cmpLs_0_iff : ∀ (a b : List Lb), cmpLs a b = 0 ↔ a = b
  | [], [] => by simp [cmpLs]
  | [], _ :: _ => by simp [cmpLs]
  | _ :: _, [] => by simp [cmpLs]
  | x :: r, y :: s => by
    have ih := cmpLs_0_iff r s
    unfold cmpLs
    by_cases h : x = y
    · subst h
      have : cmpL x x = 0 := by simp [cmpL]
      rw [if_pos this, ih]; simp
    · have : cmpL x y ≠ 0 := by unfold cmpL; rw [if_neg h]; split <;> omega
      rw [if_neg this]
      simp [h, this]
/-- a contract of the kind 'nothing that was there has changed', in the worlds of a region that draws -/
theorem gq {f : FuncId} {args : Array Value} {v : Value} {W : World} (h : ∀ W', Gr W W' → Calls Try.prog f args W' fun e w' => e = .returned v ∧ Gr W' w') (d : Nat) (os : Array Obj) :
    Calls Try.prog f args (Go.Sort.grow (redrawn W d) os) fun e w'' => e = .returned v ∧ ∃ q : Regrown, w'' = Go.Sort.grow (redrawn W q.d) q.os :=
  Calls.regrown_of ((h _ ⟨below_regrown W d os⟩).mono fun _ _ ⟨h, g⟩ => ⟨h, g.b⟩)
end Go.Proofs.Ytnlfndhgdeapeaa
namespace Go.Proofs.Ytnlfndhgdeapeaa
open Go.RowKit Go.Sort
set_option maxRecDepth 100000
set_option maxHeartbeats 4000000

/-! Get -/
def getL : List Lb → ByteArray → ByteArray
  | [], _ => ⟨#[]⟩
  | x :: r, n => if x.1.toList == n.toList then x.2 else getL r n
theorem getL_step {l : List Lb} {k : Nat} (h : k < l.length) (n : ByteArray) : getL (l.drop k) n = if (l[k]).1.toList == n.toList then (l[k]).2 else getL (l.drop (k + 1)) n := by
  rw [drop_lab h]; rfl
theorem get_any (A : Option Addr) (l : List Lb) (c : Nat) (n : ByteArray) (w : World) (h : LabsAt w A l) (hl : l.length ≤ 1099511627776) :
    Calls Try.prog 39 #[.slice A l.length c, .string n] w fun e w' => e = .returned (.string (getL l n)) ∧ Gr w w' := by
  have HL := Lib.hid h
  clear h
  go_enter Try.func39, Try.ntmps39
  go_wp2
  go_loopw [9] (fun i wr => ∃ k : Nat, k ≤ l.length ∧ i = .int .i64 k ∧ Hid (getL l n = getL (l.drop k) n) ∧ Gr w wr) (fun i _ => l.length - (intOf i).toNat)
  case atStart => exact ⟨0, Nat.zero_le _, rfl, rfl, Gr.refl _⟩
  case round =>
    obtain ⟨k, hk, rfl, HR, hg⟩ := hrel
    by_cases hlt : k < l.length
    · obtain ⟨b, o, rfl, c1, c2, -⟩ := (HL.out.gr hg).at_ hlt
      have HS := Lib.hid (getL_step hlt n)
      obtain ⟨x, hx⟩ : ∃ x, l[k] = x := ⟨_, rfl⟩
      rw [hx] at c1 c2 HS
      clear hx
      cases e1 : (x.1.toList == n.toList)
      · have HN : Hid (getL l n = getL (l.drop (k + 1)) n) := Lib.hid (by rw [HR.out, HS.out, e1]; rfl)
        go_wp2
        go_roundw
        case rel => exact ⟨k + 1, by omega, by go_num, HN, by go_simp; exact hg.alloc _ _⟩
        case measure => simp [intOf]; omega
      · have HN : Hid (getL l n = x.2) := Lib.hid (by rw [HR.out, HS.out, e1]; rfl)
        go_wp2
        go_ret
        exact ⟨by rw [HN.out]; rfl, by go_simp; exact hg.alloc _ _⟩
    · obtain rfl : k = l.length := by omega
      have HN : Hid (getL l n = ⟨#[]⟩) := Lib.hid (by rw [HR.out, List.drop_length]; rfl)
      go_wp2
      go_ret
      exact ⟨by rw [HN.out]; rfl, hg⟩

/-! a slice of texts -/
def StrsAt (W : World) (A : Option Addr) (l : List ByteArray) : Prop :=
  0 < l.length → ∃ b o, A = some ⟨b, o, none⟩ ∧ ∀ i x, l[i]? = some x → W.cell? ⟨b, o + i, none⟩ = some (.string x)
theorem StrsAt.gr {W W' : World} {A : Option Addr} {l : List ByteArray} (h : StrsAt W A l) (g : Gr W W') : StrsAt W' A l := fun h0 => by
  obtain ⟨b, o, e, hc⟩ := h h0
  exact ⟨b, o, e, fun i x hx => g.cell (hc i x hx)⟩
theorem StrsAt.at_ {W : World} {A : Option Addr} {l : List ByteArray} (h : StrsAt W A l) {k : Nat} (hk : k < l.length) :
    ∃ b o, A = some ⟨b, o, none⟩ ∧ W.cell? ⟨b, o + k, none⟩ = some (.string l[k]) := by
  obtain ⟨b, o, e, hc⟩ := h (by omega)
  exact ⟨b, o, e, hc k _ (List.getElem?_eq_getElem hk)⟩
theorem StrsAt.none_ (W : World) (A : Option Addr) : StrsAt W A [] := fun h => absurd h (by simp)
def hasN (ns : List ByteArray) (n : ByteArray) : Bool := ns.any fun m => n.toList == m.toList
theorem hasN_step {ns : List ByteArray} {k : Nat} (h : k < ns.length) (n : ByteArray) : hasN (ns.drop k) n = ((n.toList == ns[k].toList) || hasN (ns.drop (k + 1)) n) := by
  unfold hasN; rw [List.drop_eq_getElem_cons h]; rfl
def pickL (l : List Lb) (ns : List ByteArray) (am : Bool) : List Lb := l.filter fun x => hasN ns x.1 == am
theorem pickL_snoc (l : List Lb) (ns : List ByteArray) (am : Bool) (x : Lb) : pickL (l ++ [x]) ns am = if hasN ns x.1 == am then pickL l ns am ++ [x] else pickL l ns am := by
  unfold pickL
  rw [List.filter_append]
  cases h : (hasN ns x.1 == am)
  · simp [h]
  · simp [h]
theorem pickL_len (l : List Lb) (ns : List ByteArray) (am : Bool) : (pickL l ns am).length ≤ l.length := List.length_filter_le _ _

end Go.Proofs.Ytnlfndhgdeapeaa
namespace Go.Proofs.Ytnlfndhgdeapeaa
open Go.RowKit Go.Maps Go.WideMaps
set_option maxRecDepth 100000
set_option maxHeartbeats 4000000

theorem kind_of {m : Mt} (h : checkM m = 0) : m.k = 1 ∨ m.k = 2 ∨ m.k = 3 ∨ m.k = 4 := by
  rcases kind_cases m.k with e | e | e | e | e
  · exact .inl e
  · exact .inr (.inl e)
  · exact .inr (.inr (.inl e))
  · exact .inr (.inr (.inr e))
  · exfalso
    unfold checkM at h
    rw [if_pos (.inl e.2.2.2.2.1)] at h
    cases h
theorem holds_any (S : Nat) (l : List Mt) (m : Mt) (v : ByteArray) (w : World) (h : SetB w S l) (hm : m ∈ l) (hs : m.v.size ≤ maxLen) (hv : v.size ≤ 1000000000000) (hc : checkM m = 0) :
    Calls Try.prog 38 #[.pointer (some ⟨S, 0, none⟩), .agg #[.int .i64 m.k, .string m.n, .string m.v], .string v] w fun e w' => e = .returned (.bool (holdM m v)) ∧ Gr w w' := by
  rcases kind_of hc with e | e | e | e
  · exact holds_plain S m v w (.inl e)
  · exact holds_plain S m v w (.inr e)
  · exact holds_like S l m v w h hm hs hv (.inl e)
  · exact holds_like S l m v w h hm hs hv (.inr e)
theorem getL_size {l : List Lb} (n : ByteArray) (h : ∀ x ∈ l, x.2.size ≤ 1000000000000) : (getL l n).size ≤ 1000000000000 := by
  induction l with
  | nil => exact Nat.zero_le _
  | cons x r ih =>
    unfold getL
    split
    · exact h x (List.mem_cons_self ..)
    · exact ih fun y hy => h y (List.mem_cons_of_mem _ hy)
/-- do all matchers hold of a list of labels? -/
def matchL (l : List Mt) (s : List Lb) : Bool := l.all fun m => holdM m (getL s m.n)
theorem matchL_step {l : List Mt} {k : Nat} (h : k < l.length) (s : List Lb) : matchL (l.drop k) s = (holdM l[k] (getL s l[k].n) && matchL (l.drop (k + 1)) s) := by
  unfold matchL
  rw [List.drop_eq_getElem_cons h, List.all_cons]
theorem SetB.row {W : World} {S : Nat} {l : List Mt} (h : SetB W S l) : ∃ A c, W.cell? ⟨S, 0, none⟩ = some (.slice A l.length c) ∧ MatsAt W A l := by
  obtain ⟨A, c, M, h1, h2, -⟩ := h.s
  exact ⟨A, c, cell_of_row W S 0 _ _ (0, 0) h1, h2⟩
theorem match_set (S : Nat) (l : List Mt) (B : Option Addr) (s : List Lb) (d : Nat) (w : World) (h : SetB w S l) (hw : Wm l) (hc : ∀ x ∈ l, checkM x = 0) (hn : l.length ≤ 32) (hB : LabsAt w B s) (hs : s.length ≤ 1099511627776) (hv : ∀ x ∈ s, x.2.size ≤ 1000000000000) :
    Calls Try.prog 20 #[.pointer (some ⟨S, 0, none⟩), .slice B s.length d] w fun e w' => e = .returned (.bool (matchL l s)) ∧ Gr w w' := by
  have CH := Lib.hid (fun (m : Mt) (v : ByteArray) W (g : Gr w W) (hm : m ∈ l) (hv : v.size ≤ 1000000000000) => holds_any S l m v W (h.gr g) hm (hw m hm).2 hv (hc m hm))
  have CG := Lib.hid (fun (n : ByteArray) W (g : Gr w W) => get_any B s d n W (hB.gr g) hs)
  have HV := Lib.hid (fun n => getL_size n hv)
  obtain ⟨A, c, c0, hA⟩ := h.row
  have HA := Lib.hid hA
  clear h hw hc hB hs hv hA
  go_enter Try.func20, Try.ntmps20
  go_wp2
  have HC := Lib.hid c0
  clear c0
  go_loopw [12] (fun i wr => ∃ k : Nat, k ≤ l.length ∧ i = .int .i64 k ∧ Hid (matchL l s = matchL (l.drop k) s) ∧ Gr w wr) (fun i _ => l.length - (intOf i).toNat)
  case atStart => exact ⟨0, Nat.zero_le _, rfl, rfl, Gr.refl _⟩
  case round =>
    obtain ⟨k, hk, rfl, HR, hg⟩ := hrel
    by_cases hlt : k < l.length
    · obtain ⟨b, o, rfl, c1, c2, c3, -⟩ := (HA.out.gr hg).at_ hlt
      have n3 : (k : Int) < (l.length : Int) := by omega
      have HS := Lib.hid (matchL_step hlt s)
      have hm := List.getElem_mem hlt
      have c4 := fun W g v hv => CH.out l[k] v W g hm hv
      obtain ⟨⟨mk, mn, mv⟩, hx⟩ : ∃ x, l[k] = x := ⟨_, rfl⟩
      rw [hx] at c1 c2 c3 HS c4
      simp only at c1 c2 c3 c4
      have C4 := Lib.hid c4
      have CG2 := Lib.hid (CG.out mn)
      have hgs := HV.out mn
      obtain ⟨v, hv⟩ : ∃ v, getL s mn = v := ⟨_, rfl⟩
      rw [hv] at CG2 hgs
      have HS2 : Hid (matchL (l.drop k) s = (holdM ⟨mk, mn, mv⟩ v && matchL (l.drop (k + 1)) s)) := Lib.hid (by rw [HS.out, hv])
      have HZ := Lib.hid hgs
      obtain ⟨x, hxe⟩ : ∃ x, holdM ⟨mk, mn, mv⟩ v = x := ⟨_, rfl⟩
      have C5 : Hid (∀ W, Gr w W → Calls Try.prog 38 #[.pointer (some ⟨S, 0, none⟩), .agg #[.int .i64 mk, .string mn, .string mv], .string v] W fun e w' => e = .returned (.bool x) ∧ Gr W w') := Lib.hid (fun W g => by rw [← hxe]; exact C4.out W g v HZ.out)
      rw [hxe] at HS2
      clear hx hm c4 C4 hv hgs HS hxe
      go_upto_region 4 with fail
      obtain ⟨W1, hW1⟩ : ∃ W1, (wr.alloc (.cells #[.int .i64 mk, .string mn, .string mv] 33)) = W1 := ⟨_, rfl⟩
      have g1 : Gr w W1 := by rw [← hW1]; exact hg.alloc _ _
      have f1 : W1.cell? ⟨wr.heap.size, 0, none⟩ = some (.int .i64 mk) := by subst hW1; go_simp
      have f2 : W1.cell? ⟨wr.heap.size, 1, none⟩ = some (.string mn) := by subst hW1; go_simp
      have f3 : W1.cell? ⟨wr.heap.size, 2, none⟩ = some (.string mv) := by subst hW1; go_simp
      rw [hW1]
      have HG1 := Lib.hid g1.drew
      clear hW1 c1 c2 c3 g1
      cases x
      all_goals
        go_region_held3 (fun w' => w'.cell? ⟨wr.heap.size, 0, none⟩ = some (.int .i64 mk) ∧ w'.cell? ⟨wr.heap.size, 1, none⟩ = some (.string mn) ∧ w'.cell? ⟨wr.heap.size, 2, none⟩ = some (.string mv))
          (first | exact ⟨j1, j2, j3⟩ | exact ⟨i1, i2, i3⟩ | exact ⟨f1, f2, f3⟩ | go_keep)
          (first
            | (go_at_call 39
               refine (CG2.out _ HG1.out).mono ?_
               rintro e w4 ⟨rfl, g4⟩
               have i1 := g4.cell (b := wr.heap.size) (o := 0) f1
               have i2 := g4.cell (b := wr.heap.size) (o := 1) f2
               have i3 := g4.cell (b := wr.heap.size) (o := 2) f3
               have HG4 := Lib.hid (HG1.out.trans g4)
               clear g4)
            | (go_at_call 38
               refine (C5.out _ HG4.out).mono ?_
               rintro e w5 ⟨rfl, g5⟩
               have j1 := g5.cell i1
               have j2 := g5.cell i2
               have j3 := g5.cell i3
               have HG5 := Lib.hid (HG4.out.trans g5)
               clear g5))
      · have HN : Hid (matchL l s = false) := Lib.hid (by rw [HR.out, HS2.out]; rfl)
        go_wp2
        go_ret
        exact ⟨by rw [HN.out]; rfl, HG5.out⟩
      · have HN : Hid (matchL l s = matchL (l.drop (k + 1)) s) := Lib.hid (by rw [HR.out, HS2.out]; rfl)
        go_wp2
        go_roundw
        case rel => exact ⟨k + 1, by omega, by go_num, HN, HG5.out⟩
        case measure => simp [intOf]; omega
    · obtain rfl : k = l.length := by omega
      have HN : Hid (matchL l s = true) := Lib.hid (by rw [HR.out, List.drop_length]; rfl)
      have n3 : ¬ (l.length : Int) < (l.length : Int) := by omega
      go_wp2
      go_ret
      exact ⟨by rw [HN.out]; rfl, hg⟩
end Go.Proofs.Ytnlfndhgdeapeaa
