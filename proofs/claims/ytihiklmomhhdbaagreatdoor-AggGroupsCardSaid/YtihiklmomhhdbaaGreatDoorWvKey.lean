/- How doubles stand to each other, by their bits: the order of IEEE 754 is the order of whole numbers (the rungs with their signs), but where an operand is a NaN. -/
import Derived.Test.YtihiklmomhhdbaaGreatDoorPut
import Derived.Test.YtihiklmomhhdbaaGreatDoorText
import Derived.Test.YtihiklmomhhdbaaGreatDoorRefRight
import Ieee.Arith
namespace Go.Proofs.YtihiklmomhhdbaaGreatDoor
open Go.RowKit Go.Sort
set_option maxRecDepth 100000
set_option maxHeartbeats 4000000

theorem setL_snoc (r : List Lb) (x : Lb) : setL (r ++ [x]) = if full x then putL (setL r) x else setL r := by
  unfold setL
  rw [List.filter_append]
  cases h : full x
  · rw [List.filter_cons_of_neg (by simp [h])]; simp
  · rw [List.filter_cons_of_pos h, List.foldl_append]; simp
def noDup (l : List Lb) (k j : Nat) : Prop := ∀ t x y, t < j → l[t]? = some x → l[k]? = some y → x.1 ≠ y.1
theorem setP_s {l : List Lb} {k : Nat} {x : Lb} (hx : l[k]? = some x) (h : setP (l.take k)) (ho : okN x = true) (hd : noDup l k k) : setP (l.take (k + 1)) := by
  obtain ⟨hk, rfl⟩ := List.getElem?_eq_some_iff.1 hx
  rw [List.take_succ_eq_append_getElem hk]
  refine ⟨fun y hy => ?_, ?_⟩
  · rcases List.mem_append.1 hy with hy | hy
    · exact h.1 y hy
    · rw [List.mem_singleton] at hy; rw [hy]; exact ho
  · rw [List.map_append, List.nodup_append]
    refine ⟨h.2, by simp, fun a ha b hb => ?_⟩
    obtain ⟨y, hy, rfl⟩ := List.mem_map.1 ha
    obtain rfl : b = (l[k]).1 := by simpa using hb
    obtain ⟨t, ht, rfl⟩ := List.getElem_of_mem hy
    simp only [List.length_take] at ht
    rw [List.getElem_take]
    exact hd t _ _ (by omega) (List.getElem?_eq_getElem (by omega)) hx
theorem setP_dup {l : List Lb} {k j : Nat} {x y : Lb} (hx : l[j]? = some x) (hy : l[k]? = some y) (hj : j < k) (e : x.1 = y.1) : ¬ setP l := by
  intro hp
  obtain ⟨hj', rfl⟩ := List.getElem?_eq_some_iff.1 hx
  obtain ⟨hk', rfl⟩ := List.getElem?_eq_some_iff.1 hy
  have := hp.2
  unfold List.Nodup at this
  rw [List.pairwise_map, List.pairwise_iff_getElem] at this
  exact this j k hj' hk' hj e

end Go.Proofs.YtihiklmomhhdbaaGreatDoor
namespace Go.Proofs.YtihiklmomhhdbaaGreatDoor
open Go.RowKit Go.Sort
set_option maxRecDepth 100000
set_option maxHeartbeats 4000000

def nmsB (ns : List ByteArray) : Bool := ns.all fun x => decide (x.size ≤ 400)
theorem nms_not {ns : List ByteArray} {k : Nat} (h : k < ns.length) (g : 400 < (ns[k]).size) : nmsB ns = false := by
  unfold nmsB
  rw [List.all_eq_false]
  exact ⟨_, List.getElem_mem h, by simpa using g⟩
theorem nms_all {ns : List ByteArray} (h : ∀ i x, i < ns.length → ns[i]? = some x → x.size ≤ 400) : nmsB ns = true := by
  unfold nmsB
  rw [List.all_eq_true]
  intro x hx
  obtain ⟨i, hi, rfl⟩ := List.getElem_of_mem hx
  simpa using h i _ hi (List.getElem?_eq_getElem hi)
def nmsTo (ns : List ByteArray) (k : Nat) : Prop := ∀ i x, i < k → ns[i]? = some x → x.size ≤ 400
theorem nmsTo_s {ns : List ByteArray} {k : Nat} (hk : k < ns.length) (h : nmsTo ns k) (g : (ns[k]).size ≤ 400) : nmsTo ns (k + 1) := fun i x hi hx => by
  by_cases e : i = k
  · subst e; rw [List.getElem?_eq_getElem hk] at hx; cases hx; exact g
  · exact h i x (by omega) hx
end Go.Proofs.YtihiklmomhhdbaaGreatDoor
namespace Go.Proofs.YtihiklmomhhdbaaGreatDoor
open Go.RowKit Go.Sort
set_option maxRecDepth 100000
set_option maxHeartbeats 4000000

theorem strs_one (W : World) (x : ByteArray) : StrsAt (W.alloc (.cells #[.string x] 9)) (some ⟨W.heap.size, 0, none⟩) [x] := fun _ =>
  ⟨W.heap.size, 0, rfl, fun i y hy => by
    match i, hy with
    | 0, hy =>
      obtain rfl : x = y := by simpa using hy
      go_simp⟩
def outL (l : List Lb) (nm vl : ByteArray) : List Lb := if vl.size = 0 then pickL l [nm] false else putL (pickL l [nm] false) (nm, vl)
def withL (l : List Lb) (nm vl : ByteArray) : List Lb := if rightB (outL l nm vl) then outL l nm vl else l
theorem pickL_wd {l : List Lb} (h : Wd l) (ns : List ByteArray) (am : Bool) : Wd (pickL l ns am) := fun x hx => h x (List.mem_filter.1 hx).1
theorem putL_len (l : List Lb) (x : Lb) : (putL l x).length = l.length + 1 := by rw [(putL_perm l x).length_eq]; rfl
theorem outL_len (l : List Lb) (nm vl : ByteArray) : (outL l nm vl).length ≤ l.length + 1 := by
  unfold outL
  have := pickL_len l [nm] false
  split
  · omega
  · rw [putL_len]; omega
theorem outL_wd {l : List Lb} (h : Wd l) {nm vl : ByteArray} (h1 : nm.size ≤ maxLen) (h2 : vl.size ≤ maxLen) : Wd (outL l nm vl) := by
  unfold outL
  split
  · exact pickL_wd h _ _
  · intro x hx
    rcases List.mem_cons.1 ((putL_perm _ _).mem_iff.1 hx) with rfl | hx
    · exact ⟨h1, h2⟩
    · exact pickL_wd h _ _ x hx
def ListPost (l : List Lb) (w : World) (e : Ending) (w' : World) : Prop := ∃ A c, e = .returned (.slice A l.length c) ∧ LabsAt w' A l ∧ Gr w w'

/-- what With hands back: what it was handed, or labels in new memory -/
def RwPost (A0 : Option Addr) (l0 l : List Lb) (w : World) (e : Ending) (w' : World) : Prop :=
  ∃ A c, e = .returned (.slice A l.length c) ∧ LabsAt w' A l ∧ Gr w w' ∧ ((A = A0 ∧ l = l0) ∨ ∀ b, (Value.slice A l.length c).ownBlock = some b → w.heap.size ≤ b)
/-! Group -/
def groupL (l : List Lb) (how : Int) (ns : List ByteArray) : List Lb := if how = 1 then pickL l ns true else if how = 2 then pickL l (nmB :: ns) false else []
theorem pick_two (l : List Lb) (ns : List ByteArray) : pickL (pickL l ns false) [nmB] false = pickL l (nmB :: ns) false := by
  unfold pickL
  rw [List.filter_filter]
  congr 1
  funext x
  unfold hasN
  simp only [List.any_cons, List.any_nil, Bool.or_false]
  cases (x.1.toList == nmB.toList) <;> cases (ns.any fun m => x.1.toList == m.toList) <;> rfl
/-- what Group hands back: labels in new memory -/
def NewPost (l : List Lb) (w : World) (e : Ending) (w' : World) : Prop := ∃ A c, e = .returned (.slice A l.length c) ∧ LabsAt w' A l ∧ Gr w w' ∧ ∀ b, (Value.slice A l.length c).ownBlock = some b → w.heap.size ≤ b
theorem groupF_any (A N : Option Addr) (l : List Lb) (ns : List ByteArray) (c d : Nat) (how : Int) (w : World) (h : LabsAt w A l) (hs : StrsAt w N ns) (hl : l.length ≤ 549755813888) (hn : ns.length ≤ 1099511627776) :
    Calls Tryz.prog 121 #[.slice A l.length c, .agg #[.int .i64 how, .slice N ns.length d]] w (NewPost (groupL l how ns) w) := by
  have B1 : Gr w (w.alloc (.cells #[.int .i64 how, .slice N ns.length d] 49)) := (Gr.refl w).alloc _ _
  have CK := Lib.hid (keep_any A N l ns c d _ (h.gr B1) (hs.gr B1) hl hn)
  have CD := Lib.hid (drop_any A N l ns c d _ (h.gr B1) (hs.gr B1) hl hn)
  have HB := Lib.hid B1
  clear h hs B1
  by_cases e1 : how = 1
  · subst e1
    have HG : Hid (groupL l 1 ns = pickL l ns true) := Lib.hid rfl
    go_enter Tryz.func121, Tryz.ntmps121
    go_wp2_with fail
    refine CK.out.mono ?_
    rintro e w1 ⟨v1, rfl, hown, hg⟩
    obtain ⟨A1, c1, rfl, hl1, -⟩ := hown.form
    have HB1 : Hid (∀ b, (Value.slice A1 (pickL l ns true).length c1).ownBlock = some b → w.heap.size ≤ b) := Lib.hid (fun b hb => by have := (hown.lt (k := b) hb).1; simp at this; omega)
    have HL1 := Lib.hid hl1
    clear hown hl1
    go_wp2
    go_ret
    exact ⟨_, _, by rw [HG.out]; rfl, by rw [HG.out]; exact HL1.out, HB.out.trans hg, by rw [HG.out]; exact HB1.out⟩
  by_cases e2 : how = 2
  · subst e2
    have HG : Hid (groupL l 2 ns = pickL (pickL l ns false) [nmB] false) := Lib.hid (by rw [pick_two]; rfl)
    have hpl := pickL_len l ns false
    go_enter Tryz.func121, Tryz.ntmps121
    go_wp2_with fail
    refine CD.out.mono ?_
    rintro e w1 ⟨v1, rfl, hown, hg⟩
    obtain ⟨A1, c1, rfl, hl1, -⟩ := hown.form
    have HZ : Hid (w.heap.size ≤ w1.heap.size) := Lib.hid (HB.out.trans hg).size
    have CD2 := Lib.hid (drop_any A1 (some ⟨w1.heap.size, 0, none⟩) _ [nmB] c1 1 (w1.alloc (.cells #[.string nmB] 9)) (hl1.gr ((Gr.refl w1).alloc _ _)) (strs_one w1 nmB) (by omega) (by simp))
    clear hown hl1
    go_wp2_with fail
    refine CD2.out.mono ?_
    rintro e w2 ⟨v2, rfl, hown2, hg2⟩
    obtain ⟨A2, c2, rfl, hl2, -⟩ := hown2.form
    have HB2 : Hid (∀ b, (Value.slice A2 (pickL (pickL l ns false) [nmB] false).length c2).ownBlock = some b → w.heap.size ≤ b) := Lib.hid (fun b hb => by have := (hown2.lt (k := b) hb).1; have := HZ.out; simp at *; omega)
    have HL2 := Lib.hid hl2
    clear hown2 hl2
    go_wp2
    go_ret
    exact ⟨_, _, by rw [HG.out]; rfl, by rw [HG.out]; exact HL2.out, (HB.out.trans hg).trans (((Gr.refl w1).alloc _ _).trans hg2), by rw [HG.out]; exact HB2.out⟩
  · have HG : Hid (groupL l how ns = []) := Lib.hid (by unfold groupL; rw [if_neg e1, if_neg e2])
    have d1 : (how == 1) = false := by simpa using e1
    have d2 : (how == 2) = false := by simpa using e2
    go_enter Tryz.func121, Tryz.ntmps121
    go_wp2
    go_ret
    exact ⟨_, _, by rw [HG.out]; rfl, by rw [HG.out]; exact LabsAt.none_ _ _, HB.out, fun b hb => by simp [Value.ownBlock] at hb⟩
theorem group_any (A N : Option Addr) (l : List Lb) (ns : List ByteArray) (c d : Nat) (how : Int) (w : World) (h : LabsAt w A l) (hs : StrsAt w N ns) (hl : l.length ≤ 549755813888) (hn : ns.length ≤ 1099511627776) :
    Calls Tryz.prog 121 #[.slice A l.length c, .agg #[.int .i64 how, .slice N ns.length d]] w (ListPost (groupL l how ns) w) :=
  (groupF_any A N l ns c d how w h hs hl hn).mono fun _ _ ⟨A', c', h1, h2, h3, _⟩ => ⟨A', c', h1, h2, h3⟩
end Go.Proofs.YtihiklmomhhdbaaGreatDoor
namespace Go.Proofs.YtihiklmomhhdbaaGreatDoor.Wv.Flo

def B : Nat := 2 ^ 52
/-- a rung's magnitude, in units of the least place -/
def val (r : Nat) : Nat := if r < 2 ^ 52 then r else (2 ^ 52 + r % 2 ^ 52) * 2 ^ (r / 2 ^ 52 - 1)

theorem val_zero : val 0 = 0 := by simp [val]

theorem val_mono {a b : Nat} (h : a < b) : val a < val b := by
  unfold val
  by_cases hb : b < 2 ^ 52
  · rw [if_pos hb, if_pos (by omega)]; exact h
  · rw [if_neg hb]
    have p1 : 0 < 2 ^ (b / 2 ^ 52 - 1) := Nat.two_pow_pos _
    have hbl : 2 ^ 52 * 2 ^ (b / 2 ^ 52 - 1) ≤ (2 ^ 52 + b % 2 ^ 52) * 2 ^ (b / 2 ^ 52 - 1) := Nat.mul_le_mul_right _ (by omega)
    by_cases ha : a < 2 ^ 52
    · rw [if_pos ha]
      have : 2 ^ 52 * 1 ≤ 2 ^ 52 * 2 ^ (b / 2 ^ 52 - 1) := Nat.mul_le_mul_left _ p1
      omega
    · rw [if_neg ha]
      have hq : a / 2 ^ 52 ≤ b / 2 ^ 52 := Nat.div_le_div_right (by omega)
      by_cases hqe : a / 2 ^ 52 = b / 2 ^ 52
      · rw [hqe]
        refine Nat.mul_lt_mul_of_pos_right ?_ p1
        omega
      · have h2 : a / 2 ^ 52 ≤ b / 2 ^ 52 - 1 := by omega
        have h3 : (2 ^ 52 + a % 2 ^ 52) * 2 ^ (a / 2 ^ 52 - 1) < (2 ^ 52 + 2 ^ 52) * 2 ^ (a / 2 ^ 52 - 1) :=
          Nat.mul_lt_mul_of_pos_right (by omega) (Nat.two_pow_pos _)
        have h4 : (2 ^ 52 + 2 ^ 52) * 2 ^ (a / 2 ^ 52 - 1) = 2 ^ 52 * 2 ^ (a / 2 ^ 52) := by
          have h5 : a / 2 ^ 52 = (a / 2 ^ 52 - 1) + 1 := by omega
          generalize a / 2 ^ 52 = q at *
          rw [h5, Nat.pow_succ]; simp only [Nat.add_sub_cancel]; omega
        have h6 : 2 ^ 52 * 2 ^ (a / 2 ^ 52) ≤ 2 ^ 52 * 2 ^ (b / 2 ^ 52 - 1) := Nat.mul_le_mul_left _ (Nat.pow_le_pow_right (by omega) h2)
        omega

theorem val_lt {a b : Nat} : val a < val b ↔ a < b := by
  constructor
  · intro h
    rcases Nat.lt_trichotomy a b with g | g | g
    · exact g
    · subst g; omega
    · have := val_mono g; omega
  · exact val_mono

theorem val_inj {a b : Nat} : val a = val b ↔ a = b := by
  constructor
  · intro h
    rcases Nat.lt_trichotomy a b with g | g | g
    · have := val_mono g; omega
    · exact g
    · have := val_mono g; omega
  · intro h; rw [h]

/-- the sign bit, as a Bool -/
def sgn (x : Nat) : Bool := x / 2 ^ 63 % 2 == 1
/-- the rung -/
def rung (x : Nat) : Nat := x % 2 ^ 63
def isNan (x : Nat) : Bool := decide (0x7FF0000000000000 < rung x)
/-- what a double counts, where it is no NaN -/
def key (x : Nat) : Int := if sgn x then -(rung x : Int) else (rung x : Int)

def sv (s : Bool) (n : Nat) : Int := if s then -(n : Int) else (n : Int)

theorem signed_eq (s : Bool) (m u : Nat) : Ieee.signed s m u = sv s (m * 2 ^ u) := by
  simp [Ieee.signed, sv, Nat.shiftLeft_eq]

theorem sv_mul (s : Bool) (n k : Nat) : sv s (n * k) = sv s n * (k : Int) := by
  cases s <;> simp [sv, Int.neg_mul]

theorem compare_mul (a b : Int) (k : Nat) (hk : 0 < k) : compare (a * (k : Int)) (b * (k : Int)) = compare a b := by
  have hk' : (0 : Int) < k := by omega
  simp only [compare, compareOfLessAndEq]
  have h1 : a * (k : Int) < b * (k : Int) ↔ a < b := Int.mul_lt_mul_right hk'
  have h2 : a * (k : Int) = b * (k : Int) ↔ a = b := by
    constructor
    · intro h; exact Int.eq_of_mul_eq_mul_right (by omega) h
    · intro h; rw [h]
  simp only [h1, h2]

theorem compare_sv (s t : Bool) (a b : Nat) : compare (sv s (val a)) (sv t (val b)) = compare (sv s a) (sv t b) := by
  have h0 : ∀ n, 0 < n → 0 < val n := fun n h => by have := val_mono h; rw [val_zero] at this; exact this
  have ha0 : val a = 0 ↔ a = 0 := by
    constructor
    · intro h; rcases Nat.eq_zero_or_pos a with g | g
      · exact g
      · have := h0 a g; omega
    · intro h; rw [h]; exact val_zero
  have hb0 : val b = 0 ↔ b = 0 := by
    constructor
    · intro h; rcases Nat.eq_zero_or_pos b with g | g
      · exact g
      · have := h0 b g; omega
    · intro h; rw [h]; exact val_zero
  have h1 := @val_lt a b
  have h2 := @val_lt b a
  simp only [compare, compareOfLessAndEq]
  have e1 : sv s (val a) < sv t (val b) ↔ sv s a < sv t b := by
    cases s <;> cases t <;> simp only [sv, if_true, if_false, Bool.false_eq_true] <;> omega
  have e2 : sv s (val a) = sv t (val b) ↔ sv s a = sv t b := by
    cases s <;> cases t <;> simp only [sv, if_true, if_false, Bool.false_eq_true] <;> omega
  simp only [e1, e2]

inductive Shape (x : Nat) : Prop where
  | num (m p : Nat) (hm : m * 2 ^ p = val (rung x)) (hl : m < 2 ^ 53) (hr : rung x < 0x7FF0000000000000) (h : Ieee.double.read x = .number (sgn x) m (-1074 + (p : Int))) : Shape x
  | inf (hr : rung x = 0x7FF0000000000000) (h : Ieee.double.read x = .infinity (sgn x)) : Shape x
  | nan (hr : 0x7FF0000000000000 < rung x) (h : Ieee.double.read x = .nan (sgn x) (rung x - 0x7FF0000000000000)) : Shape x

theorem shape (x : Nat) : Shape x := by
  have e1 : Ieee.double.signWeight = 2 ^ 63 := rfl
  have e2 : Ieee.double.binade = 2 ^ 52 := rfl
  have e3 : Ieee.double.infRung = 0x7FF0000000000000 := rfl
  have e4 : Ieee.double.leastPlace = -1074 := by decide
  have hr : Ieee.double.read x = (if rung x < 2 ^ 52 then .number (sgn x) (rung x) (-1074) else if rung x < 0x7FF0000000000000 then .number (sgn x) (2 ^ 52 + rung x % 2 ^ 52) (-1074 + ((rung x / 2 ^ 52 - 1 : Nat) : Int)) else if rung x = 0x7FF0000000000000 then .infinity (sgn x) else .nan (sgn x) (rung x - 0x7FF0000000000000)) := by
    unfold Ieee.Format.read
    rw [e1, e2, e3, e4]
    rfl
  by_cases h1 : rung x < 2 ^ 52
  · refine .num (rung x) 0 ?_ (by omega) (by omega) ?_
    · simp [val, h1]
    · rw [hr, if_pos h1]; rfl
  · by_cases h2 : rung x < 0x7FF0000000000000
    · refine .num (2 ^ 52 + rung x % 2 ^ 52) (rung x / 2 ^ 52 - 1) ?_ (by omega) h2 ?_
      · simp only [val, if_neg h1]
      · rw [hr, if_neg h1, if_pos h2]
    · by_cases h3 : rung x = 0x7FF0000000000000
      · exact .inf h3 (by rw [hr, if_neg h1, if_neg h2, if_pos h3])
      · exact .nan (by omega) (by rw [hr, if_neg h1, if_neg h2, if_neg h3])

theorem order_key (x y : Nat) : Ieee.double.order x y = if isNan x || isNan y then none else some (compare (key x) (key y)) := by
  unfold Ieee.Format.order
  have kx : key x = sv (sgn x) (rung x) := rfl
  have ky : key y = sv (sgn y) (rung y) := rfl
  rw [kx, ky]
  rcases shape x with ⟨m, p, hm, _, hx, hrx⟩ | ⟨hx, hrx⟩ | ⟨hx, hrx⟩ <;> rcases shape y with ⟨n, q, hn, _, hy, hry⟩ | ⟨hy, hry⟩ | ⟨hy, hry⟩ <;> rw [hrx, hry]
  · have nx : isNan x = false := by simp [isNan]; omega
    have ny : isNan y = false := by simp [isNan]; omega
    simp only [nx, ny, Bool.or_self, Bool.false_eq_true, if_false, Ieee.Datum.order, Option.some.injEq]
    rw [← compare_sv, ← hm, ← hn]
    have hb : min (-1074 + (p : Int)) (-1074 + (q : Int)) = -1074 + ((min p q : Nat) : Int) := by omega
    rw [hb, signed_eq, signed_eq]
    have e1 : (-1074 + (p : Int) - (-1074 + ((min p q : Nat) : Int))).toNat = p - min p q := by omega
    have e2 : (-1074 + (q : Int) - (-1074 + ((min p q : Nat) : Int))).toNat = q - min p q := by omega
    rw [e1, e2]
    have f1 : m * 2 ^ p = m * 2 ^ (p - min p q) * 2 ^ (min p q) := by rw [Nat.mul_assoc, ← Nat.pow_add]; congr 2; omega
    have f2 : n * 2 ^ q = n * 2 ^ (q - min p q) * 2 ^ (min p q) := by rw [Nat.mul_assoc, ← Nat.pow_add]; congr 2; omega
    rw [f1, f2, sv_mul _ (m * 2 ^ (p - min p q)), sv_mul _ (n * 2 ^ (q - min p q)), compare_mul _ _ _ (Nat.two_pow_pos _)]
  · have nx : isNan x = false := by simp [isNan]; omega
    have ny : isNan y = false := by simp [isNan]; omega
    simp only [nx, ny, Bool.or_self, Bool.false_eq_true, if_false, Ieee.Datum.order, Option.some.injEq]
    cases sgn x <;> cases sgn y <;> simp only [sv, compare, compareOfLessAndEq, if_true, if_false, Bool.false_eq_true] <;> (repeat' split) <;> first | rfl | omega
  · have ny : isNan y = true := by simp [isNan]; omega
    simp [ny, Ieee.Datum.order]
  · have nx : isNan x = false := by simp [isNan]; omega
    have ny : isNan y = false := by simp [isNan]; omega
    simp only [nx, ny, Bool.or_self, Bool.false_eq_true, if_false, Ieee.Datum.order, Option.some.injEq]
    cases sgn x <;> cases sgn y <;> simp only [sv, compare, compareOfLessAndEq, if_true, if_false, Bool.false_eq_true] <;> (repeat' split) <;> first | rfl | omega
  · have nx : isNan x = false := by simp [isNan]; omega
    have ny : isNan y = false := by simp [isNan]; omega
    simp only [nx, ny, Bool.or_self, Bool.false_eq_true, if_false, Ieee.Datum.order, Option.some.injEq]
    rw [hx, hy]
    cases sgn x <;> cases sgn y <;> rfl
  · have ny : isNan y = true := by simp [isNan]; omega
    simp [ny, Ieee.Datum.order]
  · have nx : isNan x = true := by simp [isNan]; omega
    simp [nx, Ieee.Datum.order]
  · have nx : isNan x = true := by simp [isNan]; omega
    simp [nx, Ieee.Datum.order]
  · have nx : isNan x = true := by simp [isNan]; omega
    simp [nx, Ieee.Datum.order]

end Go.Proofs.YtihiklmomhhdbaaGreatDoor.Wv.Flo
