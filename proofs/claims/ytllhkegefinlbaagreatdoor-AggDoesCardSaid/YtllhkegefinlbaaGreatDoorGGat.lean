/- grouped: its state on the way. -/
import Derived.Test.YtllhkegefinlbaaGreatDoorGMath
import Derived.Test.YtllhkegefinlbaaGreatDoorGSm
import Derived.Test.YtllhkegefinlbaaGreatDoorKeyMath
import Derived.Maps.Own
import Derived.Maps.OwnSet
import Derived.Maps.Views
import Derived.StringKeys
namespace Go.Proofs.YtllhkegefinlbaaGreatDoor.Pt
open Go.RowKit Go.Maps Go.WideMaps
set_option maxRecDepth 100000
set_option maxHeartbeats 2000000

/-- a group: labels, points; its two cells -/
abbrev Gp := List Lb × List Pt
abbrev Sc := Sl × Sl
def encS (x : Sc) : List Value := [x.1.v, x.2.v]
theorem grp_info : (Tryz.prog.info? 52).map (fun i => (i.zero, i.size, i.bytes)) = some (some (.agg #[.slice none 0 0, .slice none 0 0]), 2, 48) := by kernel_rfl
/-- a row of groups of the call's own, as cells -/
abbrev OwnC (W : World) (B : Nat) (v : Value) (l : List Sc) : Prop := Own2 encS 52 W B v l
theorem run_appC {W : World} {B : Nat} {v : Value} {l m : List Sc} {A : Option Addr} {c : Nat} (h : OwnC W B v l) (hs : At2 encS W A m) (hn : l.length + m.length ≤ 1099511627776) (hB : B ≤ W.heap.size) :
    ∃ v' W', (Builtin.append_ #[49, 49] 49 #[v, .slice A m.length c]).run Tryz.prog W = .ok v' W' ∧ OwnC W' B v' (l ++ m) ∧ W.grownBy W' v.ownBlock ∧ (v'.ownBlock = v.ownBlock ∨ v'.ownBlock = some W.heap.size) :=
  run_app2 encS (fun _ => rfl) (fun x u hu => by simp [encS, Sl.v] at hu; rcases hu with rfl | rfl <;> rfl) _ _ _ 48 Tryz.underlying49 grp_info rfl (by omega) h hs hn hB
/-- a group's points: a row of the call's own, whose cells are points that were there when the call began -/
def OwnG (w W : World) (B : Nat) (v : Value) (l : List Pt) : Prop := ∃ ds, OwnT W B v ds ∧ Rds w ds l
section
variable {w W W' : World} {B : Nat} {v : Value} {l : List Pt}
theorem OwnG.gr (h : OwnG w W B v l) (g : Gr W W') : OwnG w W' B v l := by obtain ⟨ds, h1, h2⟩ := h; exact ⟨ds, h1.gr g, h2⟩
theorem OwnG.kept (h : OwnG w W B v l) {row : Option Nat} (g : W.grownBy W' row) (hne : v.ownBlock = none ∨ v.ownBlock ≠ row) : OwnG w W' B v l := by obtain ⟨ds, h1, h2⟩ := h; exact ⟨ds, h1.kept g hne, h2⟩
theorem OwnG.lt (h : OwnG w W B v l) {k : Nat} (hk : v.ownBlock = some k) : B ≤ k ∧ k < W.heap.size := by obtain ⟨ds, h1, h2⟩ := h; exact h1.lt hk
theorem OwnG.heap (h : OwnG w W B v l) (h0 : v.ownBlock ≠ none) : ∃ g cap cur, v = .slice (some ⟨g, 0, none⟩) l.length cap ∧ W.heap[g]? = some (.cells cur 45 (0, 0)) := by
  obtain ⟨ds, h1, h2⟩ := h
  obtain ⟨g, cap, cur, e, hg⟩ := h1.heap h0
  exact ⟨g, cap, cur, by rw [← h2.len]; exact e, hg⟩
theorem OwnG.form (h : OwnG w W B v l) : ∃ A c, v = .slice A l.length c ∧ l.length ≤ c ∧ c ≤ maxLen ∧ (0 < l.length → ∃ g, A = some ⟨g, 0, none⟩ ∧ B ≤ g) := by
  obtain ⟨ds, h1, h2⟩ := h
  obtain ⟨A, c, e, -, a, b, d⟩ := h1.form (fun _ => rfl)
  rw [h2.len] at e a d
  exact ⟨A, c, e, a, b, d⟩
theorem OwnG.nil (w W : World) (B : Nat) : OwnG w W B (.slice none 0 0) [] := ⟨[], Own2.nil _ _, Rds.nil _⟩
theorem OwnG.ne {B' : Nat} {v' : Value} {cs : List Sc} (h : OwnG w W B v l) (h' : OwnC W B' v' cs) : (v.ownBlock = none ∨ v.ownBlock ≠ v'.ownBlock) ∧ (v'.ownBlock = none ∨ v'.ownBlock ≠ v.ownBlock) := by
  obtain ⟨ds, h1, h2⟩ := h
  exact ⟨own2_ne h1 h' (by decide), own2_ne h' h1 (by decide)⟩
/-- it reads as the points -/
theorem OwnG.pts (h : OwnG w W B v l) (g : Gr w W) : ∃ A c, v = .slice A l.length c ∧ PtsAt W A l ∧ l.length ≤ c ∧ c ≤ maxLen := by
  obtain ⟨ds, h1, h2⟩ := h
  obtain ⟨A, c, e, a, b, d, -⟩ := h1.form (fun _ => rfl)
  rw [h2.len] at e b
  exact ⟨A, c, e, ⟨ds, a, h2.gr g⟩, b, d⟩
end
theorem strKey : Keyed Tryz.prog 9 := string_keyed Tryz.underlying9
/-- a key in the map of numbers -/
def kL (x : List Lb) : Lit := .string (keyL x)
theorem kL_inj {x y : List Lb} (h : kL x = kL y) : x = y := by
  unfold kL at h
  injection h with h
  exact keyL_inj h
theorem kL_key (x : List Lb) (h : (keyL x).length ≤ maxLen) : keyOf Tryz.prog 9 (.string ⟨(keyL x).toArray⟩) = some (kL x) := by
  have := keyOf_string_mk Tryz.underlying9 (s := ⟨(keyL x).toArray⟩) (by simpa [ByteArray.size] using h)
  simpa [kL] using this
theorem slv_own (s : Sl) {b : Nat} (h : s.v.ownBlock = some b) : ∃ o e, s.a = some ⟨b, o, e⟩ := by
  obtain ⟨a, n, c⟩ := s
  cases a with
  | none => simp [Sl.v, Value.ownBlock] at h
  | some a =>
    obtain ⟨b', o, e⟩ := a
    simp [Sl.v, Value.ownBlock] at h
    exact ⟨o, e, by rw [h]⟩
/-- the numbers of the labels that the map knows -/
def Nums (W : World) (M : Nat) (ks : List (List Lb)) : Prop :=
  ∃ D, W.ownsMap (H := Unit) Tryz.prog 9 (plainElem Tryz.prog 3) M ks.length D ∧ (∀ (k : Nat) x, ks[k]? = some x → has D (kL x) = true ∧ D.atKey (kL x) (.lit (.int .i64 0)) = .lit (.int .i64 k)) ∧ ∀ x, x ∉ ks → has D (kL x) = false
theorem Nums.kept {W W' : World} {M : Nat} {ks : List (List Lb)} {row : Option Nat} (h : Nums W M ks) (g : W.grownBy W' row) (hne : some M ≠ row) : Nums W' M ks := by
  obtain ⟨D, h1, h2⟩ := h
  exact ⟨D, h1.kept g hne, h2⟩
theorem Nums.obj {W : World} {M : Nat} {ks : List (List Lb)} (h : Nums W M ks) : ∃ es ck, W.heap[M]? = some (.map es ck) := by
  obtain ⟨D, ⟨es, ck, h1, -⟩, -⟩ := h
  exact ⟨es, ck, h1⟩
theorem zeroInt (w : World) : (zeroValue 3).run Tryz.prog w = .ok (.int .i64 0) w := by kernel_rfl
/-- look-up: it is known -/
theorem Nums.look {W : World} {M : Nat} {ks : List (List Lb)} (h : Nums W M ks) (x : List Lb) (hx : (keyL x).length ≤ maxLen) :
    ∃ (c : Int) (b : Bool), (Instr.lookup 72 (.map (some M)) (.string ⟨(keyL x).toArray⟩) true).run Tryz.prog W = .ok (.tuple #[.int .i64 c, .bool b]) W ∧ (b = true → ∃ k : Nat, c = k ∧ ks[k]? = some x) ∧ (b = false → x ∉ ks) := by
  obtain ⟨D, ho, h1, h2⟩ := h
  obtain ⟨v, ps, hr, hv⟩ := ho.look_ok strKey Tryz.underlying72 (zeroInt W) (plainElem_int Tryz.underlying3 (by decide)) (kL_key x hx)
  obtain ⟨c, rfl, hc, -⟩ := plainElem_int_inv Tryz.underlying3 hv
  have hc := congrArg Prod.fst hc
  refine ⟨c, _, hr, fun hb => ?_, fun hb hin => ?_⟩
  · by_cases hin : x ∈ ks
    · obtain ⟨k, hk⟩ := List.getElem?_of_mem hin
      have := (h1 k x hk).2
      simp only at hc
      rw [hc] at this
      injection this with this
      injection this with _ this
      exact ⟨k, this, hk⟩
    · rw [h2 x hin] at hb; cases hb
  · obtain ⟨k, hk⟩ := List.getElem?_of_mem hin
    rw [(h1 k x hk).1] at hb; cases hb
theorem Nums.put {W : World} {M : Nat} {ks : List (List Lb)} (h : Nums W M ks) (x : List Lb) (hx : (keyL x).length ≤ maxLen) (hn : x ∉ ks) (hk : ks.length ≤ 1099511627776) :
    ∃ W', (Instr.mapUpdate 72 (.map (some M)) (.string ⟨(keyL x).toArray⟩) (.int .i64 ks.length)).run Tryz.prog W = .ok () W' ∧ Nums W' M (ks ++ [x]) ∧ W.grownBy W' (some M) := by
  obtain ⟨D, ho, h1, h2⟩ := h
  obtain ⟨W', hr, ho', hg⟩ := ho.update strKey Tryz.underlying72 (by unfold maxLen; omega) (kL_key x hx) (plainElem_int (a := (ks.length : Int)) Tryz.underlying3 (WalkArith.wf_i64 (by omega)))
  have hD := ho.isMap
  refine ⟨W', hr, ⟨_, by rw [List.length_append]; exact ho', fun k y hy => ?_, fun y hy => ?_⟩, hg⟩
  · by_cases e : y = x
    · subst e
      have : k = ks.length := by
        by_cases hlt : k < ks.length
        · rw [List.getElem?_append_left hlt] at hy
          exact absurd (List.mem_of_getElem? hy) hn
        · have := (List.getElem?_eq_some_iff.1 hy).1
          simp at this; omega
      subst this
      exact ⟨has_put_same hD (show WideAt.IsKeyLit (.string _) from trivial) _, atKey_put_same hD (show WideAt.IsKeyLit (.string _) from trivial) _ _⟩
    · have hlt : k < ks.length := by
        have := (List.getElem?_eq_some_iff.1 hy).1
        by_cases hlt : k < ks.length
        · exact hlt
        · rw [List.getElem?_append_right (by omega)] at hy
          simp at this
          have : k - ks.length = 0 := by omega
          rw [this] at hy
          simp at hy
          exact absurd hy.symm e
      rw [List.getElem?_append_left hlt] at hy
      have hne : kL y ≠ kL x := fun h => e (kL_inj h)
      rw [has_put_other hne, atKey_put_other hne]
      exact h1 k y hy
  · have hne : kL y ≠ kL x := fun h => hy (by rw [kL_inj h]; simp)
    rw [has_put_other hne]
    exact h2 y (fun h => hy (by simp [h]))
/-- on the way: the series' row v, its cells cs, what they read as -/
structure GSt (w W : World) (M : Nat) (v : Value) (cs : List Sc) (gs : List Gp) (ks : List (List Lb)) : Prop where
  g : Gr w W
  row : OwnC W w.heap.size v cs
  len : cs.length = gs.length
  rd : ∀ (k : Nat) (c : Sc) (s : Gp), cs[k]? = some c → gs[k]? = some s → LabV W c.1 s.1 ∧ OwnG w W w.heap.size c.2.v s.2
  off : ∀ (k : Nat) (c : Sc) (s : Gp), cs[k]? = some c → gs[k]? = some s → 0 < s.1.length → ∀ b, c.1.v.ownBlock = some b → v.ownBlock ≠ some b ∧ ∀ (j : Nat) (d : Sc), cs[j]? = some d → d.2.v.ownBlock ≠ some b
  inj : ∀ (i j : Nat) (c d : Sc), cs[i]? = some c → cs[j]? = some d → i ≠ j → c.2.v.ownBlock = none ∨ c.2.v.ownBlock ≠ d.2.v.ownBlock
  hM : w.heap.size ≤ M
  m : Nums W M ks
theorem gb_lt {w W W' : World} {b : Nat} (h : Gr w W) (g : W.grownBy W' (some b)) (hb : w.heap.size ≤ b) : Gr w W' := h.only g hb
section
variable {w W W' : World} {M : Nat} {v : Value} {cs : List Sc} {gs : List Gp} {ks : List (List Lb)}
theorem GSt.gr (h : GSt w W M v cs gs ks) (g : Gr W W') : GSt w W' M v cs gs ks :=
  ⟨h.g.trans g, h.row.gr g, h.len, fun k c s hc hs => ⟨(h.rd k c s hc hs).1.gr g, (h.rd k c s hc hs).2.gr g⟩, h.off, h.inj, h.hM, h.m.kept g.gb (by simp)⟩
/-- the map's block is no row -/
theorem GSt.mNe (h : GSt w W M v cs gs ks) : v.ownBlock ≠ some M ∧ (∀ (j : Nat) (d : Sc), cs[j]? = some d → d.2.v.ownBlock ≠ some M) ∧ ∀ (k : Nat) (c : Sc) (s : Gp), cs[k]? = some c → gs[k]? = some s → 0 < s.1.length → c.1.v.ownBlock ≠ some M := by
  obtain ⟨es, ck, hM⟩ := h.m.obj
  refine ⟨fun e => ?_, fun j d hd e => ?_, fun k c s hc hs h0 e => ?_⟩
  · obtain ⟨g, cap, cur, rfl, hg⟩ := h.row.heap (by rw [e]; simp)
    simp only [Value.ownBlock, Option.some.injEq] at e
    subst e
    rw [hM] at hg; cases hg
  · obtain ⟨s, hs⟩ : ∃ s, gs[j]? = some s := ⟨_, List.getElem?_eq_getElem (by have := (List.getElem?_eq_some_iff.1 hd).1; have := h.len; omega)⟩
    obtain ⟨g, cap, cur, e2, hg⟩ := (h.rd j d s hd hs).2.heap (by rw [e]; simp)
    rw [e2] at e
    simp only [Value.ownBlock, Option.some.injEq] at e
    subst e
    rw [hM] at hg; cases hg
  · obtain ⟨b, o, e2, hcells⟩ := (h.rd k c s hc hs).1.2 h0
    have : b = M := by unfold Sl.v at e; rw [e2] at e; simpa [Value.ownBlock] using e
    subst this
    have := (hcells 0 _ (List.getElem?_eq_getElem h0)).1
    unfold World.cell? at this
    rw [hM] at this
    simp at this
/-- new labels enter the map -/
theorem GSt.put (h : GSt w W M v cs gs ks) (x : List Lb) (hx : (keyL x).length ≤ maxLen) (hn : x ∉ ks) (hk : ks.length ≤ 1099511627776) :
    ∃ W', (Instr.mapUpdate 72 (.map (some M)) (.string ⟨(keyL x).toArray⟩) (.int .i64 ks.length)).run Tryz.prog W = .ok () W' ∧ GSt w W' M v cs gs (ks ++ [x]) ∧ W.grownBy W' (some M) := by
  obtain ⟨W', hr, hm, hg⟩ := h.m.put x hx hn hk
  obtain ⟨n1, n2, n3⟩ := h.mNe
  refine ⟨W', hr, ⟨gb_lt h.g hg h.hM, h.row.kept hg (.inr n1), h.len, fun k c s hc hs => ⟨(h.rd k c s hc hs).1.only hg (fun h0 b hb e => n3 k c s hc hs h0 (by rw [hb, ← e])), (h.rd k c s hc hs).2.kept hg (.inr (n2 k c hc))⟩, h.off, h.inj, h.hM, hm⟩, hg⟩
/-- a series more -/
theorem GSt.more (h : GSt w W M v cs gs ks) {sl : Sl} {x : List Lb} (hsl : LabV W sl x) (hoff : 0 < x.length → ∀ b, sl.v.ownBlock = some b → v.ownBlock ≠ some b ∧ b ≠ M ∧ ∀ (j : Nat) (d : Sc), cs[j]? = some d → d.2.v.ownBlock ≠ some b)
    {v' : Value} (ho : OwnC W' w.heap.size v' (cs ++ [(sl, ⟨none, 0, 0⟩)])) (hg : W.grownBy W' v.ownBlock) (hv : v'.ownBlock = v.ownBlock ∨ v'.ownBlock = some W.heap.size) : GSt w W' M v' (cs ++ [(sl, ⟨none, 0, 0⟩)]) (gs ++ [(x, [])]) ks := by
  obtain ⟨n1, n2, n3⟩ := h.mNe
  have hlen := h.len
  have keep : ∀ (k : Nat) (c : Sc) (s : Gp), cs[k]? = some c → gs[k]? = some s → LabV W' c.1 s.1 ∧ OwnG w W' w.heap.size c.2.v s.2 := fun k c s hc hs => by
    obtain ⟨h1, h2⟩ := h.rd k c s hc hs
    exact ⟨h1.only hg (fun h0 b hb => (h.off k c s hc hs h0 b hb).1), h2.kept hg (h2.ne h.row).1⟩
  have split : ∀ (k : Nat) (c : Sc), (cs ++ [(sl, (⟨none, 0, 0⟩ : Sl))])[k]? = some c → cs[k]? = some c ∨ k = cs.length ∧ c = (sl, ⟨none, 0, 0⟩) := fun k c hc => by
    rcases Nat.lt_or_ge k cs.length with hlt | hge
    · rw [List.getElem?_append_left hlt] at hc; exact .inl hc
    · have h1 := (List.getElem?_eq_some_iff.1 hc).1
      rw [List.length_append, List.length_singleton] at h1
      obtain rfl : k = cs.length := by omega
      simp at hc
      exact .inr ⟨rfl, hc.symm⟩
  have splitg : ∀ (k : Nat) (s : Gp), (gs ++ [(x, ([] : List Pt))])[k]? = some s → gs[k]? = some s ∨ k = gs.length ∧ s = (x, []) := fun k s hs => by
    rcases Nat.lt_or_ge k gs.length with hlt | hge
    · rw [List.getElem?_append_left hlt] at hs; exact .inl hs
    · have h1 := (List.getElem?_eq_some_iff.1 hs).1
      rw [List.length_append, List.length_singleton] at h1
      obtain rfl : k = gs.length := by omega
      simp at hs
      exact .inr ⟨rfl, hs.symm⟩
  have hpos : w.heap.size ≤ W.heap.size := h.g.size
  have hnew : ∀ b, b < W.heap.size → v.ownBlock ≠ some b → v'.ownBlock ≠ some b := fun b hb hne e => by
    rcases hv with e2 | e2
    · rw [e2] at e; exact hne e
    · rw [e2] at e; injection e with e; omega
  refine ⟨?_, ho, by simp [hlen], fun k c s hc hs => ?_, fun k c s hc hs h0 b hb => ?_, fun i j c d hc hd hij => ?_, h.hM, h.m.kept hg (fun e => n1 e.symm)⟩
  · exact ⟨h.g.b.grown hg h.g.size (fun k hk => (h.row.lt hk).1)⟩
  · rcases split k c hc with hc | ⟨rfl, rfl⟩
    · rcases splitg k s hs with hs | ⟨rfl, rfl⟩
      · exact keep k c s hc hs
      · have := (List.getElem?_eq_some_iff.1 hc).1; omega
    · rcases splitg _ s hs with hs | ⟨-, rfl⟩
      · have := (List.getElem?_eq_some_iff.1 hs).1; omega
      · exact ⟨hsl.only hg (fun h0 b hb => (hoff h0 b hb).1), OwnG.nil _ _ _⟩
  · have key : v.ownBlock ≠ some b ∧ b < W.heap.size ∧ ∀ (j : Nat) (d : Sc), cs[j]? = some d → d.2.v.ownBlock ≠ some b := by
      rcases split k c hc with hc | ⟨rfl, rfl⟩
      · rcases splitg k s hs with hs | ⟨rfl, rfl⟩
        · obtain ⟨o1, o2⟩ := h.off k c s hc hs h0 b hb
          exact ⟨o1, (h.rd k c s hc hs).1.lt h0 hb, o2⟩
        · have := (List.getElem?_eq_some_iff.1 hc).1; omega
      · rcases splitg _ s hs with hs | ⟨-, rfl⟩
        · have := (List.getElem?_eq_some_iff.1 hs).1; omega
        · obtain ⟨o1, -, o2⟩ := hoff h0 b hb
          exact ⟨o1, hsl.lt h0 hb, o2⟩
    obtain ⟨o1, o2, o3⟩ := key
    refine ⟨hnew b o2 o1, fun j d hd => ?_⟩
    rcases split j d hd with hd | ⟨rfl, rfl⟩
    · exact o3 j d hd
    · simp [Sl.v, Value.ownBlock]
  · rcases split i c hc with hc | ⟨rfl, rfl⟩
    · rcases split j d hd with hd | ⟨rfl, rfl⟩
      · exact h.inj i j c d hc hd hij
      · by_cases e : c.2.v.ownBlock = none
        · exact .inl e
        · exact .inr (fun e2 => e (by rw [e2]; rfl))
    · exact .inl rfl
/-- a sample more: behind the append, the store -/
theorem GSt.add (h : GSt w W M v cs gs ks) {i : Nat} {c : Sc} {s : Gp} (hc : cs[i]? = some c) (hs : gs[i]? = some s) (p : Pt) {sl : Sl} (ho : OwnG w W' w.heap.size sl.v (s.2 ++ [p])) (hg : W.grownBy W' c.2.v.ownBlock) (hv : sl.v.ownBlock = c.2.v.ownBlock ∨ sl.v.ownBlock = some W.heap.size) :
    ∃ g, v.ownBlock = some g ∧ w.heap.size ≤ g ∧ W'.cell? ⟨g, i * 2 + 1, none⟩ = some c.2.v ∧ W'.frozen? ⟨g, i * 2 + 1, none⟩ = false ∧ GSt w (W'.setCell ⟨g, i * 2 + 1, none⟩ sl.v) M v (cs.set i (c.1, sl)) (gs.set i (s.1, s.2 ++ [p])) ks := by
  obtain ⟨n1, n2, n3⟩ := h.mNe
  have hi := (List.getElem?_eq_some_iff.1 hc).1
  obtain ⟨hrl, hrp⟩ := h.rd i c s hc hs
  have hrow : OwnC W' w.heap.size v cs := h.row.kept hg (hrp.ne h.row).2
  have hlen := h.len
  have hg0 : Gr w W' := ⟨h.g.b.grown hg h.g.size (fun k hk => (hrp.lt hk).1)⟩
  rcases hrow.2 with ⟨-, e0⟩ | ⟨g, cap, cur, rfl, hgb, hgg, hnc, hm, hcs, htk⟩
  · omega
  have hw : W'.ownsRow w.heap.size 52 2 (.slice (some ⟨g, 0, none⟩) cs.length cap) cs.length (cs.flatMap encS) := hrow
  obtain ⟨f1, f2⟩ := flat2_get encS (fun _ => rfl) cs i c hc
  have hcell := hw.cellAt (i * 2 + 1) (by omega)
  rw [f2] at hcell
  have hst := hw.stored (i * 2 + 1) sl.v
  have hflat : (cs.flatMap encS).set (i * 2 + 1) sl.v = (cs.set i (c.1, sl)).flatMap encS := by
    have gen : ∀ (l : List Sc) (i : Nat) (c : Sc), l[i]? = some c → (l.flatMap encS).set (i * 2 + 1) sl.v = (l.set i (c.1, sl)).flatMap encS := by
      intro l
      induction l with
      | nil => intro i c hc; simp at hc
      | cons y r ih =>
        intro i c hc
        cases i with
        | zero =>
          obtain rfl : y = c := by simpa using hc
          rfl
        | succ i =>
          have := ih i c (by simpa using hc)
          rw [List.flatMap_cons, List.set_cons_succ, List.flatMap_cons, ← this, List.set_append_right _ _ (by simp [encS]; omega)]
          congr 2
          simp [encS]; omega
    exact gen cs i c hc
  have hsz : W'.grownBy (W'.setCell ⟨g, i * 2 + 1, none⟩ sl.v) (some g) := Gs.Only.setCell (Gs.Only.refl W' g) rfl _
  refine ⟨g, rfl, hgb, hcell, hw.frozenAt _, ?_⟩
  have hgv : ∀ (k : Nat) (c : Sc) (s : Gp), cs[k]? = some c → gs[k]? = some s → 0 < s.1.length → ∀ b, c.1.v.ownBlock = some b → b ≠ g := fun k c s hc hs h0 b hb e => (h.off k c s hc hs h0 b hb).1 (by rw [e]; rfl)
  have hnp : ∀ {B : Nat} {u : Value} {l : List Pt}, OwnG w W' B u l → u.ownBlock = none ∨ u.ownBlock ≠ some g := fun hu => (hu.ne hrow).1
  have hsame : ∀ {j : Nat} {d : Sc}, (cs.set i (c.1, sl))[j]? = some d → j ≠ i ∧ cs[j]? = some d ∨ j = i ∧ d = (c.1, sl) := fun {j d} hd => by
    by_cases e : j = i
    · subst e; rw [List.getElem?_set_self (by omega)] at hd; exact .inr ⟨rfl, (Option.some.inj hd).symm⟩
    · rw [List.getElem?_set_ne (Ne.symm e)] at hd; exact .inl ⟨e, hd⟩
  have hsameg : ∀ {j : Nat} {d : Gp}, (gs.set i (s.1, s.2 ++ [p]))[j]? = some d → j ≠ i ∧ gs[j]? = some d ∨ j = i ∧ d = (s.1, s.2 ++ [p]) := fun {j d} hd => by
    by_cases e : j = i
    · subst e; rw [List.getElem?_set_self (by omega)] at hd; exact .inr ⟨rfl, (Option.some.inj hd).symm⟩
    · rw [List.getElem?_set_ne (Ne.symm e)] at hd; exact .inl ⟨e, hd⟩
  have hblk : ∀ b, b < W.heap.size → c.2.v.ownBlock ≠ some b → sl.v.ownBlock ≠ some b := fun b hb hne e => by
    rcases hv with e2 | e2
    · rw [e2] at e; exact hne e
    · rw [e2] at e; injection e with e; omega
  refine ⟨hg0.only hsz hgb, ?_, by simp [hlen], fun k c' s' hc' hs' => ?_, fun k c' s' hc' hs' h0 b hb => ?_, fun j1 j2 d1 d2 h1 h2 hne => ?_, h.hM, ?_⟩
  · show World.ownsRow _ _ _ _ _ _ _
    rw [List.length_set, ← hflat]
    exact hst.1
  · rcases hsame hc' with ⟨e1, hc'⟩ | ⟨rfl, rfl⟩
    · rcases hsameg hs' with ⟨-, hs'⟩ | ⟨e2, -⟩
      · obtain ⟨r1, r2⟩ := h.rd k c' s' hc' hs'
        have r1' : LabV W' c'.1 s'.1 := r1.only hg (fun h0 b hb => (h.off k c' s' hc' hs' h0 b hb).2 i c hc)
        have r2' : OwnG w W' w.heap.size c'.2.v s'.2 := r2.kept hg (h.inj k i c' c hc' hc e1)
        exact ⟨r1'.only hsz (fun h0 b hb e => hgv k c' s' hc' hs' h0 b hb (Option.some.inj e).symm), r2'.kept hsz (hnp r2')⟩
      · exact absurd e2 e1
    · rcases hsameg hs' with ⟨e1, -⟩ | ⟨-, rfl⟩
      · exact absurd rfl e1
      · have r1' : LabV W' c.1 s.1 := hrl.only hg (fun h0 b hb => (h.off k c s hc hs h0 b hb).2 k c hc)
        exact ⟨r1'.only hsz (fun h0 b hb e => hgv k c s hc hs h0 b hb (Option.some.inj e).symm), ho.kept hsz (hnp ho)⟩
  · have key : ∃ (k : Nat) (c'' : Sc) (s'' : Gp), cs[k]? = some c'' ∧ gs[k]? = some s'' ∧ s''.1 = s'.1 ∧ c''.1 = c'.1 := by
      rcases hsame hc' with ⟨e1, hc'⟩ | ⟨rfl, rfl⟩
      · rcases hsameg hs' with ⟨-, hs'⟩ | ⟨e2, -⟩
        · exact ⟨k, c', s', hc', hs', rfl, rfl⟩
        · exact absurd e2 e1
      · rcases hsameg hs' with ⟨e1, -⟩ | ⟨-, rfl⟩
        · exact absurd rfl e1
        · exact ⟨k, c, s, hc, hs, rfl, rfl⟩
    obtain ⟨k', c'', s'', hc'', hs'', es, ec⟩ := key
    rw [← es] at h0
    rw [← ec] at hb
    obtain ⟨o1, o2⟩ := h.off k' c'' s'' hc'' hs'' h0 b hb
    refine ⟨o1, fun j d hd => ?_⟩
    rcases hsame hd with ⟨-, hd⟩ | ⟨rfl, rfl⟩
    · exact o2 j d hd
    · exact hblk b ((h.rd k' c'' s'' hc'' hs'').1.lt h0 hb) (o2 j c hc)
  · have hold : ∀ {j : Nat} {d : Sc}, cs[j]? = some d → j ≠ i → d.2.v.ownBlock = none ∨ d.2.v.ownBlock ≠ sl.v.ownBlock := fun {j d} hd hj => by
      by_cases e : d.2.v.ownBlock = none
      · exact .inl e
      · obtain ⟨b, hb⟩ := Option.ne_none_iff_exists'.1 e
        obtain ⟨sd, hsd⟩ : ∃ sd, gs[j]? = some sd := ⟨_, List.getElem?_eq_getElem (by have := (List.getElem?_eq_some_iff.1 hd).1; omega)⟩
        have hlt := ((h.rd j d sd hd hsd).2.lt hb).2
        rcases h.inj j i d c hd hc hj with e2 | e2
        · exact absurd e2 e
        · refine .inr fun e3 => hblk b hlt (fun e4 => e2 (by rw [hb, e4])) (by rw [← e3, hb])
    rcases hsame h1 with ⟨e1, k1⟩ | ⟨e1, k1⟩
    · rcases hsame h2 with ⟨e2, k2⟩ | ⟨e2, k2⟩
      · exact h.inj j1 j2 d1 d2 k1 k2 hne
      · rw [k2]; exact hold k1 e1
    · rcases hsame h2 with ⟨e2, k2⟩ | ⟨e2, k2⟩
      · rw [k1]
        rcases hold k2 e2 with e | e
        · by_cases e0 : sl.v.ownBlock = none
          · exact .inl e0
          · exact .inr (fun e3 => e0 (by show sl.v.ownBlock = none; rw [show sl.v.ownBlock = d2.2.v.ownBlock from e3, e]))
        · exact .inr (fun e3 => e e3.symm)
      · exact absurd (e1.trans e2.symm) hne
  · exact (h.m.kept hg (fun e => n2 i c hc e.symm)).kept hsz (by
      intro e
      injection e with e
      exact n1 (by rw [e]; rfl))
end
end Go.Proofs.YtllhkegefinlbaaGreatDoor.Pt
