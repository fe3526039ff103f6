/- append onto a row of texts; Group, the reference's. -/
import Derived.Test.YtllhkegefinlbaaGreatDoorRefWith
namespace Go.Proofs.YtllhkegefinlbaaGreatDoor
open Go.RowKit Go.Sort
set_option maxRecDepth 100000
set_option maxHeartbeats 4000000

def OwnT (W : World) (B : Nat) (v : Value) (l : List ByteArray) : Prop := W.ownsRow B 9 1 v l.length (l.map Value.string)
theorem str_info : (Tryz.prog.info? 9).map (fun i => (i.zero, i.size, i.bytes)) = some (some (.string ⟨#[]⟩), 1, 16) := by kernel_rfl
theorem OwnT.lt {W : World} {B : Nat} {v : Value} {l : List ByteArray} (h : OwnT W B v l) {k : Nat} (hk : v.ownBlock = some k) : B ≤ k ∧ k < W.heap.size := World.ownsRow.lt h k hk
theorem OwnT.form {W : World} {B : Nat} {v : Value} {l : List ByteArray} (h : OwnT W B v l) : ∃ A c, v = .slice A l.length c ∧ StrsAt W A l := by
  rcases h.2 with ⟨e, h0⟩ | ⟨g, cap, cur, rfl, _, hg, h1, h2, h3, h4⟩
  · exact ⟨none, 0, by rw [e, h0], fun hh => absurd hh (by omega)⟩
  · refine ⟨_, _, rfl, fun _ => ⟨g, 0, rfl, fun i x hx => ?_⟩⟩
    rw [Nat.zero_add]
    have hc := World.ownsRow.cells h rfl i (.string x) (by simp [hx])
    have hadd : (⟨g, 0, none⟩ : Addr).add i = ⟨g, 0 + i, none⟩ := by unfold Addr.add; split <;> simp_all
    rw [hadd, Nat.zero_add] at hc
    exact hc
theorem ownT_one (W : World) (B : Nat) (hB : B ≤ W.heap.size) (x : ByteArray) : OwnT (W.alloc (.cells #[.string x] 9)) B (.slice (some ⟨W.heap.size, 0, none⟩) 1 1) [x] :=
  ⟨rfl, .inr ⟨W.heap.size, 1, _, rfl, hB, heap_alloc_new W _, Nat.le_refl _, by unfold maxLen; omega, rfl, rfl⟩⟩
theorem run_appT {W : World} {B : Nat} {v : Value} {l m : List ByteArray} {A : Option Addr} {c : Nat} (h : OwnT W B v l) (hs : StrsAt W A m) (hn : l.length + m.length ≤ 1099511627776) (hB : B ≤ W.heap.size) :
    ∃ v' W', (Builtin.append_ #[22, 22] 22 #[v, .slice A m.length c]).run Tryz.prog W = .ok v' W' ∧ OwnT W' B v' (l ++ m) ∧ W.grownBy W' v.ownBlock := by
  obtain ⟨i0, hi, hz0, hz1, hz2⟩ := info_parts str_info
  cases A with
  | none =>
    have h0 : m = [] := by
      rcases Nat.eq_zero_or_pos m.length with e | e
      · exact List.eq_nil_of_length_eq_zero e
      · obtain ⟨b, o, e, _⟩ := hs e; cases e
    subst h0
    refine ⟨v, W, ?_, by rw [List.append_nil]; exact h, World.grownBy.refl W _⟩
    rcases h.2 with ⟨rfl, _⟩ | ⟨g, cap, cur, rfl, _, _, hnc, _⟩
    · simp [Builtin.append_, run_underlying Tryz.underlying22, sizeOf, typeInfo, hi, Builtin.lenOf, Builtin.firstCells]
    · simp [Builtin.append_, run_underlying Tryz.underlying22, sizeOf, typeInfo, hi, Builtin.lenOf, Builtin.firstCells, hnc, storeCells]
  | some a =>
    have hcells : ∀ j u, (m.map Value.string)[j]? = some u → W.cell? (a.add j) = some u := by
      intro j u hu
      have hj : j < m.length := by have := (List.getElem?_eq_some_iff.1 hu).1; simpa using this
      obtain ⟨b, o, e, hc⟩ := hs (by omega)
      injection e with e
      subst e
      have hadd : (⟨b, o, none⟩ : Addr).add j = ⟨b, o + j, none⟩ := by unfold Addr.add; split <;> simp_all
      rw [hadd]
      simp only [List.getElem?_map, Option.map_eq_some_iff] at hu
      obtain ⟨x, hx, rfl⟩ := hu
      exact hc j x hx
    obtain ⟨v', w', hr, h2, h3, _, h5⟩ := run_append_own_at (P := Tryz.prog) W B 22 22 9 i0 (.string ⟨#[]⟩) 1 16 Tryz.underlying22 hi hz0 hz1 hz2 rfl (by omega) v l.length _ h a m.length c (m.map Value.string) (by simp) hcells (by intro u hu; simp at hu; obtain ⟨c, -, rfl⟩ := hu; rfl) (by unfold maxLen; omega) (by omega) hB
    refine ⟨v', w', hr, ?_, h3⟩
    unfold OwnT
    rw [List.map_append, List.length_append]
    exact h2
theorem wpList_appT {P : Program} (hP : P = Tryz.prog) {ops : Array Oper} {rest : List Oper} {o : Oper} {a : Act} {W : World} {Q : Exit → Act → World → Prop} (hgd : o.guard = none) (s x : Operand)
    (ho : o.op = .call { callee := .builtin .append, args := #[s, x], argTypes := #[22, 22] }) (hty : o.type = 22)
    {B : Nat} {l m : List ByteArray} {A : Option Addr} {c : Nat} (hs : OwnT W B (a.eval s) l) (ex : a.eval x = .slice A m.length c) (hx : StrsAt W A m) (hn : l.length + m.length ≤ 1099511627776) (hB : B ≤ W.heap.size)
    (h : ∀ v' W', OwnT W' B v' (l ++ m) → Below B W W' → wpList P ops Q rest (a.put o.dst v') W') : wpList P ops Q (o :: rest) a W :=
  wpList_plain hgd fun K hK => by
    subst hP
    obtain ⟨v', W', hr, h1, h2⟩ := run_appT (c := c) hs hx hn hB
    unfold Oper.wp execOp
    simp only [ho, hty, resolve, invoke, builtin, Sem.run_bind, Sem.run_pure, Result.andThen_ok, List.map_toArray, List.map_cons, List.map_nil, ex, hr]
    exact hK _ _ (h v' W' h1 ((Below.refl B W).grown h2 hB fun k hk => (hs.lt hk).1))

/-- Group's answer lies in new memory -/
theorem rGroupF_any (A N : Option Addr) (l : List Lb) (ns : List ByteArray) (c d : Nat) (how : Int) (w : World) (h : LabsAt w A l) (hs : StrsAt w N ns) (hl : l.length ≤ 549755813888) (hn : ns.length ≤ 1099511627775) :
    Calls Tryz.prog 22 #[.slice A l.length c, .agg #[.int .i64 how, .slice N ns.length d]] w (NewPost (groupL l how ns) w) := by
  have B1 : Gr w (w.alloc (.cells #[.int .i64 how, .slice N ns.length d] 24)) := (Gr.refl w).alloc _ _
  have CK := Lib.hid (rKeep_any A N l ns c d _ (h.gr B1) (hs.gr B1) hl (by omega))
  have HL := Lib.hid h; have HS := Lib.hid hs
  have HB := Lib.hid B1
  clear h hs B1
  by_cases e1 : how = 1
  · subst e1
    have HG : Hid (groupL l 1 ns = pickL l ns true) := Lib.hid rfl
    go_enter Tryz.func22, Tryz.ntmps22
    go_wp2_with fail
    refine CK.out.mono ?_
    rintro e w1 ⟨v1, rfl, hown, hg⟩
    obtain ⟨A1, c1, rfl, hl1, -⟩ := hown.form
    have HL1 := Lib.hid hl1
    have HO1 : Hid (∀ b, (Value.slice A1 (pickL l ns true).length c1).ownBlock = some b → w.heap.size ≤ b) := Lib.hid (fun b hb => by
      have := (hown.lt hb).1
      simp at this
      omega)
    clear hown hl1
    go_wp2
    go_ret
    exact ⟨_, _, by rw [HG.out]; rfl, by rw [HG.out]; exact HL1.out, HB.out.trans hg, by rw [HG.out]; exact HO1.out⟩
  by_cases e2 : how = 2
  · subst e2
    have HG : Hid (groupL l 2 ns = pickL l (nmB :: ns) false) := Lib.hid rfl
    have CD := Lib.hid (fun A' c' W (g1 : LabsAt W A l) (g2 : StrsAt W A' (nmB :: ns)) => rDrop_any A A' l (nmB :: ns) c c' W g1 g2 hl (by simp; omega))
    go_enter Tryz.func22, Tryz.ntmps22
    have HB2 : Hid (Gr w ((w.alloc (.cells #[.int .i64 2, .slice N ns.length d] 24)).alloc (.cells #[.string nmB] 9))) := Lib.hid (HB.out.alloc _ _)
    have HO : Hid (OwnT ((w.alloc (.cells #[.int .i64 2, .slice N ns.length d] 24)).alloc (.cells #[.string nmB] 9)) w.heap.size (.slice (some ⟨w.heap.size + 1, 0, none⟩) 1 1) [nmB]) := Lib.hid (by
      have h := ownT_one (w.alloc (.cells #[.int .i64 2, .slice N ns.length d] 24)) w.heap.size (by simp) nmB
      rwa [show (w.alloc (.cells #[.int .i64 2, .slice N ns.length d] 24)).heap.size = w.heap.size + 1 by simp] at h)
    go_wp2_with (at_builtin; refine wpList_appT rfl rfl (.tmp 16) (.tmp 18) (by rfl) (by rfl) (B := w.heap.size) (l := [nmB]) (m := ns) HO.out (by rfl) (HS.out.gr HB2.out) (by simp; omega) (by simp; omega) ?_; intro v2 W2 hown2 hbel2)
    have HG2 : Hid (Gr w W2) := Lib.hid (HB2.out.below hbel2 (Nat.le_refl _))
    obtain ⟨A2, c2, rfl, hs2⟩ := hown2.form
    have HS2 := Lib.hid hs2
    clear hown2 hs2 hbel2
    refine (CD.out _ _ _ (HL.out.gr HG2.out) HS2.out).mono ?_
    rintro e w3 ⟨v3, rfl, hown3, hg3⟩
    obtain ⟨A3, c3, rfl, hl3, -⟩ := hown3.form
    have HL3 := Lib.hid hl3
    have HO3 : Hid (∀ b, (Value.slice A3 (pickL l (nmB :: ns) false).length c3).ownBlock = some b → w.heap.size ≤ b) := Lib.hid (fun b hb => Nat.le_trans HG2.out.b.size (hown3.lt hb).1)
    clear hown3 hl3
    go_wp2
    go_ret
    exact ⟨_, _, by rw [HG.out]; rfl, by rw [HG.out]; exact HL3.out, HG2.out.trans hg3, by rw [HG.out]; exact HO3.out⟩
  · have HG : Hid (groupL l how ns = []) := Lib.hid (by unfold groupL; rw [if_neg e1, if_neg e2])
    have d1 : (how == 1) = false := by simpa using e1
    have d2 : (how == 2) = false := by simpa using e2
    go_enter Tryz.func22, Tryz.ntmps22
    go_wp2
    go_ret
    exact ⟨_, _, by rw [HG.out]; rfl, by rw [HG.out]; exact LabsAt.none_ _ _, HB.out, fun b hb => by simp [Value.ownBlock] at hb⟩
theorem rGroup_any (A N : Option Addr) (l : List Lb) (ns : List ByteArray) (c d : Nat) (how : Int) (w : World) (h : LabsAt w A l) (hs : StrsAt w N ns) (hl : l.length ≤ 549755813888) (hn : ns.length ≤ 1099511627775) :
    Calls Tryz.prog 22 #[.slice A l.length c, .agg #[.int .i64 how, .slice N ns.length d]] w (ListPost (groupL l how ns) w) :=
  (rGroupF_any A N l ns c d how w h hs hl hn).mono fun _ _ ⟨A', c', h1, h2, h3, _⟩ => ⟨A', c', h1, h2, h3⟩
end Go.Proofs.YtllhkegefinlbaaGreatDoor
