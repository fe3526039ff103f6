/- Small laws for Clean's region. -/
import Derived.Test.YtikaamonmaohjaaGreatDoorISize
import Derived.OrdersHeld
import Derived.Deep.RegionHeld
import Derived.Deep.MidRow
import Derived.Laws.Tables
import Derived.KernelRfl
import Derived.Test.YtikaamonmaohjaaGreatDoorIShp
namespace Go.Proofs.YtikaamonmaohjaaGreatDoor.Ir
open Go.RowKit Go.Shelf
set_option maxRecDepth 100000
set_option maxHeartbeats 1000000
@[local go_sem] theorem run_bitsC (b : Nat) (w : World) : (callFunc 119 #[.float .f64 b]).run Tryz.prog w = .ok (.value (.int .u64 b)) w := by
  rw [run_callFunc_extern Tryz.func119 (by kernel_rfl) (by kernel_rfl) (by kernel_rfl) (e := Extern.MathFloatBits.float64bits) (by kernel_rfl)]; rfl
theorem canon_zero (w : World) : Calls Tryz.prog 71 #[.float .f64 0] w fun e w' => e = .returned (.float .f64 0) ∧ Gr w w' := by
  go_enter Tryz.func71, Tryz.ntmps71
  go_wp2
  go_ret
  exact ⟨rfl, Gr.refl _⟩
theorem same_zero (w : World) : Calls Tryz.prog 66 #[.float .f64 0, .float .f64 0] w fun e w' => e = .returned (.bool true) ∧ Gr w w' := by
  go_enter Tryz.func66, Tryz.ntmps66
  go_wp2
  go_ret
  exact ⟨rfl, Gr.refl _⟩
end Go.Proofs.YtikaamonmaohjaaGreatDoor.Ir
namespace Go.Proofs.YtikaamonmaohjaaGreatDoor.Ir
open Go.RowKit Go.Shelf
set_option maxRecDepth 100000
set_option maxHeartbeats 1000000

section
variable {P : Program} {ops : Array Oper} {Q : Exit → Act → World → Prop} {S : World → Prop} {a : Act} {w : World}
/-- may the operations come up so? -/
def planB (ops : Array Oper) : List (Nat × Bool) → Array Bool → Bool
  | [], listed => (Region.ready .any ops listed).isEmpty
  | (i, true) :: r, listed => Region.free .any ops listed i && ((Region.ready .any ops listed).contains i && planB ops r (listed.setIfInBounds i true))
  | (i, false) :: r, listed => decide (Region.ready .any ops listed = [i]) && planB ops r (listed.setIfInBounds i true)
/-- what is to be shown, one operation after the other -/
def wpPlan (P : Program) (ops : Array Oper) (Q : Exit → Act → World → Prop) (S : World → Prop) : List (Nat × Bool) → Act → World → Prop
  | [], a, w => Q .normal a w
  | (i, true) :: r, a, w => ∃ oi v, ops[i]? = some oi ∧ YieldsIf P ops S oi v a ∧ wpPlan P ops Q S r (a.put oi.dst v) w
  | (i, false) :: r, a, w => wpOp P ops Q i (fun a' w' => S w' ∧ wpPlan P ops Q S r a' w') a w
theorem plan_sound (hs : Region.noSelect ops = true) (hQ : ∀ c (a : Act) d v w, Q (.panic c) (a.put d v) w → Q (.panic c) a w) :
    ∀ (plan : List (Nat × Bool)) (fuel : Nat) (listed : Array Bool) (a : Act) (w : World), planB ops plan listed = true → plan.length ≤ fuel → S w → wpPlan P ops Q S plan a w → wpAnyH P .any ops Q S fuel listed a w
  | [], fuel, listed, a, w, hb, _, _, h => wpAnyH_done (by simpa [planB] using hb) h fuel
  | x :: r, 0, _, _, _, _, hl, _, _ => absurd hl (by simp)
  | (i, true) :: r, fuel + 1, listed, a, w, hb, hl, hS, ⟨oi, v, hi, hy, hr⟩ => by
    simp only [planB, Bool.and_eq_true] at hb
    exact wpAnyH_take hi hs hb.1 hb.2.1 (fun c a w => hQ c a _ _ w) hy hS (plan_sound hs hQ r fuel _ _ _ hb.2.2 (by simpa using hl) hS hr)
  | (i, false) :: r, fuel + 1, listed, a, w, hb, hl, hS, h => by
    simp only [planB, Bool.and_eq_true, decide_eq_true_eq] at hb
    refine wpAnyH_all hb.1 (by simp) (fun j hj => ?_)
    obtain rfl : j = i := by simpa using hj
    exact wpOp_mono (fun a' w' h' => ⟨h'.1, plan_sound hs hQ r fuel _ _ _ hb.2 (by simpa using hl) h'.1 h'.2⟩) h
/-- the region -/
theorem wp_plan {id : Nat} {plan : List (Nat × Bool)} (hm : P.follows .mixedOrders = true) (hs : Region.noSelect ops = true) (hp : planB ops plan (Array.replicate ops.size false) = true) (hl : plan.length ≤ ops.size)
    (hQ : ∀ c (a : Act) d v w, Q (.panic c) (a.put d v) w → Q (.panic c) a w) (hS : S w.drew) (h : wpPlan P ops Q S plan a w.drew) : (Code.region id ops true).wp P Q a w :=
  wp_region_held_drew hm hS fun hS => plan_sound hs hQ plan _ _ _ _ hp hl hS h
theorem plan_end (h : Q .normal a w) : wpPlan P ops Q S [] a w := h
/-- an operation that yields -/
theorem plan_take {i : Nat} {r : List (Nat × Bool)} {o : Oper} {v : Value} (t : Option Tmp) (hi : ops[i]? = some o) (hg : o.guard = none) (hd : o.dst = t) (hy : ∀ w, S w → (execOp a.eval o).run P w = .ok (.value v) w) (h : wpPlan P ops Q S r (a.put t v) w) : wpPlan P ops Q S ((i, true) :: r) a w :=
  ⟨o, v, hi, .inl ⟨by simp [Region.wanted, hg], hy⟩, by rw [hd]; exact h⟩
/-- an operation that is carried out here -/
theorem plan_op {i : Nat} {r : List (Nat × Bool)} {o : Oper} (hi : ops[i]? = some o) (hg : o.guard = none) (h : o.wp P a w (fun a' w' => S w' ∧ wpPlan P ops Q S r a' w') Q) : wpPlan P ops Q S ((i, false) :: r) a w := by
  unfold wpPlan wpOp
  simp only [hi, Region.wanted, hg, if_true]
  exact .inl h
theorem x_field {o : Oper} {T x : _} {k : Nat} {p q : Value} (ho : o.op = .fieldAddr T x k) (hx : a.eval x = p) (hr : (Instr.fieldAt T p k).run P w = .ok q w) : (execOp a.eval o).run P w = .ok (.value q) w := by
  unfold execOp
  simp only [ho, hx, Sem.run_bind, Sem.run_pure, Result.andThen_ok, hr]
theorem x_load {o : Oper} {T x : _} {p q : Value} (ho : o.op = .load T x) (hx : a.eval x = p) (hr : (Instr.loadAt T p).run P w = .ok q w) : (execOp a.eval o).run P w = .ok (.value q) w := by
  unfold execOp
  simp only [ho, hx, Sem.run_bind, Sem.run_pure, Result.andThen_ok, hr]
theorem x_build {o : Oper} {T : _} {parts : Array (Nat × Operand)} {vs : Array (Nat × Value)} {q : Value} (ho : o.op = .build T parts) (hx : (parts.map fun (i, x) => (i, a.eval x)) = vs) (hr : (Instr.build T vs).run P w = .ok q w) : (execOp a.eval o).run P w = .ok (.value q) w := by
  unfold execOp
  simp only [ho, Sem.run_bind, Sem.run_pure]
  rw [hx, hr]
  rfl
/-- a call of a function, by its contract -/
theorem x_call (t : Option Tmp) {o : Oper} {f : FuncId} {xs : Array Operand} {ts : Array TypeId} {vs : Array Value} {K : Act → World → Prop} {R : Ending → World → Prop} (ho : o.op = .call { callee := .value (.func f), args := xs, argTypes := ts }) (hd : o.dst = t) (hx : xs.map a.eval = vs)
    (eg : ∀ args w, (callFunc f args).run P w = .ok (.enter f args) w) (hC : Calls P f vs w R) (h : ∀ e w', R e w' → ∃ v, e = .returned v ∧ K (a.put t v) w') : o.wp P a w K Q := by
  subst hd
  unfold Oper.wp execOp
  simp only [ho, resolve, hx]
  simp [invoke, Deferred.ofValue, go_sem, eg]
  refine hC.mono fun e w' hr => ?_
  obtain ⟨v, rfl, hk⟩ := h e w' hr
  exact hk
end
/-- the operations of a function's region -/
def regOps : Code → Nat → List (Array Oper)
  | .region j l _, i => if i = j then [l] else []
  | .seq c d, i => regOps c i ++ regOps d i
  | .block _ c, i => regOps c i
  | _, _ => []
def opsOf (f : Func) (i : Nat) : Array Oper := match f.body with
  | some c => (regOps c i).headD #[]
  | none => #[]
end Go.Proofs.YtikaamonmaohjaaGreatDoor.Ir
namespace Go.Proofs.YtikaamonmaohjaaGreatDoor.Ir
open Go.RowKit
set_option maxRecDepth 100000
def planC : List (Nat × Bool) := ([0, 1, 2, 3, 4, 5, 8, 9, 10, 11, 13, 14, 15, 16, 19, 20, 21, 22, 24, 25, 26, 27, 29, 30, 31, 32, 34, 35, 36, 37, 40, 41, 42, 43, 46, 47, 48, 49, 51, 52, 53, 54, 56, 57, 58, 59, 61, 62].map fun i => (i, true)) ++ ([6, 7, 12, 17, 18, 23, 28, 33, 38, 39, 44, 45, 50, 55, 60, 63, 64].map fun i => (i, false)) ++ [(65, true), (66, false)]
theorem opsC_size : (opsOf Tryz.f27 2).size = 67 := by kernel_rfl
theorem opsC_sel : Region.noSelect (opsOf Tryz.f27 2) = true := by kernel_rfl
theorem planC_ok : planB (opsOf Tryz.f27 2) planC (Array.replicate (opsOf Tryz.f27 2).size false) = true := by kernel_rfl
end Go.Proofs.YtikaamonmaohjaaGreatDoor.Ir
namespace Go.Proofs.YtikaamonmaohjaaGreatDoor.Ir
open Go.RowKit Go.Shelf
set_option maxRecDepth 100000
set_option maxHeartbeats 1000000
theorem faN_0 (N : Nat) (w : World) : (Instr.fieldAt 31 (.pointer (some ⟨N, 0, none⟩)) 0).run Tryz.prog w = .ok (.pointer (some ⟨N, 0, none⟩)) w := by go_simp
theorem faN_1 (N : Nat) (w : World) : (Instr.fieldAt 31 (.pointer (some ⟨N, 0, none⟩)) 1).run Tryz.prog w = .ok (.pointer (some ⟨N, 1, none⟩)) w := by go_simp
theorem faN_2 (N : Nat) (w : World) : (Instr.fieldAt 31 (.pointer (some ⟨N, 0, none⟩)) 2).run Tryz.prog w = .ok (.pointer (some ⟨N, 2, none⟩)) w := by go_simp
theorem faN_3 (N : Nat) (w : World) : (Instr.fieldAt 31 (.pointer (some ⟨N, 0, none⟩)) 3).run Tryz.prog w = .ok (.pointer (some ⟨N, 3, none⟩)) w := by go_simp
theorem faN_4 (N : Nat) (w : World) : (Instr.fieldAt 31 (.pointer (some ⟨N, 0, none⟩)) 4).run Tryz.prog w = .ok (.pointer (some ⟨N, 4, none⟩)) w := by go_simp
theorem faN_5 (N : Nat) (w : World) : (Instr.fieldAt 31 (.pointer (some ⟨N, 0, none⟩)) 5).run Tryz.prog w = .ok (.pointer (some ⟨N, 5, none⟩)) w := by go_simp
theorem faN_6 (N : Nat) (w : World) : (Instr.fieldAt 31 (.pointer (some ⟨N, 0, none⟩)) 6).run Tryz.prog w = .ok (.pointer (some ⟨N, 6, none⟩)) w := by go_simp
theorem faN_7 (N : Nat) (w : World) : (Instr.fieldAt 31 (.pointer (some ⟨N, 0, none⟩)) 7).run Tryz.prog w = .ok (.pointer (some ⟨N, 7, none⟩)) w := by go_simp
theorem faN_8 (N : Nat) (w : World) : (Instr.fieldAt 31 (.pointer (some ⟨N, 0, none⟩)) 8).run Tryz.prog w = .ok (.pointer (some ⟨N, 9, none⟩)) w := by go_simp
theorem faN_9 (N : Nat) (w : World) : (Instr.fieldAt 31 (.pointer (some ⟨N, 0, none⟩)) 9).run Tryz.prog w = .ok (.pointer (some ⟨N, 13, none⟩)) w := by go_simp
theorem faN_10 (N : Nat) (w : World) : (Instr.fieldAt 31 (.pointer (some ⟨N, 0, none⟩)) 10).run Tryz.prog w = .ok (.pointer (some ⟨N, 14, none⟩)) w := by go_simp
theorem faN_11 (N : Nat) (w : World) : (Instr.fieldAt 31 (.pointer (some ⟨N, 0, none⟩)) 11).run Tryz.prog w = .ok (.pointer (some ⟨N, 15, none⟩)) w := by go_simp
theorem faS_0 (N : Nat) (w : World) : (Instr.fieldAt 77 (.pointer (some ⟨N, 0, none⟩)) 0).run Tryz.prog w = .ok (.pointer (some ⟨N, 0, none⟩)) w := by go_simp
theorem faS_1 (N : Nat) (w : World) : (Instr.fieldAt 77 (.pointer (some ⟨N, 0, none⟩)) 1).run Tryz.prog w = .ok (.pointer (some ⟨N, 1, none⟩)) w := by go_simp
theorem faS_2 (N : Nat) (w : World) : (Instr.fieldAt 77 (.pointer (some ⟨N, 0, none⟩)) 2).run Tryz.prog w = .ok (.pointer (some ⟨N, 2, none⟩)) w := by go_simp
theorem faS_3 (N : Nat) (w : World) : (Instr.fieldAt 77 (.pointer (some ⟨N, 0, none⟩)) 3).run Tryz.prog w = .ok (.pointer (some ⟨N, 3, none⟩)) w := by go_simp
theorem faS_4 (N : Nat) (w : World) : (Instr.fieldAt 77 (.pointer (some ⟨N, 0, none⟩)) 4).run Tryz.prog w = .ok (.pointer (some ⟨N, 4, none⟩)) w := by go_simp
theorem faS_5 (N : Nat) (w : World) : (Instr.fieldAt 77 (.pointer (some ⟨N, 0, none⟩)) 5).run Tryz.prog w = .ok (.pointer (some ⟨N, 5, none⟩)) w := by go_simp
theorem faS_6 (N : Nat) (w : World) : (Instr.fieldAt 77 (.pointer (some ⟨N, 0, none⟩)) 6).run Tryz.prog w = .ok (.pointer (some ⟨N, 6, none⟩)) w := by go_simp
theorem faS_7 (N : Nat) (w : World) : (Instr.fieldAt 77 (.pointer (some ⟨N, 0, none⟩)) 7).run Tryz.prog w = .ok (.pointer (some ⟨N, 7, none⟩)) w := by go_simp
theorem faS_8 (N : Nat) (w : World) : (Instr.fieldAt 77 (.pointer (some ⟨N, 0, none⟩)) 8).run Tryz.prog w = .ok (.pointer (some ⟨N, 8, none⟩)) w := by go_simp
theorem faS_9 (N : Nat) (w : World) : (Instr.fieldAt 77 (.pointer (some ⟨N, 0, none⟩)) 9).run Tryz.prog w = .ok (.pointer (some ⟨N, 9, none⟩)) w := by go_simp
theorem ld_int {b o : Nat} {x : Int} (w : World) (h : w.cell? ⟨b, o, none⟩ = some (.int .i64 x)) : (Instr.loadAt 3 (.pointer (some ⟨b, o, none⟩))).run Tryz.prog w = .ok (.int .i64 x) w := by go_simp
theorem ld_bool {b o : Nat} {x : Bool} (w : World) (h : w.cell? ⟨b, o, none⟩ = some (.bool x)) : (Instr.loadAt 4 (.pointer (some ⟨b, o, none⟩))).run Tryz.prog w = .ok (.bool x) w := by go_simp
theorem ld_float {b o : Nat} {x : Nat} (w : World) (h : w.cell? ⟨b, o, none⟩ = some (.float .f64 x)) : (Instr.loadAt 22 (.pointer (some ⟨b, o, none⟩))).run Tryz.prog w = .ok (.float .f64 x) w := by go_simp
theorem ld_str {b o : Nat} {x : ByteArray} (w : World) (h : w.cell? ⟨b, o, none⟩ = some (.string x)) : (Instr.loadAt 9 (.pointer (some ⟨b, o, none⟩))).run Tryz.prog w = .ok (.string x) w := by go_simp
theorem ld_mats {b o : Nat} {A : Option Addr} {n c : Nat} (w : World) (h : w.cell? ⟨b, o, none⟩ = some (.slice A n c)) : (Instr.loadAt 23 (.pointer (some ⟨b, o, none⟩))).run Tryz.prog w = .ok (.slice A n c) w := by go_simp
theorem range2 {W : World} {b o : Nat} {u v : Value} (h0 : W.cell? ⟨b, o, none⟩ = some u) (h1 : W.cell? ⟨b, o + 1, none⟩ = some v) : W.rangeAt b o [u, v] := fun i x e => by
  match i, e with
  | 0, e => cases e; exact h0
  | 1, e => cases e; exact h1
theorem range4 {W : World} {b o : Nat} {u v x y : Value} (h0 : W.cell? ⟨b, o, none⟩ = some u) (h1 : W.cell? ⟨b, o + 1, none⟩ = some v) (h2 : W.cell? ⟨b, o + 2, none⟩ = some x) (h3 : W.cell? ⟨b, o + 3, none⟩ = some y) : W.rangeAt b o [u, v, x, y] := fun i z e => by
  match i, e with
  | 0, e => cases e; exact h0
  | 1, e => cases e; exact h1
  | 2, e => cases e; exact h2
  | 3, e => cases e; exact h3
theorem ld_grp {b o : Nat} {u v : Value} (w : World) (h : w.rangeAt b o [u, v]) : (Instr.loadAt 26 (.pointer (some ⟨b, o, none⟩))).run Tryz.prog w = .ok (.agg #[u, v]) w := run_loadAt_mid w b o 26 [u, v] _ h Tryz.underlying26 rfl (by kernel_rfl)
theorem ld_mch {b o : Nat} {u v x y : Value} (w : World) (h : w.rangeAt b o [u, v, x, y]) : (Instr.loadAt 28 (.pointer (some ⟨b, o, none⟩))).run Tryz.prog w = .ok (.agg #[u, v, x, y]) w := run_loadAt_mid w b o 28 [u, v, x, y] _ h Tryz.underlying28 rfl (by kernel_rfl)
theorem ld_node {b : Nat} {d : Nf} {p : Np} {nk : Nat} (w : World) (h : CellsAt w b 0 (nV d p nk)) : (Instr.loadAt 31 (.pointer (some ⟨b, 0, none⟩))).run Tryz.prog w = .ok (.agg (nV d p nk).toArray) w := run_loadAt_mid w b 0 31 (nV d p nk) _ h Tryz.underlying31 rfl info_node
theorem ld_shape {b : Nat} {k fn : Int} (w : World) (h : w.rangeAt b 0 (shKV k fn).toList) : (Instr.loadAt 77 (.pointer (some ⟨b, 0, none⟩))).run Tryz.prog w = .ok (.agg (shKV k fn)) w := by
  have := run_loadAt_mid (P := Tryz.prog) w b 0 77 (shKV k fn).toList _ h Tryz.underlying77 rfl (by rw [show (shKV k fn).toList.length = 11 from rfl]; kernel_rfl)
  rwa [Array.toArray_toList] at this
theorem build17 (k fn rg st of gh xh card : Int) (num mN gN xN iN nk mC gC xC iC kC : Nat) (mA gA xA iA kA : Option Addr) (flag : Bool) (name value : ByteArray) (w : World) :
    (Instr.build 31 #[(0, .int .i64 k), (1, .float .f64 num), (2, .int .i64 fn), (3, .slice mA mN mC), (4, .int .i64 rg), (5, .int .i64 st), (6, .int .i64 of), (7, .agg #[.int .i64 gh, .slice gA gN gC]), (8, .agg #[.int .i64 xh, .slice xA xN xC, .int .i64 card, .slice iA iN iC]), (9, .bool flag), (10, .string name), (11, .string value), (12, .slice kA nk kC)]).run Tryz.prog w =
      .ok (.agg #[.int .i64 k, .float .f64 num, .int .i64 fn, .slice mA mN mC, .int .i64 rg, .int .i64 st, .int .i64 of, .int .i64 gh, .slice gA gN gC, .int .i64 xh, .slice xA xN xC, .int .i64 card, .slice iA iN iC, .bool flag, .string name, .string value, .slice kA nk kC]) w := by go_simp
end Go.Proofs.YtikaamonmaohjaaGreatDoor.Ir
