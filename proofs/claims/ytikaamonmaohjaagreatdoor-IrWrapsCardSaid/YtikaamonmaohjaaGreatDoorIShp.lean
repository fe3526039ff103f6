/- shapeOf: what a node of a kind has. -/
import Derived.Test.YtikaamonmaohjaaGreatDoorITim
namespace Go.Proofs.YtikaamonmaohjaaGreatDoor.Ir
open Go.RowKit
set_option maxRecDepth 100000
set_option maxHeartbeats 4000000

theorem results_cell2 {P : Program} {fn : Func} {p q : Tmp} {ty : TypeId} (h : fn.results = #[.cell p ty, .tmp q]) (tmps : Array Value) (w : World) (g : Nat) (t : TypeId) (cs : Array Value) (fr : Nat × Nat) (d : TypeDesc)
    (hp : tmps.getD p undef = .pointer (some ⟨g, 0, none⟩)) (hg : w.heap[g]? = some (.cells cs t fr))
    (hu : P.underlying ty = some d) (hd : (match d with | .struct _ | .array _ _ => true | _ => false) = true) (hi : (P.info? ty).map (·.size) = some cs.size) :
    (results fn tmps).run P w = .ok (.tuple #[.agg cs, tmps.getD q undef]) w := by
  have hp' : tmps[p]?.getD undef = .pointer (some ⟨g, 0, none⟩) := by simpa using hp
  simp [results, h, hp', asAddr, run_loadVar_row w g t ty cs fr d hg hu hd hi]
theorem store_shape {ops : Array Oper} {rest : List Oper} {o : Oper} {a : Act} {w : World} {Q : Exit → Act → World → Prop} (hgd : o.guard = none) (x y : Operand) (ho : o.op = .store 77 x y) {c cs : Array Value} (g : Nat) (hg : w.heap.size = g) (hx : a.eval x = .pointer (some ⟨g, 0, none⟩)) (hy : a.eval y = .agg cs) (hs : c.size = 11) (hcs : cs.size = 11) (h1 : cs.all (·.oneCell') = true)
    (h : wpList Tryz.prog ops Q rest (a.put o.dst undef) (w.alloc (.cells cs 77))) : wpList Tryz.prog ops Q (o :: rest) a (w.alloc (.cells c 77)) := by
  subst hg
  refine wpList_store_row hgd 77 x y ho w.heap.size cs hx hy 77 c (World.alloc_heap_new w _) (by rw [hcs]; kernel_rfl) (hs.trans hcs.symm) h1 ?_
  rw [World.setRow_alloc_new]
  exact h
def tkB (x : Int) : Bool := x == 6 || x == 7
theorem takes_any (x : Int) (w : World) : Calls Tryz.prog 85 #[.int .i64 x] w fun e w' => e = .returned (.bool (tkB x)) ∧ w = w' := by
  cases h6 : (x == 6)
  · cases h7 : (x == 7)
    · have H : Hid (tkB x = false) := Lib.hid (by unfold tkB; rw [h6, h7]; rfl)
      go_enter Tryz.func85, Tryz.ntmps85
      go_wp2
      go_ret
      exact ⟨by rw [H.out]; rfl, rfl⟩
    · obtain rfl : x = 7 := by simpa using h7
      go_enter Tryz.func85, Tryz.ntmps85
      go_wp2
      go_ret
      exact ⟨rfl, rfl⟩
  · obtain rfl : x = 6 := by simpa using h6
    go_enter Tryz.func85, Tryz.ntmps85
    go_wp2
    go_ret
    exact ⟨rfl, rfl⟩
def hN (k fn : Int) : Bool := k == 1 || (k == 6 && (fn == 4 || fn == 5)) || (k == 8 && tkB fn)
def hF (k : Int) : Bool := k == 4 || k == 5 || k == 6 || k == 7 || k == 8
def hM (k : Int) : Bool := k == 3 || k == 4 || k == 12
def hL (k : Int) : Bool := k == 4 || k == 5
def hS (k : Int) : Bool := k == 5
def hO (k : Int) : Bool := k == 3 || k == 4 || k == 5
def hG (k : Int) : Bool := k == 8
def hX (k : Int) : Bool := k == 7
def hLb (k : Int) : Bool := k == 11
def kdN (k : Int) : Int := if k = 7 then 2 else if k = 5 ∨ k = 6 ∨ k = 8 ∨ k = 9 ∨ k = 10 ∨ k = 11 ∨ k = 12 then 1 else 0
def okK (k : Int) : Bool := decide (1 ≤ k) && decide (k ≤ 13)
def shKV (k fn : Int) : Array Value := shV (hN k fn) (hF k) (hM k) (hL k) (hS k) (hO k) (hG k) (hX k) (hX k) (hLb k) (kdN k)
theorem kind13 (k : Int) : k = 1 ∨ k = 2 ∨ k = 3 ∨ k = 4 ∨ k = 5 ∨ k = 6 ∨ k = 7 ∨ k = 8 ∨ k = 9 ∨ k = 10 ∨ k = 11 ∨ k = 12 ∨ k = 13 ∨ (k < 1 ∨ 13 < k) := by omega
def ShPost (k fn : Int) (w : World) (e : Ending) (w' : World) : Prop := e = .returned (.tuple #[.agg (shKV k fn), .bool (okK k)]) ∧ Gr w w'
theorem sh_size (k fn : Int) : (Tryz.prog.info? 77).map (·.size) = some (shKV k fn).size := by kernel_rfl
theorem shape_any (d : Nf) (p : Np) (nk : Nat) (w : World) :
    Calls Tryz.prog 37 #[.agg (nV d p nk).toArray] w (ShPost d.k d.fn w) := by
  obtain ⟨W1, hW1, g1, hb1, -, hsz⟩ := nbox w (nV d p nk) 31
  obtain ⟨a0, -, a2, -, -, -, -, -, -, -, -, -, -, -, -, -, -⟩ := hb1.all
  simp only [Nat.zero_add] at a2
  obtain ⟨P, hP⟩ : ∃ P, w.heap.size = P := ⟨_, rfl⟩
  rw [hP] at a0 a2 hsz
  obtain ⟨kd, hkd⟩ : ∃ x, d.k = x := ⟨_, rfl⟩
  obtain ⟨fn, hfn⟩ : ∃ x, d.fn = x := ⟨_, rfl⟩
  rw [hkd] at a0; rw [hfn] at a2
  rw [hkd, hfn]
  have hres : Tryz.f37.results = #[.cell 2 77, .tmp 3] := by kernel_rfl
  have HRS := Lib.hid hres
  have HP := Lib.hid hP; have HW1 := Lib.hid hW1; have HG1 := Lib.hid g1
  have HSZ := Lib.hid hsz
  have CT := Lib.hid (fun W => takes_any fn W)
  have c0 : ∀ cs T, (W1.alloc (.cells cs T)).cell? ⟨P, 0, none⟩ = some (.int .i64 kd) := fun cs T => ((Gr.refl W1).alloc cs T).cell a0
  have c2 : ∀ cs T, (W1.alloc (.cells cs T)).cell? ⟨P, 2, none⟩ = some (.int .i64 fn) := fun cs T => ((Gr.refl W1).alloc cs T).cell a2
  clear a0 a2
  clear hW1 g1 hb1 hsz hP hkd hfn hres
  have fin : ∀ (cs : Array Value) (b : Bool), cs = shKV kd fn → b = okK kd → ∀ a : Act, a.defers = [] → a.tmps.getD 2 undef = .pointer (some ⟨P + 1, 0, none⟩) → a.tmps.getD 3 undef = .bool b → ∀ K, K = ShPost kd fn w → bodyPost Tryz.prog Tryz.f37 K .ret a (W1.alloc (.cells cs 77)) := by
    rintro cs b rfl rfl a had h2 h3 K rfl
    refine bodyPost_ret (v := .tuple #[.agg (shKV kd fn), .bool (okK kd)]) ?_ had ⟨rfl, HG1.out.alloc _ _⟩
    rw [← h3]
    exact results_cell2 HRS.out _ _ (P + 1) 77 _ (0, 0) _ h2 (by rw [← HSZ.out]; exact World.alloc_heap_new W1 _) Tryz.underlying77 rfl (sh_size kd fn)
  have FIN := Lib.hid fin
  clear fin
  rcases kind13 kd with rfl | rfl | rfl | rfl | rfl | rfl | rfl | rfl | rfl | rfl | rfl | rfl | rfl | hno
  · have HN : Hid (hN 1 fn = true) := Lib.hid (by unfold hN; simp)
    go_enter Tryz.func37, Tryz.ntmps37
    go_upto_region 1 with fail
    rw [HW1.out, HP.out]
    go_wp2_with (first | (refine store_shape rfl _ _ rfl _ HSZ.out rfl rfl rfl rfl (by simp [Value.oneCell']) ?_) | (go_at_call 85; refine (CT.out _).mono ?_; rintro e w' ⟨rfl, rfl⟩))
    refine FIN.out _ true ?_ ?_ _ ?_ ?_ ?_ _ ?_
    · unfold shKV; rw [HN.out]; rfl
    · rfl
    all_goals rfl
  · have HN : Hid (hN 2 fn = false) := Lib.hid (by unfold hN; simp)
    go_enter Tryz.func37, Tryz.ntmps37
    go_upto_region 1 with fail
    rw [HW1.out, HP.out]
    go_wp2_with (first | (refine store_shape rfl _ _ rfl _ HSZ.out rfl rfl rfl rfl (by simp [Value.oneCell']) ?_) | (go_at_call 85; refine (CT.out _).mono ?_; rintro e w' ⟨rfl, rfl⟩))
    refine FIN.out _ true ?_ ?_ _ ?_ ?_ ?_ _ ?_
    · unfold shKV; rw [HN.out]; rfl
    · rfl
    all_goals rfl
  · have HN : Hid (hN 3 fn = false) := Lib.hid (by unfold hN; simp)
    go_enter Tryz.func37, Tryz.ntmps37
    go_upto_region 1 with fail
    rw [HW1.out, HP.out]
    go_wp2_with (first | (refine store_shape rfl _ _ rfl _ HSZ.out rfl rfl rfl rfl (by simp [Value.oneCell']) ?_) | (go_at_call 85; refine (CT.out _).mono ?_; rintro e w' ⟨rfl, rfl⟩))
    refine FIN.out _ true ?_ ?_ _ ?_ ?_ ?_ _ ?_
    · unfold shKV; rw [HN.out]; rfl
    · rfl
    all_goals rfl
  · have HN : Hid (hN 4 fn = false) := Lib.hid (by unfold hN; simp)
    go_enter Tryz.func37, Tryz.ntmps37
    go_upto_region 1 with fail
    rw [HW1.out, HP.out]
    go_wp2_with (first | (refine store_shape rfl _ _ rfl _ HSZ.out rfl rfl rfl rfl (by simp [Value.oneCell']) ?_) | (go_at_call 85; refine (CT.out _).mono ?_; rintro e w' ⟨rfl, rfl⟩))
    refine FIN.out _ true ?_ ?_ _ ?_ ?_ ?_ _ ?_
    · unfold shKV; rw [HN.out]; rfl
    · rfl
    all_goals rfl
  · have HN : Hid (hN 5 fn = false) := Lib.hid (by unfold hN; simp)
    go_enter Tryz.func37, Tryz.ntmps37
    go_upto_region 1 with fail
    rw [HW1.out, HP.out]
    go_wp2_with (first | (refine store_shape rfl _ _ rfl _ HSZ.out rfl rfl rfl rfl (by simp [Value.oneCell']) ?_) | (go_at_call 85; refine (CT.out _).mono ?_; rintro e w' ⟨rfl, rfl⟩))
    refine FIN.out _ true ?_ ?_ _ ?_ ?_ ?_ _ ?_
    · unfold shKV; rw [HN.out]; rfl
    · rfl
    all_goals rfl
  · cases h4 : (fn == 4)
    · cases h5 : (fn == 5)
      · have HN : Hid (hN 6 fn = false) := Lib.hid (by unfold hN; rw [h4, h5]; rfl)
        go_enter Tryz.func37, Tryz.ntmps37
        go_upto_region 1 with fail
        rw [HW1.out, HP.out]
        go_wp2_with (first | (refine store_shape rfl _ _ rfl _ HSZ.out rfl rfl rfl rfl (by simp [Value.oneCell']) ?_) | (go_at_call 85; refine (CT.out _).mono ?_; rintro e w' ⟨rfl, rfl⟩))
        refine FIN.out _ true ?_ ?_ _ ?_ ?_ ?_ _ ?_
        · unfold shKV; rw [HN.out]; rfl
        · rfl
        all_goals rfl
      · obtain rfl : fn = 5 := by simpa using h5
        go_enter Tryz.func37, Tryz.ntmps37
        go_upto_region 1 with fail
        rw [HW1.out, HP.out]
        go_wp2_with (first | (refine store_shape rfl _ _ rfl _ HSZ.out rfl rfl rfl rfl (by simp [Value.oneCell']) ?_) | (go_at_call 85; refine (CT.out _).mono ?_; rintro e w' ⟨rfl, rfl⟩))
        refine FIN.out _ true ?_ ?_ _ ?_ ?_ ?_ _ ?_
        · rfl
        · rfl
        all_goals rfl
    · obtain rfl : fn = 4 := by simpa using h4
      go_enter Tryz.func37, Tryz.ntmps37
      go_upto_region 1 with fail
      rw [HW1.out, HP.out]
      go_wp2_with (first | (refine store_shape rfl _ _ rfl _ HSZ.out rfl rfl rfl rfl (by simp [Value.oneCell']) ?_) | (go_at_call 85; refine (CT.out _).mono ?_; rintro e w' ⟨rfl, rfl⟩))
      refine FIN.out _ true ?_ ?_ _ ?_ ?_ ?_ _ ?_
      · rfl
      · rfl
      all_goals rfl
  · have HN : Hid (hN 7 fn = false) := Lib.hid (by unfold hN; simp)
    go_enter Tryz.func37, Tryz.ntmps37
    go_upto_region 1 with fail
    rw [HW1.out, HP.out]
    go_wp2_with (first | (refine store_shape rfl _ _ rfl _ HSZ.out rfl rfl rfl rfl (by simp [Value.oneCell']) ?_) | (go_at_call 85; refine (CT.out _).mono ?_; rintro e w' ⟨rfl, rfl⟩))
    refine FIN.out _ true ?_ ?_ _ ?_ ?_ ?_ _ ?_
    · unfold shKV; rw [HN.out]; rfl
    · rfl
    all_goals rfl
  · have HN : Hid (hN 8 fn = tkB fn) := Lib.hid (by unfold hN; simp)
    obtain ⟨b, hb⟩ : ∃ b, tkB fn = b := ⟨_, rfl⟩
    rw [hb] at HN CT
    clear hb
    go_enter Tryz.func37, Tryz.ntmps37
    go_upto_region 1 with fail
    rw [HW1.out, HP.out]
    go_wp2_with (first | (refine store_shape rfl _ _ rfl _ HSZ.out rfl rfl rfl rfl (by simp [Value.oneCell']) ?_) | (go_at_call 85; refine (CT.out _).mono ?_; rintro e w' ⟨rfl, rfl⟩))
    refine FIN.out _ true ?_ ?_ _ ?_ ?_ ?_ _ ?_
    · unfold shKV; rw [HN.out]; rfl
    · rfl
    all_goals rfl
  · have HN : Hid (hN 9 fn = false) := Lib.hid (by unfold hN; simp)
    go_enter Tryz.func37, Tryz.ntmps37
    go_upto_region 1 with fail
    rw [HW1.out, HP.out]
    go_wp2_with (first | (refine store_shape rfl _ _ rfl _ HSZ.out rfl rfl rfl rfl (by simp [Value.oneCell']) ?_) | (go_at_call 85; refine (CT.out _).mono ?_; rintro e w' ⟨rfl, rfl⟩))
    refine FIN.out _ true ?_ ?_ _ ?_ ?_ ?_ _ ?_
    · unfold shKV; rw [HN.out]; rfl
    · rfl
    all_goals rfl
  · have HN : Hid (hN 10 fn = false) := Lib.hid (by unfold hN; simp)
    go_enter Tryz.func37, Tryz.ntmps37
    go_upto_region 1 with fail
    rw [HW1.out, HP.out]
    go_wp2_with (first | (refine store_shape rfl _ _ rfl _ HSZ.out rfl rfl rfl rfl (by simp [Value.oneCell']) ?_) | (go_at_call 85; refine (CT.out _).mono ?_; rintro e w' ⟨rfl, rfl⟩))
    refine FIN.out _ true ?_ ?_ _ ?_ ?_ ?_ _ ?_
    · unfold shKV; rw [HN.out]; rfl
    · rfl
    all_goals rfl
  · have HN : Hid (hN 11 fn = false) := Lib.hid (by unfold hN; simp)
    go_enter Tryz.func37, Tryz.ntmps37
    go_upto_region 1 with fail
    rw [HW1.out, HP.out]
    go_wp2_with (first | (refine store_shape rfl _ _ rfl _ HSZ.out rfl rfl rfl rfl (by simp [Value.oneCell']) ?_) | (go_at_call 85; refine (CT.out _).mono ?_; rintro e w' ⟨rfl, rfl⟩))
    refine FIN.out _ true ?_ ?_ _ ?_ ?_ ?_ _ ?_
    · unfold shKV; rw [HN.out]; rfl
    · rfl
    all_goals rfl
  · have HN : Hid (hN 12 fn = false) := Lib.hid (by unfold hN; simp)
    go_enter Tryz.func37, Tryz.ntmps37
    go_upto_region 1 with fail
    rw [HW1.out, HP.out]
    go_wp2_with (first | (refine store_shape rfl _ _ rfl _ HSZ.out rfl rfl rfl rfl (by simp [Value.oneCell']) ?_) | (go_at_call 85; refine (CT.out _).mono ?_; rintro e w' ⟨rfl, rfl⟩))
    refine FIN.out _ true ?_ ?_ _ ?_ ?_ ?_ _ ?_
    · unfold shKV; rw [HN.out]; rfl
    · rfl
    all_goals rfl
  · have HN : Hid (hN 13 fn = false) := Lib.hid (by unfold hN; simp)
    go_enter Tryz.func37, Tryz.ntmps37
    go_upto_region 1 with fail
    rw [HW1.out, HP.out]
    go_wp2_with (first | (refine store_shape rfl _ _ rfl _ HSZ.out rfl rfl rfl rfl (by simp [Value.oneCell']) ?_) | (go_at_call 85; refine (CT.out _).mono ?_; rintro e w' ⟨rfl, rfl⟩))
    refine FIN.out _ true ?_ ?_ _ ?_ ?_ ?_ _ ?_
    · unfold shKV; rw [HN.out]; rfl
    · rfl
    all_goals rfl
  · have e1 : (kd == 1) = false := beq_eq_false_iff_ne.2 (by omega); have e2 : (kd == 2) = false := beq_eq_false_iff_ne.2 (by omega); have e3 : (kd == 3) = false := beq_eq_false_iff_ne.2 (by omega); have e4 : (kd == 4) = false := beq_eq_false_iff_ne.2 (by omega); have e5 : (kd == 5) = false := beq_eq_false_iff_ne.2 (by omega); have e6 : (kd == 6) = false := beq_eq_false_iff_ne.2 (by omega); have e7 : (kd == 7) = false := beq_eq_false_iff_ne.2 (by omega); have e8 : (kd == 8) = false := beq_eq_false_iff_ne.2 (by omega); have e9 : (kd == 9) = false := beq_eq_false_iff_ne.2 (by omega); have e10 : (kd == 10) = false := beq_eq_false_iff_ne.2 (by omega); have e11 : (kd == 11) = false := beq_eq_false_iff_ne.2 (by omega); have e12 : (kd == 12) = false := beq_eq_false_iff_ne.2 (by omega); have e13 : (kd == 13) = false := beq_eq_false_iff_ne.2 (by omega)
    have HN : Hid (shKV kd fn = shV false false false false false false false false false false 0) := Lib.hid (by unfold shKV hN hF hM hL hS hO hG hX hLb kdN; rw [if_neg (by omega), if_neg (by omega)]; simp only [e1, e3, e4, e5, e6, e7, e8, e11, e12, Bool.false_and, Bool.or_false])
    have HK : Hid (okK kd = false) := Lib.hid (by unfold okK; rcases hno with h | h; rw [decide_eq_false (by omega)]; rfl; rw [decide_eq_false (by omega : ¬ kd ≤ 13), Bool.and_false])
    clear hno
    go_enter Tryz.func37, Tryz.ntmps37
    go_upto_region 1 with fail
    rw [HW1.out, HP.out]
    go_wp2_with (first | (refine store_shape rfl _ _ rfl _ HSZ.out rfl rfl rfl rfl (by simp [Value.oneCell']) ?_) | (go_at_call 85; refine (CT.out _).mono ?_; rintro e w' ⟨rfl, rfl⟩))
    refine FIN.out _ false ?_ ?_ _ ?_ ?_ ?_ _ ?_
    · rw [HN.out]; rfl
    · rw [HK.out]
    all_goals rfl
end Go.Proofs.YtikaamonmaohjaaGreatDoor.Ir
