/- What the laws' first test runs: Text of 2.5, Parse of 1e3, and the like, at these very inputs. -/
import Derived.Test.YtndbcbmkmafieaaGreatDoorFn
import Derived.BigRegion
namespace Go.Proofs.YtndbcbmkmafieaaGreatDoor
open Go.RowKit
set_option maxHeartbeats 1000000
set_option maxRecDepth 100000

/-- every cell that was known is so still -/
def Keep (w w' : World) : Prop := ∀ b o v, w.cell? ⟨b, o, none⟩ = some v → w'.cell? ⟨b, o, none⟩ = some v
theorem Keep.alloc (w : World) (o : Obj) : Keep w (w.alloc o) := fun _ _ _ h => (World.cell?_alloc_lt _ _ _ (World.block_lt_of_cell? w _ h)).trans h
theorem Keep.drewN (w : World) (n : Nat) : Keep w (w.drewN n) := fun _ _ _ h => h
theorem Keep.drew (w : World) : Keep w w.drew := fun _ _ _ h => h
theorem Keep.grown {w w' : World} (g : Grown w w') : Keep w w' := fun _ _ _ h => (g.1.cell (World.block_lt_of_cell? w _ h) (fun f => f)).trans h
/-- nothing that was there has changed; and what is new is not frozen -/
structure Gr (w w' : World) : Prop where
  b : Below w.heap.size w w'
  g : Grown w w'
theorem Gr.refl (w : World) : Gr w w := ⟨Below.refl _ _, Grown.refl _⟩
theorem Gr.alloc {w w' : World} (h : Gr w w') (c : Array Value) (t : TypeId) : Gr w (w'.alloc (.cells c t)) := ⟨h.b.alloc h.b.size _, h.g.alloc c t⟩
theorem Gr.setCell {w w' : World} (h : Gr w w') {a : Addr} (ha : w.heap.size ≤ a.block) (v : Value) : Gr w (w'.setCell a v) := ⟨h.b.setCell ha v, h.g.setCell ha v⟩
theorem Gr.drewN {w w' : World} (h : Gr w w') (n : Nat) : Gr w (w'.drewN n) := ⟨below_drewN h.b n, h.g⟩
theorem Gr.trans {a b c : World} (h : Gr a b) (g : Gr b c) : Gr a c :=
  ⟨h.b.trans (g.b.mono h.b.size), ⟨World.keptBut_trans h.g.1 (World.keptBut_mono (fun _ f => f.elim) g.g.1), fun x => (g.g.2.1 x).trans (h.g.2.1 x), Nat.le_trans h.g.2.2 g.g.2.2⟩⟩
theorem Keep.gr {w w' : World} (g : Gr w w') : Keep w w' := Keep.grown g.g
theorem Keep.trans {a b c : World} (h : Keep a b) (g : Keep b c) : Keep a c := fun x y v e => g x y v (h x y v e)
theorem Tab.keep {w w' : World} (h : Tab w) (k : Keep w w') : Tab w' := ⟨k _ _ _ h.c0, k _ _ _ h.c1, k _ _ _ h.c2, k _ _ _ h.c3⟩

/-- the cells of the library's tables that these runs read -/
structure Kn (b : Nat × Nat × Nat) (w : World) : Prop where
  tab : Tab w
  p0 : w.cell? ⟨11, 728, none⟩ = some (.int .u64 10240000000000000000)
  p1 : w.cell? ⟨11, 729, none⟩ = some (.int .u64 0)
  u15 : w.cell? ⟨7, 15, none⟩ = some (.int .u64 1000000000000000)
  opt : w.cell? ⟨4, 0, none⟩ = some (.bool true)
  mb : w.cell? ⟨6, 0, none⟩ = some (.int .u64 52)
  f10 : w.cell? ⟨10, 0, none⟩ = some (.slice (some ⟨b.1, b.2.1, none⟩) 23 b.2.2)
  f3 : w.cell? ⟨b.1, b.2.1 + 3, none⟩ = some (.float .f64 4652007308841189376)
theorem Kn.keep {b : Nat × Nat × Nat} {w w' : World} (h : Kn b w) (k : Keep w w') : Kn b w' :=
  ⟨h.tab.keep k, k _ _ _ h.p0, k _ _ _ h.p1, k _ _ _ h.u15, k _ _ _ h.opt, k _ _ _ h.mb, k _ _ _ h.f10, k _ _ _ h.f3⟩
theorem Kn.alloc {b : Nat × Nat × Nat} {w : World} (h : Kn b w) (o : Obj) : Kn b (w.alloc o) := h.keep (Keep.alloc w o)
theorem Kn.drewN {b : Nat × Nat × Nat} {w : World} (h : Kn b w) (n : Nat) : Kn b (w.drewN n) := h.keep (Keep.drewN w n)
theorem Kn.drew {b : Nat × Nat × Nat} {w : World} (h : Kn b w) : Kn b w.drew := h.keep (Keep.drew w)

attribute [local go_sem] bits IntKind.bits IntKind.wrap_u64 IntKind.wrap_u32'

theorem hmk : ∀ w : World, (Instr.makeSlice 64 (.int .i64 0) (.int .i64 24)).run Tryz.prog w = .ok (.slice (some ⟨w.heap.size, 0, none⟩) 0 24) (w.alloc (.cells #[.int .u8 0, .int .u8 0, .int .u8 0, .int .u8 0, .int .u8 0, .int .u8 0, .int .u8 0, .int .u8 0, .int .u8 0, .int .u8 0, .int .u8 0, .int .u8 0, .int .u8 0, .int .u8 0, .int .u8 0, .int .u8 0, .int .u8 0, .int .u8 0, .int .u8 0, .int .u8 0, .int .u8 0, .int .u8 0, .int .u8 0, .int .u8 0] 5)) := fun _ => by kernel_rfl

theorem len_at1 (w : World) : Calls Tryz.prog 69 #[.int .u64 5629499534213120] w fun e w' => e = .returned (.int .i64 53) ∧ w = w' := by
  go_enter Tryz.func69, Tryz.ntmps69
  go_wp2
  go_ret
  exact ⟨by kernel_rfl, rfl⟩
theorem len_at2 (w : World) : Calls Tryz.prog 69 #[.int .u64 2500000000000000] w fun e w' => e = .returned (.int .i64 52) ∧ w = w' := by
  go_enter Tryz.func69, Tryz.ntmps69
  go_wp2
  go_ret
  exact ⟨by kernel_rfl, rfl⟩
theorem num_at {b : Nat × Nat × Nat} (w : World) (hk : Kn b w) : Calls Tryz.prog 72 #[.int .u64 2500000000000000] w fun e w' => e = .returned (.int .i64 16) ∧ w = w' := by
  have h3 := hk.u15
  go_enter Tryz.func72, Tryz.ntmps72
  go_wp2_with (first | (go_at_call 69; refine (len_at2 _).mono ?_; rintro e w' ⟨rfl, rfl⟩) | go_in)
  go_ret
  exact ⟨by kernel_rfl, rfl⟩
theorem short_at {b : Nat × Nat × Nat} (w : World) (hk : Kn b w) :
    Calls Tryz.prog 78 #[.int .u64 11529215046068469760, .int .i64 (-62)] w fun e w' => e = .returned (.tuple #[.int .u64 2500000000000000, .int .i64 (-15)]) ∧ w' = w.alloc (.cells #[.int .u64 10240000000000000000, .int .u64 0, .int .i64 6] 123) := by
  have h1 := hk.p0
  have h2 := hk.p1
  have hz' : 11 < w.heap.size := World.block_lt_of_cell? w _ h1
  go_enter Tryz.func78, Tryz.ntmps78
  go_wp2
  go_ret2
  exact ⟨by kernel_rfl, rfl⟩
theorem fmt10_at (W : World) (o : Obj) (B : Nat) (hB : B = W.heap.size) :
    Calls Tryz.prog 104 #[.slice (some ⟨B, 0, none⟩) 16 32, .int .u64 2500000000000000] ((W.alloc (.cells #[.int .u8 0, .int .u8 0, .int .u8 0, .int .u8 0, .int .u8 0, .int .u8 0, .int .u8 0, .int .u8 0, .int .u8 0, .int .u8 0, .int .u8 0, .int .u8 0, .int .u8 0, .int .u8 0, .int .u8 0, .int .u8 0, .int .u8 0, .int .u8 0, .int .u8 0, .int .u8 0, .int .u8 0, .int .u8 0, .int .u8 0, .int .u8 0, .int .u8 0, .int .u8 0, .int .u8 0, .int .u8 0, .int .u8 0, .int .u8 0, .int .u8 0, .int .u8 0] 81)).alloc o) fun e w' => e = .returned (.tuple #[]) ∧ ∃ n, w' = ((W.alloc (.cells #[.int .u8 50, .int .u8 53, .int .u8 48, .int .u8 48, .int .u8 48, .int .u8 48, .int .u8 48, .int .u8 48, .int .u8 48, .int .u8 48, .int .u8 48, .int .u8 48, .int .u8 48, .int .u8 48, .int .u8 48, .int .u8 48, .int .u8 0, .int .u8 0, .int .u8 0, .int .u8 0, .int .u8 0, .int .u8 0, .int .u8 0, .int .u8 0, .int .u8 0, .int .u8 0, .int .u8 0, .int .u8 0, .int .u8 0, .int .u8 0, .int .u8 0, .int .u8 0] 81)).alloc o).drewN n := by
  subst hB
  go_enter Tryz.func104, Tryz.ntmps104
  go_wp2
  refine wp_loop_rounds 3 ?_
  rw [rounds_succ]
  go_wp2
  go_region
  go_wp2
  go_region
  go_wp2
  go_region
  go_wp2
  go_region
  go_wp2
  rw [rounds_succ]
  go_wp2
  go_region
  go_wp2
  go_region
  go_wp2
  go_region
  go_wp2
  go_region
  go_wp2
  rw [rounds_succ]
  go_wp2
  go_end0
  exact ⟨rfl, 8, by kernel_rfl⟩

theorem setdig_at (W : World) (o : Obj) (B : Nat) (hB : B = W.heap.size) :
    Calls Tryz.prog 71 #[.slice (some ⟨B, 0, none⟩) 32 32, .int .u64 2500000000000000, .int .i64 (-15), .int .i64 16] ((W.alloc (.cells #[.int .u8 0, .int .u8 0, .int .u8 0, .int .u8 0, .int .u8 0, .int .u8 0, .int .u8 0, .int .u8 0, .int .u8 0, .int .u8 0, .int .u8 0, .int .u8 0, .int .u8 0, .int .u8 0, .int .u8 0, .int .u8 0, .int .u8 0, .int .u8 0, .int .u8 0, .int .u8 0, .int .u8 0, .int .u8 0, .int .u8 0, .int .u8 0, .int .u8 0, .int .u8 0, .int .u8 0, .int .u8 0, .int .u8 0, .int .u8 0, .int .u8 0, .int .u8 0] 81)).alloc o) fun e w' => e = .returned (.tuple #[.int .i64 1, .int .i64 2]) ∧ ∃ n, w' = ((W.alloc (.cells #[.int .u8 50, .int .u8 53, .int .u8 48, .int .u8 48, .int .u8 48, .int .u8 48, .int .u8 48, .int .u8 48, .int .u8 48, .int .u8 48, .int .u8 48, .int .u8 48, .int .u8 48, .int .u8 48, .int .u8 48, .int .u8 48, .int .u8 0, .int .u8 0, .int .u8 0, .int .u8 0, .int .u8 0, .int .u8 0, .int .u8 0, .int .u8 0, .int .u8 0, .int .u8 0, .int .u8 0, .int .u8 0, .int .u8 0, .int .u8 0, .int .u8 0, .int .u8 0] 81)).alloc o).drewN n := by
  subst hB
  go_enter Tryz.func71, Tryz.ntmps71
  go_wp2_with (go_at_call 104; refine (fmt10_at _ _ _ rfl).mono ?_; rintro e w' ⟨rfl, n, rfl⟩)
  go_rounds 16
  go_ret2
  exact ⟨rfl, n, rfl⟩

end Go.Proofs.YtndbcbmkmafieaaGreatDoor
