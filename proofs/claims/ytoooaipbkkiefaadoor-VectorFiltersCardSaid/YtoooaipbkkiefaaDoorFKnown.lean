/- What the laws' first test runs: Text of 2.5, Parse of 1e3, and the like, at these very inputs. -/
import Derived.Test.YtoooaipbkkiefaaDoorFFn
import Derived.BigRegion
namespace Go.Proofs.YtoooaipbkkiefaaDoor.Fv
open Go.RowKit
set_option maxHeartbeats 1000000
set_option maxRecDepth 100000

/-- every cell that was known is so still -/
def Keep (w w' : World) : Prop := ∀ b o v, w.cell? ⟨b, o, none⟩ = some v → w'.cell? ⟨b, o, none⟩ = some v
theorem Keep.alloc (w : World) (o : Obj) : Keep w (w.alloc o) := fun _ _ _ h => (World.cell?_alloc_lt _ _ _ (World.block_lt_of_cell? w _ h)).trans h
theorem Keep.drewN (w : World) (n : Nat) : Keep w (w.drewN n) := fun _ _ _ h => h
theorem Keep.drew (w : World) : Keep w w.drew := fun _ _ _ h => h
theorem Keep.grown {w w' : World} (g : Grown w w') : Keep w w' := fun _ _ _ h => (g.1.cell (World.block_lt_of_cell? w _ h) (fun f => f)).trans h
/-- nothing that was there has changed; and what is new is not frozen -/
structure Gr (w w' : World) : Prop where
  b : Below w.heap.size w w'
  g : Grown w w'
theorem Gr.refl (w : World) : Gr w w := ⟨Below.refl _ _, Grown.refl _⟩
theorem Gr.alloc {w w' : World} (h : Gr w w') (c : Array Value) (t : TypeId) : Gr w (w'.alloc (.cells c t)) := ⟨h.b.alloc h.b.size _, h.g.alloc c t⟩
theorem Gr.setCell {w w' : World} (h : Gr w w') {a : Addr} (ha : w.heap.size ≤ a.block) (v : Value) : Gr w (w'.setCell a v) := ⟨h.b.setCell ha v, h.g.setCell ha v⟩
theorem Gr.drewN {w w' : World} (h : Gr w w') (n : Nat) : Gr w (w'.drewN n) := ⟨below_drewN h.b n, h.g⟩
theorem Gr.trans {a b c : World} (h : Gr a b) (g : Gr b c) : Gr a c :=
  ⟨h.b.trans (g.b.mono h.b.size), ⟨World.keptBut_trans h.g.1 (World.keptBut_mono (fun _ f => f.elim) g.g.1), fun x => (g.g.2.1 x).trans (h.g.2.1 x), Nat.le_trans h.g.2.2 g.g.2.2⟩⟩
theorem Keep.gr {w w' : World} (g : Gr w w') : Keep w w' := Keep.grown g.g
theorem Keep.trans {a b c : World} (h : Keep a b) (g : Keep b c) : Keep a c := fun x y v e => g x y v (h x y v e)
theorem Tab.keep {w w' : World} (h : Tab w) (k : Keep w w') : Tab w' := ⟨k _ _ _ h.c0, k _ _ _ h.c1, k _ _ _ h.c2, k _ _ _ h.c3⟩

attribute [local go_sem] bits IntKind.bits IntKind.wrap_u64 IntKind.wrap_u32'

theorem len_at1 (w : World) : Calls Tryd.prog 93 #[.int .u64 5629499534213120] w fun e w' => e = .returned (.int .i64 53) ∧ w = w' := by
  go_enter Tryd.func93, Tryd.ntmps93
  go_wp2
  go_ret
  exact ⟨by kernel_rfl, rfl⟩
theorem len_at2 (w : World) : Calls Tryd.prog 93 #[.int .u64 2500000000000000] w fun e w' => e = .returned (.int .i64 52) ∧ w = w' := by
  go_enter Tryd.func93, Tryd.ntmps93
  go_wp2
  go_ret
  exact ⟨by kernel_rfl, rfl⟩
end Go.Proofs.YtoooaipbkkiefaaDoor.Fv
