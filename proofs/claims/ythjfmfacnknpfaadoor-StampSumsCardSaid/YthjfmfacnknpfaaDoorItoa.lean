/- Itoa of a number not below 0; what is known of the listed variables, and that it stays. -/
import Derived.Test.YthjfmfacnknpfaaDoorText
import Derived.Test.YthjfmfacnknpfaaDoorDurOne
import Derived.Test.YthjfmfacnknpfaaDoorShelf
import Derived.Lib.AppendIntMem
namespace Go.Proofs.YthjfmfacnknpfaaDoor
open Go.RowKit
set_option maxRecDepth 100000

structure KnU (w : World) : Prop where
  u : TabU w
  p : Lib.TabIs Tryd.prog w "internal/strconv.uint64pow10" .u64 Lib.pow10Tab
theorem Gr.cell {w w' : World} (g : Gr w w') {b o : Nat} {v : Value} (h : w.cell? ⟨b, o, none⟩ = some v) : w'.cell? ⟨b, o, none⟩ = some v :=
  (g.b.cell (p := ⟨b, o, none⟩) (World.block_lt_of_cell? w _ h)).trans h
theorem KnU.gr {w w' : World} (h : KnU w) (g : Gr w w') : KnU w' :=
  ⟨fun j hj => ⟨g.cell (h.u j hj).1, g.cell (h.u j hj).2⟩, Lib.tabBelow_of_tabIs h.p w' g.b⟩
theorem TabU.gr {w w' : World} (h : TabU w) (g : Gr w w') : TabU w' := fun j hj => ⟨g.cell (h j hj).1, g.cell (h j hj).2⟩

theorem itoa_any (n : Nat) (hn : n ≤ 1125899906842624) (w : World) (hk : KnU w) :
    Calls Tryd.prog 38 #[.int .i64 n] w fun e w' => e = .returned (.string ⟨(Lib.decDigits n).toArray⟩) ∧ Gr w w' := by
  refine (Tryd.strconv_Itoa (n : Int) (by omega) (by omega) w hk.p).mono ?_
  rintro e w' ⟨rfl, k, os, rfl⟩
  refine ⟨by rw [Lib.itoa_nonneg], ⟨Lib.below_grow _ w (Nat.le_refl _) k os⟩⟩
end Go.Proofs.YthjfmfacnknpfaaDoor
