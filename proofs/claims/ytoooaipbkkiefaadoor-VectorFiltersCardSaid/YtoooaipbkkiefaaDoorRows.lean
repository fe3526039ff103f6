/-
  NARROWER THAN 'FOR EVERY INPUT', by the rows' own cells (each row's printed sentence says how): VectorNormal: laid · VectorMaps: laid · VectorFilters: laid · VectorNames: laid.
  DERIVED. THE GIVEN ROWS OF THIS SEAT. 4 by the template 'for every input the law returns true; each argument reads behind the call as it read before'; 0 by the template 'total and deterministic' (their statements: YtoooaipbkkiefaaDoorTotals.lean).
  GIVEN WITH THE SEED: the statements are not yours to turn. If you find one false, say at which input.
  Laid BY PROGRAM, IN A SANDBOX (cutbox-rows.mjs): the forced cells as the released guide's own fill.sh prints them over the translation 9356550140f48f2b… (all of the seat's roots in one cut). By AI agents, Wed Nov 11 2026. No macro, syntax, notation, axiom, sorry.
-/
import Derived.Test.YtoooaipbkkiefaaDoorChecked
import GoSem.Claim
import GoSem.ClaimJoined
import GoSem.ClaimMapViews
import Derived.JoinedTies
import Derived.KernelRfl
namespace Go.Proofs.YtoooaipbkkiefaaDoor
/- THE CELL 'sum', in the pinned program and in every row, IS THE sha256 OF THE DUMP (.gsa) THAT YtoooaipbkkiefaaDoorProg.lean LOADS. Nothing in Lean hashes anything: it is a label: what it is worth is what the hold of that sum in a sandbox is worth. -/
noncomputable def Tryd.pinned : Pinned := { name := "ytoooaipbkkiefaadoor", sum := "9356550140f48f2b9dd12a70d416c7677e49c78981327617923587e4b4b9a0e0", checked := Tryd.checked }
namespace Rows
def none {H : Type} : Left H := { results := [], args := [] }

/- WHAT THE LISTED PACKAGE-LEVEL VARIABLES READ AS WHEN THE CALL BEGINS. Each datum BY PROGRAM (the guide's laid-datum.mjs) off the statement by which the dump's own 'gosem.cut.vars' lays the variable. In a bare row this is a premise. The card (YtoooaipbkkiefaaDoorCards.lean) ties it to the program's text. -/
def laid_isobar_fval_bits {H : Type} : DataW H := .agg [.lit (.int .u64 9221120237041090561), .lit (.int .u64 9218868437227405314), .lit (.int .u64 9218868437227405312), .lit (.int .u64 9223372036854775808)]
def laid_isobar_vector_names {H : Type} : DataW H := .agg [.lit (.string []), .lit (.string [97, 98, 115]), .lit (.string []), .lit (.string [115, 103, 110]), .lit (.string [99, 108, 97, 109, 112, 95, 109, 105, 110]), .lit (.string [99, 108, 97, 109, 112, 95, 109, 97, 120])]

/-- 'isobarlaw9.VectorNormal': WHATEVER THE INPUT: true; the input reads as it did. -/
def vectorNormalSpec : ChangeSpec := { name := "vectorNormal", fn := fun _ => fun
  | [d] => { results := [.lit (.bool true)], args := [d] }
  | _ => none }
def vectorNormalRow : OpenClaim := { program := "ytoooaipbkkiefaadoor", sum := "9356550140f48f2b9dd12a70d416c7677e49c78981327617923587e4b4b9a0e0", func := "isobar/isobarlaw9.VectorNormal", spec := "vectorNormal", inPlace := ["math.Float64frombits", "math.Float64bits"], unfollowed := true, recurses := true, named := ["isobar/fval.bits", "isobar/vector.names"], apart := false, laid := [("isobar/fval.bits", laid_isobar_fval_bits), ("isobar/vector.names", laid_isobar_vector_names)] }
def VectorNormalSaid : Prop := vectorNormalRow.holds Tryd.pinned (OpenSpec.ofChange vectorNormalSpec)

/-- ITS FALSE NEIGHBOUR: 'it returns false'. Refute it at one input. -/
def vectorNormalWrong : ChangeSpec := { name := "vectorNormal", fn := fun _ => fun
  | [d] => { results := [.lit (.bool false)], args := [d] }
  | _ => none }
def VectorNormalWrongFalsely : Prop := vectorNormalRow.holds Tryd.pinned (OpenSpec.ofChange vectorNormalWrong)

/-- 'isobarlaw9.VectorMaps': WHATEVER THE INPUT: true; the input reads as it did. -/
def vectorMapsSpec : ChangeSpec := { name := "vectorMaps", fn := fun _ => fun
  | [d1, d2, d3, d4, d5, d6, d7, d8] => { results := [.lit (.bool true)], args := [d1, d2, d3, d4, d5, d6, d7, d8] }
  | _ => none }
def vectorMapsRow : OpenClaim := { program := "ytoooaipbkkiefaadoor", sum := "9356550140f48f2b9dd12a70d416c7677e49c78981327617923587e4b4b9a0e0", func := "isobar/isobarlaw9.VectorMaps", spec := "vectorMaps", inPlace := ["math.Float64frombits", "math.Float64bits", "slices.overlaps[isobar/api.Label]"], unfollowed := true, recurses := true, named := ["isobar/fval.bits", "isobar/vector.names"], apart := false, laid := [("isobar/fval.bits", laid_isobar_fval_bits), ("isobar/vector.names", laid_isobar_vector_names)] }
def VectorMapsSaid : Prop := vectorMapsRow.holds Tryd.pinned (OpenSpec.ofChange vectorMapsSpec)

/-- ITS FALSE NEIGHBOUR: 'it returns false'. Refute it at one input. -/
def vectorMapsWrong : ChangeSpec := { name := "vectorMaps", fn := fun _ => fun
  | [d1, d2, d3, d4, d5, d6, d7, d8] => { results := [.lit (.bool false)], args := [d1, d2, d3, d4, d5, d6, d7, d8] }
  | _ => none }
def VectorMapsWrongFalsely : Prop := vectorMapsRow.holds Tryd.pinned (OpenSpec.ofChange vectorMapsWrong)

/-- 'isobarlaw9.VectorFilters': WHATEVER THE INPUT: true; the input reads as it did. -/
def vectorFiltersSpec : ChangeSpec := { name := "vectorFilters", fn := fun _ => fun
  | [d1, d2, d3, d4] => { results := [.lit (.bool true)], args := [d1, d2, d3, d4] }
  | _ => none }
def vectorFiltersRow : OpenClaim := { program := "ytoooaipbkkiefaadoor", sum := "9356550140f48f2b9dd12a70d416c7677e49c78981327617923587e4b4b9a0e0", func := "isobar/isobarlaw9.VectorFilters", spec := "vectorFilters", inPlace := ["math.Float64frombits", "math.Float64bits"], unfollowed := true, recurses := true, named := ["isobar/fval.bits", "isobar/vector.names"], apart := false, laid := [("isobar/fval.bits", laid_isobar_fval_bits), ("isobar/vector.names", laid_isobar_vector_names)] }
def VectorFiltersSaid : Prop := vectorFiltersRow.holds Tryd.pinned (OpenSpec.ofChange vectorFiltersSpec)

/-- ITS FALSE NEIGHBOUR: 'it returns false'. Refute it at one input. -/
def vectorFiltersWrong : ChangeSpec := { name := "vectorFilters", fn := fun _ => fun
  | [d1, d2, d3, d4] => { results := [.lit (.bool false)], args := [d1, d2, d3, d4] }
  | _ => none }
def VectorFiltersWrongFalsely : Prop := vectorFiltersRow.holds Tryd.pinned (OpenSpec.ofChange vectorFiltersWrong)

/-- 'isobarlaw9.VectorNames': WHATEVER THE INPUT: true; the input reads as it did. -/
def vectorNamesSpec : ChangeSpec := { name := "vectorNames", fn := fun _ => fun
  | [d1, d2, d3, d4] => { results := [.lit (.bool true)], args := [d1, d2, d3, d4] }
  | _ => none }
def vectorNamesRow : OpenClaim := { program := "ytoooaipbkkiefaadoor", sum := "9356550140f48f2b9dd12a70d416c7677e49c78981327617923587e4b4b9a0e0", func := "isobar/isobarlaw9.VectorNames", spec := "vectorNames", inPlace := ["math.Float64frombits", "math.Float64bits"], unfollowed := true, recurses := true, named := ["isobar/fval.bits", "isobar/vector.names"], apart := false, laid := [("isobar/fval.bits", laid_isobar_fval_bits), ("isobar/vector.names", laid_isobar_vector_names)] }
def VectorNamesSaid : Prop := vectorNamesRow.holds Tryd.pinned (OpenSpec.ofChange vectorNamesSpec)

/-- ITS FALSE NEIGHBOUR: 'it returns false'. Refute it at one input. -/
def vectorNamesWrong : ChangeSpec := { name := "vectorNames", fn := fun _ => fun
  | [d1, d2, d3, d4] => { results := [.lit (.bool false)], args := [d1, d2, d3, d4] }
  | _ => none }
def VectorNamesWrongFalsely : Prop := vectorNamesRow.holds Tryd.pinned (OpenSpec.ofChange vectorNamesWrong)

/- THE SECOND FORM. 'bulk': how many values and letters a reading holds, each counted each time it is reached (what is shared counts as often as it is met; a slice's spare places count too). A statement '..UptoSaid' is the law's where the arguments, and the package variables that the reading takes, are together of bulk at most 1048576: NARROWER than '..Said'. Prove '..Said' where nothing that the law and all that it calls make is longer than what came in: it says more and counts as full. Else prove '..UptoSaid'. A law counts once. -/
mutual
def uptoBulk {H : Type} : DataW H → Nat
  | .lit (.string bytes) => bytes.length + 1
  | .lit _ => 1
  | .nil => 1
  | .ptr d => uptoBulk d + 1
  | .slice elems spare => uptoBulkAll elems + uptoBulkAll spare + 1
  | .agg parts => uptoBulkAll parts + 1
  | .iface _ d => uptoBulk d + 1
  | .map entries => uptoBulkEntries entries + 1
  | .held _ => 1
def uptoBulkAll {H : Type} : List (DataW H) → Nat
  | [] => 0
  | d :: r => uptoBulk d + uptoBulkAll r
def uptoBulkEntries {H : Type} : List (Lit × DataW H) → Nat
  | [] => 0
  | x :: r => uptoBulkEntry x + uptoBulkEntries r
def uptoBulkEntry {H : Type} : Lit × DataW H → Nat
  | (.string bytes, d) => bytes.length + uptoBulk d + 1
  | (_, d) => uptoBulk d + 1
 end
def uptoSmall : (H : Type) → List (DataW H) → Bool := fun _ ds => decide (uptoBulkAll ds ≤ 1048576)
def OpenSpec.upto (s : _root_.Go.ChangeSpec) : _root_.Go.OpenSpec := { _root_.Go.OpenSpec.ofChange s with cond := some uptoSmall }

/-- 'isobarlaw9.VectorNormal', WHERE WHAT IT READS IS OF BULK AT MOST 1048576: true; the input reads as it did. -/
def vectorNormalUptoRow : OpenClaim := { program := "ytoooaipbkkiefaadoor", sum := "9356550140f48f2b9dd12a70d416c7677e49c78981327617923587e4b4b9a0e0", func := "isobar/isobarlaw9.VectorNormal", spec := "vectorNormal", inPlace := ["math.Float64frombits", "math.Float64bits"], unfollowed := true, recurses := true, named := ["isobar/fval.bits", "isobar/vector.names"], apart := false, laid := [("isobar/fval.bits", laid_isobar_fval_bits), ("isobar/vector.names", laid_isobar_vector_names)], narrowed := true }
def VectorNormalUptoSaid : Prop := vectorNormalUptoRow.holds Tryd.pinned (OpenSpec.upto vectorNormalSpec)

/-- 'isobarlaw9.VectorMaps', WHERE WHAT IT READS IS OF BULK AT MOST 1048576: true; the input reads as it did. -/
def vectorMapsUptoRow : OpenClaim := { program := "ytoooaipbkkiefaadoor", sum := "9356550140f48f2b9dd12a70d416c7677e49c78981327617923587e4b4b9a0e0", func := "isobar/isobarlaw9.VectorMaps", spec := "vectorMaps", inPlace := ["math.Float64frombits", "math.Float64bits", "slices.overlaps[isobar/api.Label]"], unfollowed := true, recurses := true, named := ["isobar/fval.bits", "isobar/vector.names"], apart := false, laid := [("isobar/fval.bits", laid_isobar_fval_bits), ("isobar/vector.names", laid_isobar_vector_names)], narrowed := true }
def VectorMapsUptoSaid : Prop := vectorMapsUptoRow.holds Tryd.pinned (OpenSpec.upto vectorMapsSpec)

/-- 'isobarlaw9.VectorFilters', WHERE WHAT IT READS IS OF BULK AT MOST 1048576: true; the input reads as it did. -/
def vectorFiltersUptoRow : OpenClaim := { program := "ytoooaipbkkiefaadoor", sum := "9356550140f48f2b9dd12a70d416c7677e49c78981327617923587e4b4b9a0e0", func := "isobar/isobarlaw9.VectorFilters", spec := "vectorFilters", inPlace := ["math.Float64frombits", "math.Float64bits"], unfollowed := true, recurses := true, named := ["isobar/fval.bits", "isobar/vector.names"], apart := false, laid := [("isobar/fval.bits", laid_isobar_fval_bits), ("isobar/vector.names", laid_isobar_vector_names)], narrowed := true }
def VectorFiltersUptoSaid : Prop := vectorFiltersUptoRow.holds Tryd.pinned (OpenSpec.upto vectorFiltersSpec)

/-- 'isobarlaw9.VectorNames', WHERE WHAT IT READS IS OF BULK AT MOST 1048576: true; the input reads as it did. -/
def vectorNamesUptoRow : OpenClaim := { program := "ytoooaipbkkiefaadoor", sum := "9356550140f48f2b9dd12a70d416c7677e49c78981327617923587e4b4b9a0e0", func := "isobar/isobarlaw9.VectorNames", spec := "vectorNames", inPlace := ["math.Float64frombits", "math.Float64bits"], unfollowed := true, recurses := true, named := ["isobar/fval.bits", "isobar/vector.names"], apart := false, laid := [("isobar/fval.bits", laid_isobar_fval_bits), ("isobar/vector.names", laid_isobar_vector_names)], narrowed := true }
def VectorNamesUptoSaid : Prop := vectorNamesUptoRow.holds Tryd.pinned (OpenSpec.upto vectorNamesSpec)

end Rows
end Go.Proofs.YtoooaipbkkiefaaDoor
