/-
  NARROWER THAN 'FOR EVERY INPUT', by the rows' own cells (each row's printed sentence says how): WindowFns: laid · WindowNames: laid · WindowSlides: laid · WindowParts: laid · WindowShifts: laid · WindowSmall: laid.
  DERIVED. THE GIVEN ROWS OF THIS SEAT. 6 by the template 'for every input the law returns true; each argument reads behind the call as it read before'; 0 by the template 'total and deterministic' (their statements: YtjjfkjpkbpefpaaDoorTotals.lean).
  GIVEN WITH THE SEED: the statements are not yours to turn. If you find one false, say at which input.
  Laid BY PROGRAM, IN A SANDBOX (cutbox-rows.mjs): the forced cells as the released guide's own fill.sh prints them over the translation ff95a36f26af774d… (all of the seat's roots in one cut). By AI agents, Wed Nov 11 2026. No macro, syntax, notation, axiom, sorry.
-/
import Derived.Test.YtjjfkjpkbpefpaaDoorChecked
import GoSem.Claim
import GoSem.ClaimJoined
import GoSem.ClaimMapViews
import Derived.JoinedTies
import Derived.KernelRfl
namespace Go.Proofs.YtjjfkjpkbpefpaaDoor
/- THE CELL 'sum', in the pinned program and in every row, IS THE sha256 OF THE DUMP (.gsa) THAT YtjjfkjpkbpefpaaDoorProg.lean LOADS. Nothing in Lean hashes anything: it is a label: what it is worth is what the hold of that sum in a sandbox is worth. -/
noncomputable def Tryd.pinned : Pinned := { name := "ytjjfkjpkbpefpaadoor", sum := "ff95a36f26af774d42c856dcad60a7166e63a920f32843f7e85b7d5ff76e1eeb", checked := Tryd.checked }
namespace Rows
def none {H : Type} : Left H := { results := [], args := [] }

/- WHAT THE LISTED PACKAGE-LEVEL VARIABLES READ AS WHEN THE CALL BEGINS. Each datum BY PROGRAM (the guide's laid-datum.mjs) off the statement by which the dump's own 'gosem.cut.vars' lays the variable. In a bare row this is a premise. The card (YtjjfkjpkbpefpaaDoorCards.lean) ties it to the program's text. -/
def laid_isobar_fval_bits {H : Type} : DataW H := .agg [.lit (.int .u64 9221120237041090561), .lit (.int .u64 9218868437227405314), .lit (.int .u64 9218868437227405312), .lit (.int .u64 9223372036854775808)]
def laid_isobar_window_functions {H : Type} : DataW H := .agg [.agg [.lit (.string []), .lit (.int .i64 0)], .agg [.lit (.string [99, 111, 117, 110, 116, 95, 111, 118, 101, 114, 95, 116, 105, 109, 101]), .lit (.int .i64 1)], .agg [.lit (.string [115, 117, 109, 95, 111, 118, 101, 114, 95, 116, 105, 109, 101]), .lit (.int .i64 1)], .agg [.lit (.string [97, 118, 103, 95, 111, 118, 101, 114, 95, 116, 105, 109, 101]), .lit (.int .i64 1)], .agg [.lit (.string [109, 105, 110, 95, 111, 118, 101, 114, 95, 116, 105, 109, 101]), .lit (.int .i64 1)], .agg [.lit (.string [109, 97, 120, 95, 111, 118, 101, 114, 95, 116, 105, 109, 101]), .lit (.int .i64 1)], .agg [.lit (.string [108, 97, 115, 116, 95, 111, 118, 101, 114, 95, 116, 105, 109, 101]), .lit (.int .i64 1)], .agg [.lit (.string [102, 105, 114, 115, 116, 95, 111, 118, 101, 114, 95, 116, 105, 109, 101]), .lit (.int .i64 1)], .agg [.lit (.string [105, 110, 99, 114, 101, 97, 115, 101]), .lit (.int .i64 2)], .agg [.lit (.string [114, 97, 116, 101]), .lit (.int .i64 2)], .agg [.lit (.string [100, 101, 108, 116, 97]), .lit (.int .i64 2)], .agg [.lit (.string [99, 104, 97, 110, 103, 101, 115]), .lit (.int .i64 1)], .agg [.lit (.string [114, 101, 115, 101, 116, 115]), .lit (.int .i64 1)], .agg [.lit (.string [119, 97, 118, 101, 95, 109, 97, 103]), .lit (.int .i64 1)], .agg [.lit (.string [119, 97, 118, 101, 95, 116, 117, 114, 110]), .lit (.int .i64 1)]]

/-- 'isobarlaw8.WindowFns': WHATEVER THE INPUT: true; the input reads as it did. -/
def windowFnsSpec : ChangeSpec := { name := "windowFns", fn := fun _ => fun
  | [d1, d2, d3, d4] => { results := [.lit (.bool true)], args := [d1, d2, d3, d4] }
  | _ => none }
def windowFnsRow : OpenClaim := { program := "ytjjfkjpkbpefpaadoor", sum := "ff95a36f26af774d42c856dcad60a7166e63a920f32843f7e85b7d5ff76e1eeb", func := "isobar/isobarlaw8.WindowFns", spec := "windowFns", inPlace := ["math.Float64frombits", "math.Float64bits"], unfollowed := true, recurses := true, named := ["isobar/window.functions", "isobar/fval.bits"], apart := false, laid := [("isobar/fval.bits", laid_isobar_fval_bits), ("isobar/window.functions", laid_isobar_window_functions)] }
def WindowFnsSaid : Prop := windowFnsRow.holds Tryd.pinned (OpenSpec.ofChange windowFnsSpec)

/-- ITS FALSE NEIGHBOUR: 'it returns false'. Refute it at one input. -/
def windowFnsWrong : ChangeSpec := { name := "windowFns", fn := fun _ => fun
  | [d1, d2, d3, d4] => { results := [.lit (.bool false)], args := [d1, d2, d3, d4] }
  | _ => none }
def WindowFnsWrongFalsely : Prop := windowFnsRow.holds Tryd.pinned (OpenSpec.ofChange windowFnsWrong)

/-- 'isobarlaw8.WindowNames': WHATEVER THE INPUT: true; the input reads as it did. -/
def windowNamesSpec : ChangeSpec := { name := "windowNames", fn := fun _ => fun
  | [d1, d2] => { results := [.lit (.bool true)], args := [d1, d2] }
  | _ => none }
def windowNamesRow : OpenClaim := { program := "ytjjfkjpkbpefpaadoor", sum := "ff95a36f26af774d42c856dcad60a7166e63a920f32843f7e85b7d5ff76e1eeb", func := "isobar/isobarlaw8.WindowNames", spec := "windowNames", inPlace := ["math.Float64frombits", "math.Float64bits"], unfollowed := true, recurses := true, named := ["isobar/window.functions", "isobar/fval.bits"], apart := false, laid := [("isobar/fval.bits", laid_isobar_fval_bits), ("isobar/window.functions", laid_isobar_window_functions)] }
def WindowNamesSaid : Prop := windowNamesRow.holds Tryd.pinned (OpenSpec.ofChange windowNamesSpec)

/-- ITS FALSE NEIGHBOUR: 'it returns false'. Refute it at one input. -/
def windowNamesWrong : ChangeSpec := { name := "windowNames", fn := fun _ => fun
  | [d1, d2] => { results := [.lit (.bool false)], args := [d1, d2] }
  | _ => none }
def WindowNamesWrongFalsely : Prop := windowNamesRow.holds Tryd.pinned (OpenSpec.ofChange windowNamesWrong)

/-- 'isobarlaw8.WindowSlides': WHATEVER THE INPUT: true; the input reads as it did. -/
def windowSlidesSpec : ChangeSpec := { name := "windowSlides", fn := fun _ => fun
  | [d1, d2, d3, d4, d5] => { results := [.lit (.bool true)], args := [d1, d2, d3, d4, d5] }
  | _ => none }
def windowSlidesRow : OpenClaim := { program := "ytjjfkjpkbpefpaadoor", sum := "ff95a36f26af774d42c856dcad60a7166e63a920f32843f7e85b7d5ff76e1eeb", func := "isobar/isobarlaw8.WindowSlides", spec := "windowSlides", inPlace := ["math.Float64frombits", "math.Float64bits"], unfollowed := true, recurses := true, named := ["isobar/window.functions", "isobar/fval.bits"], apart := false, laid := [("isobar/fval.bits", laid_isobar_fval_bits), ("isobar/window.functions", laid_isobar_window_functions)] }
def WindowSlidesSaid : Prop := windowSlidesRow.holds Tryd.pinned (OpenSpec.ofChange windowSlidesSpec)

/-- ITS FALSE NEIGHBOUR: 'it returns false'. Refute it at one input. -/
def windowSlidesWrong : ChangeSpec := { name := "windowSlides", fn := fun _ => fun
  | [d1, d2, d3, d4, d5] => { results := [.lit (.bool false)], args := [d1, d2, d3, d4, d5] }
  | _ => none }
def WindowSlidesWrongFalsely : Prop := windowSlidesRow.holds Tryd.pinned (OpenSpec.ofChange windowSlidesWrong)

/-- 'isobarlaw8.WindowParts': WHATEVER THE INPUT: true; the input reads as it did. -/
def windowPartsSpec : ChangeSpec := { name := "windowParts", fn := fun _ => fun
  | [d1, d2, d3] => { results := [.lit (.bool true)], args := [d1, d2, d3] }
  | _ => none }
def windowPartsRow : OpenClaim := { program := "ytjjfkjpkbpefpaadoor", sum := "ff95a36f26af774d42c856dcad60a7166e63a920f32843f7e85b7d5ff76e1eeb", func := "isobar/isobarlaw8.WindowParts", spec := "windowParts", inPlace := ["math.Float64frombits", "math.Float64bits"], unfollowed := true, recurses := true, named := ["isobar/window.functions", "isobar/fval.bits"], apart := false, laid := [("isobar/fval.bits", laid_isobar_fval_bits), ("isobar/window.functions", laid_isobar_window_functions)] }
def WindowPartsSaid : Prop := windowPartsRow.holds Tryd.pinned (OpenSpec.ofChange windowPartsSpec)

/-- ITS FALSE NEIGHBOUR: 'it returns false'. Refute it at one input. -/
def windowPartsWrong : ChangeSpec := { name := "windowParts", fn := fun _ => fun
  | [d1, d2, d3] => { results := [.lit (.bool false)], args := [d1, d2, d3] }
  | _ => none }
def WindowPartsWrongFalsely : Prop := windowPartsRow.holds Tryd.pinned (OpenSpec.ofChange windowPartsWrong)

/-- 'isobarlaw8.WindowShifts': WHATEVER THE INPUT: true; the input reads as it did. -/
def windowShiftsSpec : ChangeSpec := { name := "windowShifts", fn := fun _ => fun
  | [d1, d2, d3, d4, d5] => { results := [.lit (.bool true)], args := [d1, d2, d3, d4, d5] }
  | _ => none }
def windowShiftsRow : OpenClaim := { program := "ytjjfkjpkbpefpaadoor", sum := "ff95a36f26af774d42c856dcad60a7166e63a920f32843f7e85b7d5ff76e1eeb", func := "isobar/isobarlaw8.WindowShifts", spec := "windowShifts", inPlace := ["math.Float64frombits", "math.Float64bits"], unfollowed := true, recurses := true, named := ["isobar/window.functions", "isobar/fval.bits"], apart := false, laid := [("isobar/fval.bits", laid_isobar_fval_bits), ("isobar/window.functions", laid_isobar_window_functions)] }
def WindowShiftsSaid : Prop := windowShiftsRow.holds Tryd.pinned (OpenSpec.ofChange windowShiftsSpec)

/-- ITS FALSE NEIGHBOUR: 'it returns false'. Refute it at one input. -/
def windowShiftsWrong : ChangeSpec := { name := "windowShifts", fn := fun _ => fun
  | [d1, d2, d3, d4, d5] => { results := [.lit (.bool false)], args := [d1, d2, d3, d4, d5] }
  | _ => none }
def WindowShiftsWrongFalsely : Prop := windowShiftsRow.holds Tryd.pinned (OpenSpec.ofChange windowShiftsWrong)

/-- 'isobarlaw8.WindowSmall': WHATEVER THE INPUT: true; the input reads as it did. -/
def windowSmallSpec : ChangeSpec := { name := "windowSmall", fn := fun _ => fun
  | [d1, d2, d3] => { results := [.lit (.bool true)], args := [d1, d2, d3] }
  | _ => none }
def windowSmallRow : OpenClaim := { program := "ytjjfkjpkbpefpaadoor", sum := "ff95a36f26af774d42c856dcad60a7166e63a920f32843f7e85b7d5ff76e1eeb", func := "isobar/isobarlaw8.WindowSmall", spec := "windowSmall", inPlace := ["math.Float64frombits", "math.Float64bits"], unfollowed := true, recurses := true, named := ["isobar/window.functions", "isobar/fval.bits"], apart := false, laid := [("isobar/fval.bits", laid_isobar_fval_bits), ("isobar/window.functions", laid_isobar_window_functions)] }
def WindowSmallSaid : Prop := windowSmallRow.holds Tryd.pinned (OpenSpec.ofChange windowSmallSpec)

/-- ITS FALSE NEIGHBOUR: 'it returns false'. Refute it at one input. -/
def windowSmallWrong : ChangeSpec := { name := "windowSmall", fn := fun _ => fun
  | [d1, d2, d3] => { results := [.lit (.bool false)], args := [d1, d2, d3] }
  | _ => none }
def WindowSmallWrongFalsely : Prop := windowSmallRow.holds Tryd.pinned (OpenSpec.ofChange windowSmallWrong)

/- THE SECOND FORM. 'bulk': how many values and letters a reading holds, each counted each time it is reached (what is shared counts as often as it is met; a slice's spare places count too). A statement '..UptoSaid' is the law's where the arguments, and the package variables that the reading takes, are together of bulk at most 1048576: NARROWER than '..Said'. Prove '..Said' where nothing that the law and all that it calls make is longer than what came in: it says more and counts as full. Else prove '..UptoSaid'. A law counts once. -/
mutual
def uptoBulk {H : Type} : DataW H → Nat
  | .lit (.string bytes) => bytes.length + 1
  | .lit _ => 1
  | .nil => 1
  | .ptr d => uptoBulk d + 1
  | .slice elems spare => uptoBulkAll elems + uptoBulkAll spare + 1
  | .agg parts => uptoBulkAll parts + 1
  | .iface _ d => uptoBulk d + 1
  | .map entries => uptoBulkEntries entries + 1
  | .held _ => 1
def uptoBulkAll {H : Type} : List (DataW H) → Nat
  | [] => 0
  | d :: r => uptoBulk d + uptoBulkAll r
def uptoBulkEntries {H : Type} : List (Lit × DataW H) → Nat
  | [] => 0
  | x :: r => uptoBulkEntry x + uptoBulkEntries r
def uptoBulkEntry {H : Type} : Lit × DataW H → Nat
  | (.string bytes, d) => bytes.length + uptoBulk d + 1
  | (_, d) => uptoBulk d + 1
 end
def uptoSmall : (H : Type) → List (DataW H) → Bool := fun _ ds => decide (uptoBulkAll ds ≤ 1048576)
def OpenSpec.upto (s : _root_.Go.ChangeSpec) : _root_.Go.OpenSpec := { _root_.Go.OpenSpec.ofChange s with cond := some uptoSmall }

/-- 'isobarlaw8.WindowFns', WHERE WHAT IT READS IS OF BULK AT MOST 1048576: true; the input reads as it did. -/
def windowFnsUptoRow : OpenClaim := { program := "ytjjfkjpkbpefpaadoor", sum := "ff95a36f26af774d42c856dcad60a7166e63a920f32843f7e85b7d5ff76e1eeb", func := "isobar/isobarlaw8.WindowFns", spec := "windowFns", inPlace := ["math.Float64frombits", "math.Float64bits"], unfollowed := true, recurses := true, named := ["isobar/window.functions", "isobar/fval.bits"], apart := false, laid := [("isobar/fval.bits", laid_isobar_fval_bits), ("isobar/window.functions", laid_isobar_window_functions)], narrowed := true }
def WindowFnsUptoSaid : Prop := windowFnsUptoRow.holds Tryd.pinned (OpenSpec.upto windowFnsSpec)

/-- 'isobarlaw8.WindowNames', WHERE WHAT IT READS IS OF BULK AT MOST 1048576: true; the input reads as it did. -/
def windowNamesUptoRow : OpenClaim := { program := "ytjjfkjpkbpefpaadoor", sum := "ff95a36f26af774d42c856dcad60a7166e63a920f32843f7e85b7d5ff76e1eeb", func := "isobar/isobarlaw8.WindowNames", spec := "windowNames", inPlace := ["math.Float64frombits", "math.Float64bits"], unfollowed := true, recurses := true, named := ["isobar/window.functions", "isobar/fval.bits"], apart := false, laid := [("isobar/fval.bits", laid_isobar_fval_bits), ("isobar/window.functions", laid_isobar_window_functions)], narrowed := true }
def WindowNamesUptoSaid : Prop := windowNamesUptoRow.holds Tryd.pinned (OpenSpec.upto windowNamesSpec)

/-- 'isobarlaw8.WindowSlides', WHERE WHAT IT READS IS OF BULK AT MOST 1048576: true; the input reads as it did. -/
def windowSlidesUptoRow : OpenClaim := { program := "ytjjfkjpkbpefpaadoor", sum := "ff95a36f26af774d42c856dcad60a7166e63a920f32843f7e85b7d5ff76e1eeb", func := "isobar/isobarlaw8.WindowSlides", spec := "windowSlides", inPlace := ["math.Float64frombits", "math.Float64bits"], unfollowed := true, recurses := true, named := ["isobar/window.functions", "isobar/fval.bits"], apart := false, laid := [("isobar/fval.bits", laid_isobar_fval_bits), ("isobar/window.functions", laid_isobar_window_functions)], narrowed := true }
def WindowSlidesUptoSaid : Prop := windowSlidesUptoRow.holds Tryd.pinned (OpenSpec.upto windowSlidesSpec)

/-- 'isobarlaw8.WindowParts', WHERE WHAT IT READS IS OF BULK AT MOST 1048576: true; the input reads as it did. -/
def windowPartsUptoRow : OpenClaim := { program := "ytjjfkjpkbpefpaadoor", sum := "ff95a36f26af774d42c856dcad60a7166e63a920f32843f7e85b7d5ff76e1eeb", func := "isobar/isobarlaw8.WindowParts", spec := "windowParts", inPlace := ["math.Float64frombits", "math.Float64bits"], unfollowed := true, recurses := true, named := ["isobar/window.functions", "isobar/fval.bits"], apart := false, laid := [("isobar/fval.bits", laid_isobar_fval_bits), ("isobar/window.functions", laid_isobar_window_functions)], narrowed := true }
def WindowPartsUptoSaid : Prop := windowPartsUptoRow.holds Tryd.pinned (OpenSpec.upto windowPartsSpec)

/-- 'isobarlaw8.WindowShifts', WHERE WHAT IT READS IS OF BULK AT MOST 1048576: true; the input reads as it did. -/
def windowShiftsUptoRow : OpenClaim := { program := "ytjjfkjpkbpefpaadoor", sum := "ff95a36f26af774d42c856dcad60a7166e63a920f32843f7e85b7d5ff76e1eeb", func := "isobar/isobarlaw8.WindowShifts", spec := "windowShifts", inPlace := ["math.Float64frombits", "math.Float64bits"], unfollowed := true, recurses := true, named := ["isobar/window.functions", "isobar/fval.bits"], apart := false, laid := [("isobar/fval.bits", laid_isobar_fval_bits), ("isobar/window.functions", laid_isobar_window_functions)], narrowed := true }
def WindowShiftsUptoSaid : Prop := windowShiftsUptoRow.holds Tryd.pinned (OpenSpec.upto windowShiftsSpec)

/-- 'isobarlaw8.WindowSmall', WHERE WHAT IT READS IS OF BULK AT MOST 1048576: true; the input reads as it did. -/
def windowSmallUptoRow : OpenClaim := { program := "ytjjfkjpkbpefpaadoor", sum := "ff95a36f26af774d42c856dcad60a7166e63a920f32843f7e85b7d5ff76e1eeb", func := "isobar/isobarlaw8.WindowSmall", spec := "windowSmall", inPlace := ["math.Float64frombits", "math.Float64bits"], unfollowed := true, recurses := true, named := ["isobar/window.functions", "isobar/fval.bits"], apart := false, laid := [("isobar/fval.bits", laid_isobar_fval_bits), ("isobar/window.functions", laid_isobar_window_functions)], narrowed := true }
def WindowSmallUptoSaid : Prop := windowSmallUptoRow.holds Tryd.pinned (OpenSpec.upto windowSmallSpec)

end Rows
end Go.Proofs.YtjjfkjpkbpefpaaDoor
