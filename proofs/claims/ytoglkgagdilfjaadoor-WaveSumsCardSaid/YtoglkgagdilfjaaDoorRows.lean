/-
  NARROWER THAN 'FOR EVERY INPUT', by the rows' own cells (each row's printed sentence says how): WavePairs: laid · WaveSums: laid · WaveTurns: laid · WaveWhole: laid.
  DERIVED. THE GIVEN ROWS OF THIS SEAT. 4 by the template 'for every input the law returns true; each argument reads behind the call as it read before'; 0 by the template 'total and deterministic' (their statements: YtoglkgagdilfjaaDoorTotals.lean).
  GIVEN WITH THE SEED: the statements are not yours to turn. If you find one false, say at which input.
  Laid BY PROGRAM, IN A SANDBOX (cutbox-rows.mjs): the forced cells as the released guide's own fill.sh prints them over the translation 4b8486599f5e5168… (all of the seat's roots in one cut). By AI agents, Wed Nov 11 2026. No macro, syntax, notation, axiom, sorry.
-/
import Derived.Test.YtoglkgagdilfjaaDoorChecked
import GoSem.Claim
import GoSem.ClaimJoined
import GoSem.ClaimMapViews
import Derived.JoinedTies
import Derived.KernelRfl
namespace Go.Proofs.YtoglkgagdilfjaaDoor
/- THE CELL 'sum', in the pinned program and in every row, IS THE sha256 OF THE DUMP (.gsa) THAT YtoglkgagdilfjaaDoorProg.lean LOADS. Nothing in Lean hashes anything: it is a label: what it is worth is what the hold of that sum in a sandbox is worth. -/
noncomputable def Tryd.pinned : Pinned := { name := "ytoglkgagdilfjaadoor", sum := "4b8486599f5e51680ffcb64764c17941447fd5932ee0ef738990c985f1bbce7e", checked := Tryd.checked }
namespace Rows
def none {H : Type} : Left H := { results := [], args := [] }

/- WHAT THE LISTED PACKAGE-LEVEL VARIABLES READ AS WHEN THE CALL BEGINS. Each datum BY PROGRAM (the guide's laid-datum.mjs) off the statement by which the dump's own 'gosem.cut.vars' lays the variable. In a bare row this is a premise. The card (YtoglkgagdilfjaaDoorCards.lean) ties it to the program's text. -/
def laid_isobar_fval_bits {H : Type} : DataW H := .agg [.lit (.int .u64 9221120237041090561), .lit (.int .u64 9218868437227405314), .lit (.int .u64 9218868437227405312), .lit (.int .u64 9223372036854775808)]

/-- 'isobarlaw7.WavePairs': WHATEVER THE INPUT: true; the input reads as it did. -/
def wavePairsSpec : ChangeSpec := { name := "wavePairs", fn := fun _ => fun
  | [d1, d2, d3, d4, d5] => { results := [.lit (.bool true)], args := [d1, d2, d3, d4, d5] }
  | _ => none }
def wavePairsRow : OpenClaim := { program := "ytoglkgagdilfjaadoor", sum := "4b8486599f5e51680ffcb64764c17941447fd5932ee0ef738990c985f1bbce7e", func := "isobar/isobarlaw7.WavePairs", spec := "wavePairs", inPlace := ["math.Float64frombits", "math.Float64bits"], named := ["isobar/fval.bits"], apart := false, laid := [("isobar/fval.bits", laid_isobar_fval_bits)] }
def WavePairsSaid : Prop := wavePairsRow.holds Tryd.pinned (OpenSpec.ofChange wavePairsSpec)

/-- ITS FALSE NEIGHBOUR: 'it returns false'. Refute it at one input. -/
def wavePairsWrong : ChangeSpec := { name := "wavePairs", fn := fun _ => fun
  | [d1, d2, d3, d4, d5] => { results := [.lit (.bool false)], args := [d1, d2, d3, d4, d5] }
  | _ => none }
def WavePairsWrongFalsely : Prop := wavePairsRow.holds Tryd.pinned (OpenSpec.ofChange wavePairsWrong)

/-- 'isobarlaw7.WaveSums': WHATEVER THE INPUT: true; the input reads as it did. -/
def waveSumsSpec : ChangeSpec := { name := "waveSums", fn := fun _ => fun
  | [d] => { results := [.lit (.bool true)], args := [d] }
  | _ => none }
def waveSumsRow : OpenClaim := { program := "ytoglkgagdilfjaadoor", sum := "4b8486599f5e51680ffcb64764c17941447fd5932ee0ef738990c985f1bbce7e", func := "isobar/isobarlaw7.WaveSums", spec := "waveSums", inPlace := ["math.Float64frombits", "math.Float64bits"], named := ["isobar/fval.bits"], apart := false, laid := [("isobar/fval.bits", laid_isobar_fval_bits)] }
def WaveSumsSaid : Prop := waveSumsRow.holds Tryd.pinned (OpenSpec.ofChange waveSumsSpec)

/-- ITS FALSE NEIGHBOUR: 'it returns false'. Refute it at one input. -/
def waveSumsWrong : ChangeSpec := { name := "waveSums", fn := fun _ => fun
  | [d] => { results := [.lit (.bool false)], args := [d] }
  | _ => none }
def WaveSumsWrongFalsely : Prop := waveSumsRow.holds Tryd.pinned (OpenSpec.ofChange waveSumsWrong)

/-- 'isobarlaw7.WaveTurns': WHATEVER THE INPUT: true; the input reads as it did. -/
def waveTurnsSpec : ChangeSpec := { name := "waveTurns", fn := fun _ => fun
  | [d1, d2, d3, d4] => { results := [.lit (.bool true)], args := [d1, d2, d3, d4] }
  | _ => none }
def waveTurnsRow : OpenClaim := { program := "ytoglkgagdilfjaadoor", sum := "4b8486599f5e51680ffcb64764c17941447fd5932ee0ef738990c985f1bbce7e", func := "isobar/isobarlaw7.WaveTurns", spec := "waveTurns", inPlace := ["math.Float64frombits", "math.Float64bits"], named := ["isobar/fval.bits"], apart := false, laid := [("isobar/fval.bits", laid_isobar_fval_bits)] }
def WaveTurnsSaid : Prop := waveTurnsRow.holds Tryd.pinned (OpenSpec.ofChange waveTurnsSpec)

/-- ITS FALSE NEIGHBOUR: 'it returns false'. Refute it at one input. -/
def waveTurnsWrong : ChangeSpec := { name := "waveTurns", fn := fun _ => fun
  | [d1, d2, d3, d4] => { results := [.lit (.bool false)], args := [d1, d2, d3, d4] }
  | _ => none }
def WaveTurnsWrongFalsely : Prop := waveTurnsRow.holds Tryd.pinned (OpenSpec.ofChange waveTurnsWrong)

/-- 'isobarlaw7.WaveWhole': WHATEVER THE INPUT: true; the input reads as it did. -/
def waveWholeSpec : ChangeSpec := { name := "waveWhole", fn := fun _ => fun
  | [d1, d2, d3] => { results := [.lit (.bool true)], args := [d1, d2, d3] }
  | _ => none }
def waveWholeRow : OpenClaim := { program := "ytoglkgagdilfjaadoor", sum := "4b8486599f5e51680ffcb64764c17941447fd5932ee0ef738990c985f1bbce7e", func := "isobar/isobarlaw7.WaveWhole", spec := "waveWhole", inPlace := ["math.Float64frombits", "math.Float64bits"], named := ["isobar/fval.bits"], apart := false, laid := [("isobar/fval.bits", laid_isobar_fval_bits)] }
def WaveWholeSaid : Prop := waveWholeRow.holds Tryd.pinned (OpenSpec.ofChange waveWholeSpec)

/-- ITS FALSE NEIGHBOUR: 'it returns false'. Refute it at one input. -/
def waveWholeWrong : ChangeSpec := { name := "waveWhole", fn := fun _ => fun
  | [d1, d2, d3] => { results := [.lit (.bool false)], args := [d1, d2, d3] }
  | _ => none }
def WaveWholeWrongFalsely : Prop := waveWholeRow.holds Tryd.pinned (OpenSpec.ofChange waveWholeWrong)

/- THE SECOND FORM. 'bulk': how many values and letters a reading holds, each counted each time it is reached (what is shared counts as often as it is met; a slice's spare places count too). A statement '..UptoSaid' is the law's where the arguments, and the package variables that the reading takes, are together of bulk at most 1048576: NARROWER than '..Said'. Prove '..Said' where nothing that the law and all that it calls make is longer than what came in: it says more and counts as full. Else prove '..UptoSaid'. A law counts once. -/
mutual
def uptoBulk {H : Type} : DataW H → Nat
  | .lit (.string bytes) => bytes.length + 1
  | .lit _ => 1
  | .nil => 1
  | .ptr d => uptoBulk d + 1
  | .slice elems spare => uptoBulkAll elems + uptoBulkAll spare + 1
  | .agg parts => uptoBulkAll parts + 1
  | .iface _ d => uptoBulk d + 1
  | .map entries => uptoBulkEntries entries + 1
  | .held _ => 1
def uptoBulkAll {H : Type} : List (DataW H) → Nat
  | [] => 0
  | d :: r => uptoBulk d + uptoBulkAll r
def uptoBulkEntries {H : Type} : List (Lit × DataW H) → Nat
  | [] => 0
  | x :: r => uptoBulkEntry x + uptoBulkEntries r
def uptoBulkEntry {H : Type} : Lit × DataW H → Nat
  | (.string bytes, d) => bytes.length + uptoBulk d + 1
  | (_, d) => uptoBulk d + 1
 end
def uptoSmall : (H : Type) → List (DataW H) → Bool := fun _ ds => decide (uptoBulkAll ds ≤ 1048576)
def OpenSpec.upto (s : _root_.Go.ChangeSpec) : _root_.Go.OpenSpec := { _root_.Go.OpenSpec.ofChange s with cond := some uptoSmall }

/-- 'isobarlaw7.WavePairs', WHERE WHAT IT READS IS OF BULK AT MOST 1048576: true; the input reads as it did. -/
def wavePairsUptoRow : OpenClaim := { program := "ytoglkgagdilfjaadoor", sum := "4b8486599f5e51680ffcb64764c17941447fd5932ee0ef738990c985f1bbce7e", func := "isobar/isobarlaw7.WavePairs", spec := "wavePairs", inPlace := ["math.Float64frombits", "math.Float64bits"], named := ["isobar/fval.bits"], apart := false, laid := [("isobar/fval.bits", laid_isobar_fval_bits)], narrowed := true }
def WavePairsUptoSaid : Prop := wavePairsUptoRow.holds Tryd.pinned (OpenSpec.upto wavePairsSpec)

/-- 'isobarlaw7.WaveSums', WHERE WHAT IT READS IS OF BULK AT MOST 1048576: true; the input reads as it did. -/
def waveSumsUptoRow : OpenClaim := { program := "ytoglkgagdilfjaadoor", sum := "4b8486599f5e51680ffcb64764c17941447fd5932ee0ef738990c985f1bbce7e", func := "isobar/isobarlaw7.WaveSums", spec := "waveSums", inPlace := ["math.Float64frombits", "math.Float64bits"], named := ["isobar/fval.bits"], apart := false, laid := [("isobar/fval.bits", laid_isobar_fval_bits)], narrowed := true }
def WaveSumsUptoSaid : Prop := waveSumsUptoRow.holds Tryd.pinned (OpenSpec.upto waveSumsSpec)

/-- 'isobarlaw7.WaveTurns', WHERE WHAT IT READS IS OF BULK AT MOST 1048576: true; the input reads as it did. -/
def waveTurnsUptoRow : OpenClaim := { program := "ytoglkgagdilfjaadoor", sum := "4b8486599f5e51680ffcb64764c17941447fd5932ee0ef738990c985f1bbce7e", func := "isobar/isobarlaw7.WaveTurns", spec := "waveTurns", inPlace := ["math.Float64frombits", "math.Float64bits"], named := ["isobar/fval.bits"], apart := false, laid := [("isobar/fval.bits", laid_isobar_fval_bits)], narrowed := true }
def WaveTurnsUptoSaid : Prop := waveTurnsUptoRow.holds Tryd.pinned (OpenSpec.upto waveTurnsSpec)

/-- 'isobarlaw7.WaveWhole', WHERE WHAT IT READS IS OF BULK AT MOST 1048576: true; the input reads as it did. -/
def waveWholeUptoRow : OpenClaim := { program := "ytoglkgagdilfjaadoor", sum := "4b8486599f5e51680ffcb64764c17941447fd5932ee0ef738990c985f1bbce7e", func := "isobar/isobarlaw7.WaveWhole", spec := "waveWhole", inPlace := ["math.Float64frombits", "math.Float64bits"], named := ["isobar/fval.bits"], apart := false, laid := [("isobar/fval.bits", laid_isobar_fval_bits)], narrowed := true }
def WaveWholeUptoSaid : Prop := waveWholeUptoRow.holds Tryd.pinned (OpenSpec.upto waveWholeSpec)

end Rows
end Go.Proofs.YtoglkgagdilfjaaDoor
