/-
  No cell of these rows narrows 'for every input' (looked for: loops, veiled, ifaces, maps, wideKeys, modest, calm, conditions, laid).
  DERIVED. THE GIVEN ROWS OF THIS SEAT. 5 by the template 'for every input the law returns true; each argument reads behind the call as it read before'; 0 by the template 'total and deterministic' (their statements: YtnbanlakmalbhaaTotals.lean).
  GIVEN WITH THE SEED: the statements are not yours to turn. If you find one false, say at which input.
  Laid BY PROGRAM, IN A SANDBOX (cutbox-rows.mjs): the forced cells as the released guide's own fill.sh prints them over the translation b7587d3577b5a163… (all of the seat's roots in one cut). By AI agents, Wed Nov 11 2026. No macro, syntax, notation, axiom, sorry.
-/
import Derived.Test.YtnbanlakmalbhaaChecked
import GoSem.Claim
import GoSem.ClaimJoined
import GoSem.ClaimMapViews
import Derived.JoinedTies
import Derived.KernelRfl
namespace Go.Proofs.Ytnbanlakmalbhaa
/- THE CELL 'sum', in the pinned program and in every row, IS THE sha256 OF THE DUMP (.gsa) THAT YtnbanlakmalbhaaProg.lean LOADS. Nothing in Lean hashes anything: it is a label: what it is worth is what the hold of that sum in a sandbox is worth. -/
noncomputable def Try.pinned : Pinned := { name := "ytnbanlakmalbhaa", sum := "b7587d3577b5a1632d8bc3e5b7559a2ab5bd085e3cb9ce280899fc8f94be2644", checked := Try.checked }
namespace Rows
def none {H : Type} : Left H := { results := [], args := [] }

/-- 'isobarlaw4.RegexEscapes': WHATEVER THE INPUT: true; the input reads as it did. -/
def regexEscapesSpec : ChangeSpec := { name := "regexEscapes", fn := fun _ => fun
  | [d1, d2, d3] => { results := [.lit (.bool true)], args := [d1, d2, d3] }
  | _ => none }
def regexEscapesRow : OpenClaim := { program := "ytnbanlakmalbhaa", sum := "b7587d3577b5a1632d8bc3e5b7559a2ab5bd085e3cb9ce280899fc8f94be2644", func := "isobar/isobarlaw4.RegexEscapes", spec := "regexEscapes", inPlace := ["internal/bytealg.IndexByteString"], unfollowed := true, recurses := true, apart := false }
def RegexEscapesSaid : Prop := regexEscapesRow.holds Try.pinned (OpenSpec.ofChange regexEscapesSpec)

/-- ITS FALSE NEIGHBOUR: 'it returns false'. Refute it at one input. -/
def regexEscapesWrong : ChangeSpec := { name := "regexEscapes", fn := fun _ => fun
  | [d1, d2, d3] => { results := [.lit (.bool false)], args := [d1, d2, d3] }
  | _ => none }
def RegexEscapesWrongFalsely : Prop := regexEscapesRow.holds Try.pinned (OpenSpec.ofChange regexEscapesWrong)

/-- 'isobarlaw4.RegexJoins': WHATEVER THE INPUT: true; the input reads as it did. -/
def regexJoinsSpec : ChangeSpec := { name := "regexJoins", fn := fun _ => fun
  | [d1, d2, d3, d4] => { results := [.lit (.bool true)], args := [d1, d2, d3, d4] }
  | _ => none }
def regexJoinsRow : OpenClaim := { program := "ytnbanlakmalbhaa", sum := "b7587d3577b5a1632d8bc3e5b7559a2ab5bd085e3cb9ce280899fc8f94be2644", func := "isobar/isobarlaw4.RegexJoins", spec := "regexJoins", inPlace := ["internal/bytealg.IndexByteString"], unfollowed := true, recurses := true, apart := false }
def RegexJoinsSaid : Prop := regexJoinsRow.holds Try.pinned (OpenSpec.ofChange regexJoinsSpec)

/-- ITS FALSE NEIGHBOUR: 'it returns false'. Refute it at one input. -/
def regexJoinsWrong : ChangeSpec := { name := "regexJoins", fn := fun _ => fun
  | [d1, d2, d3, d4] => { results := [.lit (.bool false)], args := [d1, d2, d3, d4] }
  | _ => none }
def RegexJoinsWrongFalsely : Prop := regexJoinsRow.holds Try.pinned (OpenSpec.ofChange regexJoinsWrong)

/-- 'isobarlaw4.RegexSets': WHATEVER THE INPUT: true; the input reads as it did. -/
def regexSetsSpec : ChangeSpec := { name := "regexSets", fn := fun _ => fun
  | [d1, d2] => { results := [.lit (.bool true)], args := [d1, d2] }
  | _ => none }
def regexSetsRow : OpenClaim := { program := "ytnbanlakmalbhaa", sum := "b7587d3577b5a1632d8bc3e5b7559a2ab5bd085e3cb9ce280899fc8f94be2644", func := "isobar/isobarlaw4.RegexSets", spec := "regexSets", inPlace := ["internal/bytealg.IndexByteString"], unfollowed := true, recurses := true, apart := false }
def RegexSetsSaid : Prop := regexSetsRow.holds Try.pinned (OpenSpec.ofChange regexSetsSpec)

/-- ITS FALSE NEIGHBOUR: 'it returns false'. Refute it at one input. -/
def regexSetsWrong : ChangeSpec := { name := "regexSets", fn := fun _ => fun
  | [d1, d2] => { results := [.lit (.bool false)], args := [d1, d2] }
  | _ => none }
def RegexSetsWrongFalsely : Prop := regexSetsRow.holds Try.pinned (OpenSpec.ofChange regexSetsWrong)

/-- 'isobarlaw4.RegexRepeats': WHATEVER THE INPUT: true; the input reads as it did. -/
def regexRepeatsSpec : ChangeSpec := { name := "regexRepeats", fn := fun _ => fun
  | [d1, d2] => { results := [.lit (.bool true)], args := [d1, d2] }
  | _ => none }
def regexRepeatsRow : OpenClaim := { program := "ytnbanlakmalbhaa", sum := "b7587d3577b5a1632d8bc3e5b7559a2ab5bd085e3cb9ce280899fc8f94be2644", func := "isobar/isobarlaw4.RegexRepeats", spec := "regexRepeats", inPlace := ["internal/bytealg.IndexByteString"], unfollowed := true, recurses := true, apart := false }
def RegexRepeatsSaid : Prop := regexRepeatsRow.holds Try.pinned (OpenSpec.ofChange regexRepeatsSpec)

/-- ITS FALSE NEIGHBOUR: 'it returns false'. Refute it at one input. -/
def regexRepeatsWrong : ChangeSpec := { name := "regexRepeats", fn := fun _ => fun
  | [d1, d2] => { results := [.lit (.bool false)], args := [d1, d2] }
  | _ => none }
def RegexRepeatsWrongFalsely : Prop := regexRepeatsRow.holds Try.pinned (OpenSpec.ofChange regexRepeatsWrong)

/-- 'isobarlaw4.RegexNested': WHATEVER THE INPUT: true; the input reads as it did. -/
def regexNestedSpec : ChangeSpec := { name := "regexNested", fn := fun _ => fun
  | [d1, d2, d3] => { results := [.lit (.bool true)], args := [d1, d2, d3] }
  | _ => none }
def regexNestedRow : OpenClaim := { program := "ytnbanlakmalbhaa", sum := "b7587d3577b5a1632d8bc3e5b7559a2ab5bd085e3cb9ce280899fc8f94be2644", func := "isobar/isobarlaw4.RegexNested", spec := "regexNested", inPlace := ["internal/bytealg.IndexByteString"], unfollowed := true, recurses := true, apart := false }
def RegexNestedSaid : Prop := regexNestedRow.holds Try.pinned (OpenSpec.ofChange regexNestedSpec)

/-- ITS FALSE NEIGHBOUR: 'it returns false'. Refute it at one input. -/
def regexNestedWrong : ChangeSpec := { name := "regexNested", fn := fun _ => fun
  | [d1, d2, d3] => { results := [.lit (.bool false)], args := [d1, d2, d3] }
  | _ => none }
def RegexNestedWrongFalsely : Prop := regexNestedRow.holds Try.pinned (OpenSpec.ofChange regexNestedWrong)

/- THE SECOND FORM. 'bulk': how many values and letters a reading holds, each counted each time it is reached (what is shared counts as often as it is met; a slice's spare places count too). A statement '..UptoSaid' is the law's where the arguments, and the package variables that the reading takes, are together of bulk at most 1048576: NARROWER than '..Said'. Prove '..Said' where nothing that the law and all that it calls make is longer than what came in: it says more and counts as full. Else prove '..UptoSaid'. A law counts once. -/
mutual
def uptoBulk {H : Type} : DataW H → Nat
  | .lit (.string bytes) => bytes.length + 1
  | .lit _ => 1
  | .nil => 1
  | .ptr d => uptoBulk d + 1
  | .slice elems spare => uptoBulkAll elems + uptoBulkAll spare + 1
  | .agg parts => uptoBulkAll parts + 1
  | .iface _ d => uptoBulk d + 1
  | .map entries => uptoBulkEntries entries + 1
  | .held _ => 1
def uptoBulkAll {H : Type} : List (DataW H) → Nat
  | [] => 0
  | d :: r => uptoBulk d + uptoBulkAll r
def uptoBulkEntries {H : Type} : List (Lit × DataW H) → Nat
  | [] => 0
  | x :: r => uptoBulkEntry x + uptoBulkEntries r
def uptoBulkEntry {H : Type} : Lit × DataW H → Nat
  | (.string bytes, d) => bytes.length + uptoBulk d + 1
  | (_, d) => uptoBulk d + 1
 end
def uptoSmall : (H : Type) → List (DataW H) → Bool := fun _ ds => decide (uptoBulkAll ds ≤ 1048576)
def OpenSpec.upto (s : _root_.Go.ChangeSpec) : _root_.Go.OpenSpec := { _root_.Go.OpenSpec.ofChange s with cond := some uptoSmall }

/-- 'isobarlaw4.RegexEscapes', WHERE WHAT IT READS IS OF BULK AT MOST 1048576: true; the input reads as it did. -/
def regexEscapesUptoRow : OpenClaim := { program := "ytnbanlakmalbhaa", sum := "b7587d3577b5a1632d8bc3e5b7559a2ab5bd085e3cb9ce280899fc8f94be2644", func := "isobar/isobarlaw4.RegexEscapes", spec := "regexEscapes", inPlace := ["internal/bytealg.IndexByteString"], unfollowed := true, recurses := true, apart := false, narrowed := true }
def RegexEscapesUptoSaid : Prop := regexEscapesUptoRow.holds Try.pinned (OpenSpec.upto regexEscapesSpec)

/-- 'isobarlaw4.RegexJoins', WHERE WHAT IT READS IS OF BULK AT MOST 1048576: true; the input reads as it did. -/
def regexJoinsUptoRow : OpenClaim := { program := "ytnbanlakmalbhaa", sum := "b7587d3577b5a1632d8bc3e5b7559a2ab5bd085e3cb9ce280899fc8f94be2644", func := "isobar/isobarlaw4.RegexJoins", spec := "regexJoins", inPlace := ["internal/bytealg.IndexByteString"], unfollowed := true, recurses := true, apart := false, narrowed := true }
def RegexJoinsUptoSaid : Prop := regexJoinsUptoRow.holds Try.pinned (OpenSpec.upto regexJoinsSpec)

/-- 'isobarlaw4.RegexSets', WHERE WHAT IT READS IS OF BULK AT MOST 1048576: true; the input reads as it did. -/
def regexSetsUptoRow : OpenClaim := { program := "ytnbanlakmalbhaa", sum := "b7587d3577b5a1632d8bc3e5b7559a2ab5bd085e3cb9ce280899fc8f94be2644", func := "isobar/isobarlaw4.RegexSets", spec := "regexSets", inPlace := ["internal/bytealg.IndexByteString"], unfollowed := true, recurses := true, apart := false, narrowed := true }
def RegexSetsUptoSaid : Prop := regexSetsUptoRow.holds Try.pinned (OpenSpec.upto regexSetsSpec)

/-- 'isobarlaw4.RegexRepeats', WHERE WHAT IT READS IS OF BULK AT MOST 1048576: true; the input reads as it did. -/
def regexRepeatsUptoRow : OpenClaim := { program := "ytnbanlakmalbhaa", sum := "b7587d3577b5a1632d8bc3e5b7559a2ab5bd085e3cb9ce280899fc8f94be2644", func := "isobar/isobarlaw4.RegexRepeats", spec := "regexRepeats", inPlace := ["internal/bytealg.IndexByteString"], unfollowed := true, recurses := true, apart := false, narrowed := true }
def RegexRepeatsUptoSaid : Prop := regexRepeatsUptoRow.holds Try.pinned (OpenSpec.upto regexRepeatsSpec)

/-- 'isobarlaw4.RegexNested', WHERE WHAT IT READS IS OF BULK AT MOST 1048576: true; the input reads as it did. -/
def regexNestedUptoRow : OpenClaim := { program := "ytnbanlakmalbhaa", sum := "b7587d3577b5a1632d8bc3e5b7559a2ab5bd085e3cb9ce280899fc8f94be2644", func := "isobar/isobarlaw4.RegexNested", spec := "regexNested", inPlace := ["internal/bytealg.IndexByteString"], unfollowed := true, recurses := true, apart := false, narrowed := true }
def RegexNestedUptoSaid : Prop := regexNestedUptoRow.holds Try.pinned (OpenSpec.upto regexNestedSpec)

end Rows
end Go.Proofs.Ytnbanlakmalbhaa
