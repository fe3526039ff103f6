/-
  DERIVED. GIVEN WITH THE SEED: THE CARDS: each row of YtihiklmomhhdbaaDoorRows.lean that lists a variable, with what it lists TIED to the program's text (the seventh form; the later family's looks); each row that meets fmt, with fmt's text TOLD by the authors' own Lean function (tested against real Go, not proved from fmt's source: count such statements apart). THE CARD IS WHAT COUNTS. Prove the row's statement (the work); the ties are given (YtihiklmomhhdbaaDoorTie.lean); close each card by the builder's one call (the guide's Derived/Test/ToyasCard.lean, 'card_holds'). Laid BY PROGRAM, IN A SANDBOX (cutbox-door.mjs). By AI agents, Wed Nov 11 2026. No macro, syntax, notation, axiom, sorry.
-/
import Derived.Test.YtihiklmomhhdbaaDoorRows
import GoSem.ClaimSeven
namespace Go.Proofs.YtihiklmomhhdbaaDoor
namespace Rows

/-- THE TIED CARD OF 'isobarlaw10.AggNames'. -/
def aggNamesCard : Claim7 := { stood := { row := aggNamesRow, standIns := [], harness := (true, "127064bf6cf00ffcec73fb7b14836fee25eb1a0b180d231768b7285dd7184dd9"), looks := false }, kinds := [], alts := [], laidByText := true, laidKinds := [.data, .data, .data, .data, .data], laidTests := true, laidLooks := .later }
def AggNamesCardSaid : Prop := Claim7.holds Tryd.pinned (.plain (OpenSpec.ofChange aggNamesSpec)) aggNamesCard

/-- THE SECOND FORM's CARD OF 'isobarlaw10.AggNames'. -/
def aggNamesUptoCard : Claim7 := { stood := { row := aggNamesUptoRow, standIns := [], harness := (true, "127064bf6cf00ffcec73fb7b14836fee25eb1a0b180d231768b7285dd7184dd9"), looks := false }, kinds := [], alts := [], laidByText := true, laidKinds := [.data, .data, .data, .data, .data], laidTests := true, laidLooks := .later }
def AggNamesUptoCardSaid : Prop := Claim7.holds Tryd.pinned (.plain (OpenSpec.upto aggNamesSpec)) aggNamesUptoCard
end Rows
end Go.Proofs.YtihiklmomhhdbaaDoor
