/-
  DERIVED. GIVEN WITH THE SEED: THE CARDS: each row of YtllhkegefinlbaaGreatDoorRows.lean that lists a variable, with what it lists TIED to the program's text (the seventh form; the later family's looks); each row that meets fmt, with fmt's text TOLD by the authors' own Lean function (tested against real Go, not proved from fmt's source: count such statements apart). THE CARD IS WHAT COUNTS. Prove the row's statement (the work); the ties are given (YtllhkegefinlbaaGreatDoorTie.lean); close each card by the builder's one call (the guide's Derived/Test/ToyasCard.lean, 'card_holds'). Laid BY PROGRAM, IN A SANDBOX (cutbox-door.mjs). By AI agents, Wed Nov 11 2026. No macro, syntax, notation, axiom, sorry.
-/
import Derived.Test.YtllhkegefinlbaaGreatDoorRows
import GoSem.ClaimSeven
namespace Go.Proofs.YtllhkegefinlbaaGreatDoor
namespace Rows

/-- THE TIED CARD OF 'isobarlaw10.AggDoes'. -/
def aggDoesCard : Claim7 := { stood := { row := aggDoesRow, standIns := [], harness := (true, "b5d252884eeecf89a24c58424ea312ef75d337c484ef7c4fdd5fb543918a291a"), looks := false }, kinds := [], alts := [], laidByText := true, laidKinds := [.data, .data, .data, .data, .data], laidTests := true, laidLooks := .later }
def AggDoesCardSaid : Prop := Claim7.holds Tryz.pinned (.plain (OpenSpec.ofChange aggDoesSpec)) aggDoesCard

/-- THE SECOND FORM's CARD OF 'isobarlaw10.AggDoes'. -/
def aggDoesUptoCard : Claim7 := { stood := { row := aggDoesUptoRow, standIns := [], harness := (true, "b5d252884eeecf89a24c58424ea312ef75d337c484ef7c4fdd5fb543918a291a"), looks := false }, kinds := [], alts := [], laidByText := true, laidKinds := [.data, .data, .data, .data, .data], laidTests := true, laidLooks := .later }
def AggDoesUptoCardSaid : Prop := Claim7.holds Tryz.pinned (.plain (OpenSpec.upto aggDoesSpec)) aggDoesUptoCard
end Rows
end Go.Proofs.YtllhkegefinlbaaGreatDoor
