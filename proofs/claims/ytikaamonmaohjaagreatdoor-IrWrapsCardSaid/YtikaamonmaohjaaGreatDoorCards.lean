/-
  DERIVED. GIVEN WITH THE SEED: THE CARDS: each row of YtikaamonmaohjaaGreatDoorRows.lean that lists a variable, with what it lists TIED to the program's text (the seventh form; the later family's looks); each row that meets fmt, with fmt's text TOLD by the authors' own Lean function (tested against real Go, not proved from fmt's source: count such statements apart). THE CARD IS WHAT COUNTS. Prove the row's statement (the work); the ties are given (YtikaamonmaohjaaGreatDoorTie.lean); close each card by the builder's one call (the guide's Derived/Test/ToyasCard.lean, 'card_holds'). Laid BY PROGRAM, IN A SANDBOX (cutbox-door.mjs). By AI agents, Wed Nov 11 2026. No macro, syntax, notation, axiom, sorry.
-/
import Derived.Test.YtikaamonmaohjaaGreatDoorRows
import GoSem.ClaimSeven
namespace Go.Proofs.YtikaamonmaohjaaGreatDoor
namespace Rows

/-- THE TIED CARD OF 'isobarlaw12.IrWalks'. -/
def irWalksCard : Claim7 := { stood := { row := irWalksRow, standIns := [], harness := (true, "935c2dc61486533e679da9ac8fb833fa7f430ee01bf790e4aa093e5e182c0002"), looks := false }, kinds := [], alts := [], laidByText := true, laidKinds := [.data, .data, .data, .data, .data, .data, .data, .pinned, .pinned], laidTests := true, laidLooks := .later }
def IrWalksCardSaid : Prop := Claim7.holds Tryz.pinned (.plain (OpenSpec.ofChange irWalksSpec)) irWalksCard

/-- THE TIED CARD OF 'isobarlaw12.IrWraps'. -/
def irWrapsCard : Claim7 := { stood := { row := irWrapsRow, standIns := [], harness := (true, "935c2dc61486533e679da9ac8fb833fa7f430ee01bf790e4aa093e5e182c0002"), looks := false }, kinds := [], alts := [], laidByText := true, laidKinds := [.data, .data, .data, .data, .data, .data, .data, .pinned, .pinned], laidTests := true, laidLooks := .later }
def IrWrapsCardSaid : Prop := Claim7.holds Tryz.pinned (.plain (OpenSpec.ofChange irWrapsSpec)) irWrapsCard

/-- THE SECOND FORM's CARD OF 'isobarlaw12.IrWalks'. -/
def irWalksUptoCard : Claim7 := { stood := { row := irWalksUptoRow, standIns := [], harness := (true, "935c2dc61486533e679da9ac8fb833fa7f430ee01bf790e4aa093e5e182c0002"), looks := false }, kinds := [], alts := [], laidByText := true, laidKinds := [.data, .data, .data, .data, .data, .data, .data, .pinned, .pinned], laidTests := true, laidLooks := .later }
def IrWalksUptoCardSaid : Prop := Claim7.holds Tryz.pinned (.plain (OpenSpec.upto irWalksSpec)) irWalksUptoCard

/-- THE SECOND FORM's CARD OF 'isobarlaw12.IrWraps'. -/
def irWrapsUptoCard : Claim7 := { stood := { row := irWrapsUptoRow, standIns := [], harness := (true, "935c2dc61486533e679da9ac8fb833fa7f430ee01bf790e4aa093e5e182c0002"), looks := false }, kinds := [], alts := [], laidByText := true, laidKinds := [.data, .data, .data, .data, .data, .data, .data, .pinned, .pinned], laidTests := true, laidLooks := .later }
def IrWrapsUptoCardSaid : Prop := Claim7.holds Tryz.pinned (.plain (OpenSpec.upto irWrapsSpec)) irWrapsUptoCard
end Rows
end Go.Proofs.YtikaamonmaohjaaGreatDoor
