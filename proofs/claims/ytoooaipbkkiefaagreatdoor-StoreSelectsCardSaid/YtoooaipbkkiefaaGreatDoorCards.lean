/-
  DERIVED. GIVEN WITH THE SEED: THE CARDS: each row of YtoooaipbkkiefaaGreatDoorRows.lean that lists a variable, with what it lists TIED to the program's text (the seventh form; the later family's looks); each row that meets fmt, with fmt's text TOLD by the authors' own Lean function (tested against real Go, not proved from fmt's source: count such statements apart). THE CARD IS WHAT COUNTS. Prove the row's statement (the work); the ties are given (YtoooaipbkkiefaaGreatDoorTie.lean); close each card by the builder's one call (the guide's Derived/Test/ToyasCard.lean, 'card_holds'). Laid BY PROGRAM, IN A SANDBOX (cutbox-door.mjs). By AI agents, Wed Nov 11 2026. No macro, syntax, notation, axiom, sorry.
-/
import Derived.Test.YtoooaipbkkiefaaGreatDoorRows
import GoSem.ClaimSeven
namespace Go.Proofs.YtoooaipbkkiefaaGreatDoor
namespace Rows

/-- THE TIED CARD OF 'isobarlaw6.StoreAsks'. -/
def storeAsksCard : Claim7 := { stood := { row := storeAsksRow, standIns := [], harness := (true, "961ec9dccfe2cec07e31f24a7f1ea45ab7de805e158890b3e753a4d72690912f"), looks := false }, kinds := [], alts := [], laidByText := true, laidKinds := [.data, .data, .data, .data], laidTests := true, laidLooks := .later }
def StoreAsksCardSaid : Prop := Claim7.holds Tryz.pinned (.plain (OpenSpec.ofChange storeAsksSpec)) storeAsksCard

/-- THE TIED CARD OF 'isobarlaw6.StoreSelects'. -/
def storeSelectsCard : Claim7 := { stood := { row := storeSelectsRow, standIns := [], harness := (true, "961ec9dccfe2cec07e31f24a7f1ea45ab7de805e158890b3e753a4d72690912f"), looks := false }, kinds := [], alts := [], laidByText := true, laidKinds := [.data, .data, .data, .data], laidTests := true, laidLooks := .later }
def StoreSelectsCardSaid : Prop := Claim7.holds Tryz.pinned (.plain (OpenSpec.ofChange storeSelectsSpec)) storeSelectsCard

/-- THE SECOND FORM's CARD OF 'isobarlaw6.StoreAsks'. -/
def storeAsksUptoCard : Claim7 := { stood := { row := storeAsksUptoRow, standIns := [], harness := (true, "961ec9dccfe2cec07e31f24a7f1ea45ab7de805e158890b3e753a4d72690912f"), looks := false }, kinds := [], alts := [], laidByText := true, laidKinds := [.data, .data, .data, .data], laidTests := true, laidLooks := .later }
def StoreAsksUptoCardSaid : Prop := Claim7.holds Tryz.pinned (.plain (OpenSpec.upto storeAsksSpec)) storeAsksUptoCard

/-- THE SECOND FORM's CARD OF 'isobarlaw6.StoreSelects'. -/
def storeSelectsUptoCard : Claim7 := { stood := { row := storeSelectsUptoRow, standIns := [], harness := (true, "961ec9dccfe2cec07e31f24a7f1ea45ab7de805e158890b3e753a4d72690912f"), looks := false }, kinds := [], alts := [], laidByText := true, laidKinds := [.data, .data, .data, .data], laidTests := true, laidLooks := .later }
def StoreSelectsUptoCardSaid : Prop := Claim7.holds Tryz.pinned (.plain (OpenSpec.upto storeSelectsSpec)) storeSelectsUptoCard
end Rows
end Go.Proofs.YtoooaipbkkiefaaGreatDoor
