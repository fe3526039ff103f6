/-
  DERIVED. GIVEN WITH THE SEED: THE CARDS: each row of YtoglkgagdilfjaaGreatDoorRows.lean that lists a variable, with what it lists TIED to the program's text (the seventh form; the later family's looks); each row that meets fmt, with fmt's text TOLD by the authors' own Lean function (tested against real Go, not proved from fmt's source: count such statements apart). THE CARD IS WHAT COUNTS. Prove the row's statement (the work); the ties are given (YtoglkgagdilfjaaGreatDoorTie.lean); close each card by the builder's one call (the guide's Derived/Test/ToyasCard.lean, 'card_holds'). Laid BY PROGRAM, IN A SANDBOX (cutbox-door.mjs). By AI agents, Wed Nov 11 2026. No macro, syntax, notation, axiom, sorry.
-/
import Derived.Test.YtoglkgagdilfjaaGreatDoorRows
import GoSem.ClaimSeven
namespace Go.Proofs.YtoglkgagdilfjaaGreatDoor
namespace Rows

/-- THE TIED CARD OF 'isobarlaw6.StoreMakes'. -/
def storeMakesCard : Claim7 := { stood := { row := storeMakesRow, standIns := [], harness := (true, "a7dda57fa5204d27b932a3f62e4c7218aa07a1b8bafe2b7b276917d90acca946"), looks := false }, kinds := [], alts := [], laidByText := true, laidKinds := [.data, .data, .data, .data], laidTests := true, laidLooks := .later }
def StoreMakesCardSaid : Prop := Claim7.holds Tryz.pinned (.plain (OpenSpec.ofChange storeMakesSpec)) storeMakesCard

/-- THE TIED CARD OF 'isobarlaw6.StoreAsks'. -/
def storeAsksCard : Claim7 := { stood := { row := storeAsksRow, standIns := [], harness := (true, "a7dda57fa5204d27b932a3f62e4c7218aa07a1b8bafe2b7b276917d90acca946"), looks := false }, kinds := [], alts := [], laidByText := true, laidKinds := [.data, .data, .data, .data], laidTests := true, laidLooks := .later }
def StoreAsksCardSaid : Prop := Claim7.holds Tryz.pinned (.plain (OpenSpec.ofChange storeAsksSpec)) storeAsksCard

/-- THE TIED CARD OF 'isobarlaw6.StoreOrder'. -/
def storeOrderCard : Claim7 := { stood := { row := storeOrderRow, standIns := [], harness := (true, "a7dda57fa5204d27b932a3f62e4c7218aa07a1b8bafe2b7b276917d90acca946"), looks := false }, kinds := [], alts := [], laidByText := true, laidKinds := [.data, .data, .data, .data], laidTests := true, laidLooks := .later }
def StoreOrderCardSaid : Prop := Claim7.holds Tryz.pinned (.plain (OpenSpec.ofChange storeOrderSpec)) storeOrderCard

/-- THE TIED CARD OF 'isobarlaw6.StoreOwn'. -/
def storeOwnCard : Claim7 := { stood := { row := storeOwnRow, standIns := [], harness := (true, "a7dda57fa5204d27b932a3f62e4c7218aa07a1b8bafe2b7b276917d90acca946"), looks := false }, kinds := [], alts := [], laidByText := true, laidKinds := [.data, .data, .data, .data], laidTests := true, laidLooks := .later }
def StoreOwnCardSaid : Prop := Claim7.holds Tryz.pinned (.plain (OpenSpec.ofChange storeOwnSpec)) storeOwnCard

/-- THE TIED CARD OF 'isobarlaw6.StoreSelects'. -/
def storeSelectsCard : Claim7 := { stood := { row := storeSelectsRow, standIns := [], harness := (true, "a7dda57fa5204d27b932a3f62e4c7218aa07a1b8bafe2b7b276917d90acca946"), looks := false }, kinds := [], alts := [], laidByText := true, laidKinds := [.data, .data, .data, .data], laidTests := true, laidLooks := .later }
def StoreSelectsCardSaid : Prop := Claim7.holds Tryz.pinned (.plain (OpenSpec.ofChange storeSelectsSpec)) storeSelectsCard

/-- THE SECOND FORM's CARD OF 'isobarlaw6.StoreMakes'. -/
def storeMakesUptoCard : Claim7 := { stood := { row := storeMakesUptoRow, standIns := [], harness := (true, "a7dda57fa5204d27b932a3f62e4c7218aa07a1b8bafe2b7b276917d90acca946"), looks := false }, kinds := [], alts := [], laidByText := true, laidKinds := [.data, .data, .data, .data], laidTests := true, laidLooks := .later }
def StoreMakesUptoCardSaid : Prop := Claim7.holds Tryz.pinned (.plain (OpenSpec.upto storeMakesSpec)) storeMakesUptoCard

/-- THE SECOND FORM's CARD OF 'isobarlaw6.StoreAsks'. -/
def storeAsksUptoCard : Claim7 := { stood := { row := storeAsksUptoRow, standIns := [], harness := (true, "a7dda57fa5204d27b932a3f62e4c7218aa07a1b8bafe2b7b276917d90acca946"), looks := false }, kinds := [], alts := [], laidByText := true, laidKinds := [.data, .data, .data, .data], laidTests := true, laidLooks := .later }
def StoreAsksUptoCardSaid : Prop := Claim7.holds Tryz.pinned (.plain (OpenSpec.upto storeAsksSpec)) storeAsksUptoCard

/-- THE SECOND FORM's CARD OF 'isobarlaw6.StoreOrder'. -/
def storeOrderUptoCard : Claim7 := { stood := { row := storeOrderUptoRow, standIns := [], harness := (true, "a7dda57fa5204d27b932a3f62e4c7218aa07a1b8bafe2b7b276917d90acca946"), looks := false }, kinds := [], alts := [], laidByText := true, laidKinds := [.data, .data, .data, .data], laidTests := true, laidLooks := .later }
def StoreOrderUptoCardSaid : Prop := Claim7.holds Tryz.pinned (.plain (OpenSpec.upto storeOrderSpec)) storeOrderUptoCard

/-- THE SECOND FORM's CARD OF 'isobarlaw6.StoreOwn'. -/
def storeOwnUptoCard : Claim7 := { stood := { row := storeOwnUptoRow, standIns := [], harness := (true, "a7dda57fa5204d27b932a3f62e4c7218aa07a1b8bafe2b7b276917d90acca946"), looks := false }, kinds := [], alts := [], laidByText := true, laidKinds := [.data, .data, .data, .data], laidTests := true, laidLooks := .later }
def StoreOwnUptoCardSaid : Prop := Claim7.holds Tryz.pinned (.plain (OpenSpec.upto storeOwnSpec)) storeOwnUptoCard

/-- THE SECOND FORM's CARD OF 'isobarlaw6.StoreSelects'. -/
def storeSelectsUptoCard : Claim7 := { stood := { row := storeSelectsUptoRow, standIns := [], harness := (true, "a7dda57fa5204d27b932a3f62e4c7218aa07a1b8bafe2b7b276917d90acca946"), looks := false }, kinds := [], alts := [], laidByText := true, laidKinds := [.data, .data, .data, .data], laidTests := true, laidLooks := .later }
def StoreSelectsUptoCardSaid : Prop := Claim7.holds Tryz.pinned (.plain (OpenSpec.upto storeSelectsSpec)) storeSelectsUptoCard
end Rows
end Go.Proofs.YtoglkgagdilfjaaGreatDoor
