/-
  DERIVED. GIVEN WITH THE SEED: THE CARDS: each row of YtihiklmomhhdbaaGreatDoorRows.lean that lists a variable, with what it lists TIED to the program's text (the seventh form; the later family's looks); each row that meets fmt, with fmt's text TOLD by the authors' own Lean function (tested against real Go, not proved from fmt's source: count such statements apart). THE CARD IS WHAT COUNTS. Prove the row's statement (the work); the ties are given (YtihiklmomhhdbaaGreatDoorTie.lean); close each card by the builder's one call (the guide's Derived/Test/ToyasCard.lean, 'card_holds'). Laid BY PROGRAM, IN A SANDBOX (cutbox-door.mjs). By AI agents, Wed Nov 11 2026. No macro, syntax, notation, axiom, sorry.
-/
import Derived.Test.YtihiklmomhhdbaaGreatDoorRows
import GoSem.ClaimSeven
namespace Go.Proofs.YtihiklmomhhdbaaGreatDoor
namespace Rows

/-- THE TIED CARD OF 'isobarlaw6.StoreAsks'. -/
def storeAsksCard : Claim7 := { stood := { row := storeAsksRow, standIns := [], harness := (true, "c666c8b3ad3e1941d5d6ae3827c588a8573c3de03abee3cb356ecf999da93f3a"), looks := false }, kinds := [], alts := [], laidByText := true, laidKinds := [.data, .data, .data, .data], laidTests := true, laidLooks := .later }
def StoreAsksCardSaid : Prop := Claim7.holds Tryz.pinned (.plain (OpenSpec.ofChange storeAsksSpec)) storeAsksCard

/-- THE TIED CARD OF 'isobarlaw10.AggDoes'. -/
def aggDoesCard : Claim7 := { stood := { row := aggDoesRow, standIns := [], harness := (true, "c666c8b3ad3e1941d5d6ae3827c588a8573c3de03abee3cb356ecf999da93f3a"), looks := false }, kinds := [], alts := [], laidByText := true, laidKinds := [.data, .data, .data, .data, .data], laidTests := true, laidLooks := .later }
def AggDoesCardSaid : Prop := Claim7.holds Tryz.pinned (.plain (OpenSpec.ofChange aggDoesSpec)) aggDoesCard

/-- THE TIED CARD OF 'isobarlaw10.AggGroups'. -/
def aggGroupsCard : Claim7 := { stood := { row := aggGroupsRow, standIns := [], harness := (true, "c666c8b3ad3e1941d5d6ae3827c588a8573c3de03abee3cb356ecf999da93f3a"), looks := false }, kinds := [], alts := [], laidByText := true, laidKinds := [.data, .data, .data, .data, .data], laidTests := true, laidLooks := .later }
def AggGroupsCardSaid : Prop := Claim7.holds Tryz.pinned (.plain (OpenSpec.ofChange aggGroupsSpec)) aggGroupsCard

/-- THE TIED CARD OF 'isobarlaw10.AggRanks'. -/
def aggRanksCard : Claim7 := { stood := { row := aggRanksRow, standIns := [], harness := (true, "c666c8b3ad3e1941d5d6ae3827c588a8573c3de03abee3cb356ecf999da93f3a"), looks := false }, kinds := [], alts := [], laidByText := true, laidKinds := [.data, .data, .data, .data, .data], laidTests := true, laidLooks := .later }
def AggRanksCardSaid : Prop := Claim7.holds Tryz.pinned (.plain (OpenSpec.ofChange aggRanksSpec)) aggRanksCard

/-- THE SECOND FORM's CARD OF 'isobarlaw6.StoreAsks'. -/
def storeAsksUptoCard : Claim7 := { stood := { row := storeAsksUptoRow, standIns := [], harness := (true, "c666c8b3ad3e1941d5d6ae3827c588a8573c3de03abee3cb356ecf999da93f3a"), looks := false }, kinds := [], alts := [], laidByText := true, laidKinds := [.data, .data, .data, .data], laidTests := true, laidLooks := .later }
def StoreAsksUptoCardSaid : Prop := Claim7.holds Tryz.pinned (.plain (OpenSpec.upto storeAsksSpec)) storeAsksUptoCard

/-- THE SECOND FORM's CARD OF 'isobarlaw10.AggDoes'. -/
def aggDoesUptoCard : Claim7 := { stood := { row := aggDoesUptoRow, standIns := [], harness := (true, "c666c8b3ad3e1941d5d6ae3827c588a8573c3de03abee3cb356ecf999da93f3a"), looks := false }, kinds := [], alts := [], laidByText := true, laidKinds := [.data, .data, .data, .data, .data], laidTests := true, laidLooks := .later }
def AggDoesUptoCardSaid : Prop := Claim7.holds Tryz.pinned (.plain (OpenSpec.upto aggDoesSpec)) aggDoesUptoCard

/-- THE SECOND FORM's CARD OF 'isobarlaw10.AggGroups'. -/
def aggGroupsUptoCard : Claim7 := { stood := { row := aggGroupsUptoRow, standIns := [], harness := (true, "c666c8b3ad3e1941d5d6ae3827c588a8573c3de03abee3cb356ecf999da93f3a"), looks := false }, kinds := [], alts := [], laidByText := true, laidKinds := [.data, .data, .data, .data, .data], laidTests := true, laidLooks := .later }
def AggGroupsUptoCardSaid : Prop := Claim7.holds Tryz.pinned (.plain (OpenSpec.upto aggGroupsSpec)) aggGroupsUptoCard

/-- THE SECOND FORM's CARD OF 'isobarlaw10.AggRanks'. -/
def aggRanksUptoCard : Claim7 := { stood := { row := aggRanksUptoRow, standIns := [], harness := (true, "c666c8b3ad3e1941d5d6ae3827c588a8573c3de03abee3cb356ecf999da93f3a"), looks := false }, kinds := [], alts := [], laidByText := true, laidKinds := [.data, .data, .data, .data, .data], laidTests := true, laidLooks := .later }
def AggRanksUptoCardSaid : Prop := Claim7.holds Tryz.pinned (.plain (OpenSpec.upto aggRanksSpec)) aggRanksUptoCard
end Rows
end Go.Proofs.YtihiklmomhhdbaaGreatDoor
