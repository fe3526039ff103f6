/-
  DERIVED. GIVEN WITH THE SEED: THE CARDS: each row of YtegbenbhiadnbaaDoorRows.lean that lists a variable, with what it lists TIED to the program's text (the seventh form; the later family's looks); each row that meets fmt, with fmt's text TOLD by the authors' own Lean function (tested against real Go, not proved from fmt's source: count such statements apart). THE CARD IS WHAT COUNTS. Prove the row's statement (the work); the ties are given (YtegbenbhiadnbaaDoorTie.lean); close each card by the builder's one call (the guide's Derived/Test/ToyasCard.lean, 'card_holds'). Laid BY PROGRAM, IN A SANDBOX (cutbox-door.mjs). By AI agents, Wed Nov 11 2026. No macro, syntax, notation, axiom, sorry.
-/
import Derived.Test.YtegbenbhiadnbaaDoorRows
import GoSem.ClaimSeven
namespace Go.Proofs.YtegbenbhiadnbaaDoor
namespace Rows

/-- THE TIED CARD OF 'isobarlaw3.LabelsParts'. -/
def labelsPartsCard : Claim7 := { stood := { row := labelsPartsRow, standIns := [], harness := (true, "46e940e630b130a01a8ee937208772260bbcd0d8dcb4d5b6a739aaf96cc81b07"), looks := true }, kinds := [], alts := [], laidByText := true, laidKinds := [.data, .data, .data], laidTests := true, laidLooks := .later }
def LabelsPartsCardSaid : Prop := Claim7.holds Tryd.pinned (.plain (OpenSpec.ofChange labelsPartsSpec)) labelsPartsCard

/-- THE TIED CARD OF 'isobarlaw3.LabelsKeys'. -/
def labelsKeysCard : Claim7 := { stood := { row := labelsKeysRow, standIns := [], harness := (true, "46e940e630b130a01a8ee937208772260bbcd0d8dcb4d5b6a739aaf96cc81b07"), looks := true }, kinds := [], alts := [], laidByText := true, laidKinds := [.data, .data, .data, .sentinel, .sentinel], laidTests := true, laidLooks := .later }
def LabelsKeysCardSaid : Prop := Claim7.holds Tryd.pinned (.plain (OpenSpec.ofChange labelsKeysSpec)) labelsKeysCard

/-- THE TIED CARD OF 'isobarlaw3.LabelsKeepDrop'. -/
def labelsKeepDropCard : Claim7 := { stood := { row := labelsKeepDropRow, standIns := [], harness := (true, "46e940e630b130a01a8ee937208772260bbcd0d8dcb4d5b6a739aaf96cc81b07"), looks := true }, kinds := [], alts := [], laidByText := true, laidKinds := [.data, .data, .data], laidTests := true, laidLooks := .later }
def LabelsKeepDropCardSaid : Prop := Claim7.holds Tryd.pinned (.plain (OpenSpec.ofChange labelsKeepDropSpec)) labelsKeepDropCard

/-- THE SECOND FORM's CARD OF 'isobarlaw3.LabelsParts'. -/
def labelsPartsUptoCard : Claim7 := { stood := { row := labelsPartsUptoRow, standIns := [], harness := (true, "46e940e630b130a01a8ee937208772260bbcd0d8dcb4d5b6a739aaf96cc81b07"), looks := true }, kinds := [], alts := [], laidByText := true, laidKinds := [.data, .data, .data], laidTests := true, laidLooks := .later }
def LabelsPartsUptoCardSaid : Prop := Claim7.holds Tryd.pinned (.plain (OpenSpec.upto labelsPartsSpec)) labelsPartsUptoCard

/-- THE SECOND FORM's CARD OF 'isobarlaw3.LabelsKeys'. -/
def labelsKeysUptoCard : Claim7 := { stood := { row := labelsKeysUptoRow, standIns := [], harness := (true, "46e940e630b130a01a8ee937208772260bbcd0d8dcb4d5b6a739aaf96cc81b07"), looks := true }, kinds := [], alts := [], laidByText := true, laidKinds := [.data, .data, .data, .sentinel, .sentinel], laidTests := true, laidLooks := .later }
def LabelsKeysUptoCardSaid : Prop := Claim7.holds Tryd.pinned (.plain (OpenSpec.upto labelsKeysSpec)) labelsKeysUptoCard

/-- THE SECOND FORM's CARD OF 'isobarlaw3.LabelsKeepDrop'. -/
def labelsKeepDropUptoCard : Claim7 := { stood := { row := labelsKeepDropUptoRow, standIns := [], harness := (true, "46e940e630b130a01a8ee937208772260bbcd0d8dcb4d5b6a739aaf96cc81b07"), looks := true }, kinds := [], alts := [], laidByText := true, laidKinds := [.data, .data, .data], laidTests := true, laidLooks := .later }
def LabelsKeepDropUptoCardSaid : Prop := Claim7.holds Tryd.pinned (.plain (OpenSpec.upto labelsKeepDropSpec)) labelsKeepDropUptoCard
end Rows
end Go.Proofs.YtegbenbhiadnbaaDoor
