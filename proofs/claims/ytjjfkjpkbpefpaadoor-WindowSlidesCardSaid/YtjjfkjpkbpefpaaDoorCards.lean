/-
  DERIVED. GIVEN WITH THE SEED: THE CARDS: each row of YtjjfkjpkbpefpaaDoorRows.lean that lists a variable, with what it lists TIED to the program's text (the seventh form; the later family's looks); each row that meets fmt, with fmt's text TOLD by the authors' own Lean function (tested against real Go, not proved from fmt's source: count such statements apart). THE CARD IS WHAT COUNTS. Prove the row's statement (the work); the ties are given (YtjjfkjpkbpefpaaDoorTie.lean); close each card by the builder's one call (the guide's Derived/Test/ToyasCard.lean, 'card_holds'). Laid BY PROGRAM, IN A SANDBOX (cutbox-door.mjs). By AI agents, Wed Nov 11 2026. No macro, syntax, notation, axiom, sorry.
-/
import Derived.Test.YtjjfkjpkbpefpaaDoorRows
import GoSem.ClaimSeven
namespace Go.Proofs.YtjjfkjpkbpefpaaDoor
namespace Rows

/-- THE TIED CARD OF 'isobarlaw8.WindowFns'. -/
def windowFnsCard : Claim7 := { stood := { row := windowFnsRow, standIns := [], harness := (true, "cf2be198f9ee352a9bd54921d9bbd7cecd51f5dfdb0ce7f48701cf86af61e29c"), looks := false }, kinds := [], alts := [], laidByText := true, laidKinds := [.data, .data], laidTests := true, laidLooks := .later }
def WindowFnsCardSaid : Prop := Claim7.holds Tryd.pinned (.plain (OpenSpec.ofChange windowFnsSpec)) windowFnsCard

/-- THE TIED CARD OF 'isobarlaw8.WindowNames'. -/
def windowNamesCard : Claim7 := { stood := { row := windowNamesRow, standIns := [], harness := (true, "cf2be198f9ee352a9bd54921d9bbd7cecd51f5dfdb0ce7f48701cf86af61e29c"), looks := false }, kinds := [], alts := [], laidByText := true, laidKinds := [.data, .data], laidTests := true, laidLooks := .later }
def WindowNamesCardSaid : Prop := Claim7.holds Tryd.pinned (.plain (OpenSpec.ofChange windowNamesSpec)) windowNamesCard

/-- THE TIED CARD OF 'isobarlaw8.WindowSlides'. -/
def windowSlidesCard : Claim7 := { stood := { row := windowSlidesRow, standIns := [], harness := (true, "cf2be198f9ee352a9bd54921d9bbd7cecd51f5dfdb0ce7f48701cf86af61e29c"), looks := false }, kinds := [], alts := [], laidByText := true, laidKinds := [.data, .data], laidTests := true, laidLooks := .later }
def WindowSlidesCardSaid : Prop := Claim7.holds Tryd.pinned (.plain (OpenSpec.ofChange windowSlidesSpec)) windowSlidesCard

/-- THE TIED CARD OF 'isobarlaw8.WindowParts'. -/
def windowPartsCard : Claim7 := { stood := { row := windowPartsRow, standIns := [], harness := (true, "cf2be198f9ee352a9bd54921d9bbd7cecd51f5dfdb0ce7f48701cf86af61e29c"), looks := false }, kinds := [], alts := [], laidByText := true, laidKinds := [.data, .data], laidTests := true, laidLooks := .later }
def WindowPartsCardSaid : Prop := Claim7.holds Tryd.pinned (.plain (OpenSpec.ofChange windowPartsSpec)) windowPartsCard

/-- THE TIED CARD OF 'isobarlaw8.WindowShifts'. -/
def windowShiftsCard : Claim7 := { stood := { row := windowShiftsRow, standIns := [], harness := (true, "cf2be198f9ee352a9bd54921d9bbd7cecd51f5dfdb0ce7f48701cf86af61e29c"), looks := false }, kinds := [], alts := [], laidByText := true, laidKinds := [.data, .data], laidTests := true, laidLooks := .later }
def WindowShiftsCardSaid : Prop := Claim7.holds Tryd.pinned (.plain (OpenSpec.ofChange windowShiftsSpec)) windowShiftsCard

/-- THE TIED CARD OF 'isobarlaw8.WindowSmall'. -/
def windowSmallCard : Claim7 := { stood := { row := windowSmallRow, standIns := [], harness := (true, "cf2be198f9ee352a9bd54921d9bbd7cecd51f5dfdb0ce7f48701cf86af61e29c"), looks := false }, kinds := [], alts := [], laidByText := true, laidKinds := [.data, .data], laidTests := true, laidLooks := .later }
def WindowSmallCardSaid : Prop := Claim7.holds Tryd.pinned (.plain (OpenSpec.ofChange windowSmallSpec)) windowSmallCard

/-- THE SECOND FORM's CARD OF 'isobarlaw8.WindowFns'. -/
def windowFnsUptoCard : Claim7 := { stood := { row := windowFnsUptoRow, standIns := [], harness := (true, "cf2be198f9ee352a9bd54921d9bbd7cecd51f5dfdb0ce7f48701cf86af61e29c"), looks := false }, kinds := [], alts := [], laidByText := true, laidKinds := [.data, .data], laidTests := true, laidLooks := .later }
def WindowFnsUptoCardSaid : Prop := Claim7.holds Tryd.pinned (.plain (OpenSpec.upto windowFnsSpec)) windowFnsUptoCard

/-- THE SECOND FORM's CARD OF 'isobarlaw8.WindowNames'. -/
def windowNamesUptoCard : Claim7 := { stood := { row := windowNamesUptoRow, standIns := [], harness := (true, "cf2be198f9ee352a9bd54921d9bbd7cecd51f5dfdb0ce7f48701cf86af61e29c"), looks := false }, kinds := [], alts := [], laidByText := true, laidKinds := [.data, .data], laidTests := true, laidLooks := .later }
def WindowNamesUptoCardSaid : Prop := Claim7.holds Tryd.pinned (.plain (OpenSpec.upto windowNamesSpec)) windowNamesUptoCard

/-- THE SECOND FORM's CARD OF 'isobarlaw8.WindowSlides'. -/
def windowSlidesUptoCard : Claim7 := { stood := { row := windowSlidesUptoRow, standIns := [], harness := (true, "cf2be198f9ee352a9bd54921d9bbd7cecd51f5dfdb0ce7f48701cf86af61e29c"), looks := false }, kinds := [], alts := [], laidByText := true, laidKinds := [.data, .data], laidTests := true, laidLooks := .later }
def WindowSlidesUptoCardSaid : Prop := Claim7.holds Tryd.pinned (.plain (OpenSpec.upto windowSlidesSpec)) windowSlidesUptoCard

/-- THE SECOND FORM's CARD OF 'isobarlaw8.WindowParts'. -/
def windowPartsUptoCard : Claim7 := { stood := { row := windowPartsUptoRow, standIns := [], harness := (true, "cf2be198f9ee352a9bd54921d9bbd7cecd51f5dfdb0ce7f48701cf86af61e29c"), looks := false }, kinds := [], alts := [], laidByText := true, laidKinds := [.data, .data], laidTests := true, laidLooks := .later }
def WindowPartsUptoCardSaid : Prop := Claim7.holds Tryd.pinned (.plain (OpenSpec.upto windowPartsSpec)) windowPartsUptoCard

/-- THE SECOND FORM's CARD OF 'isobarlaw8.WindowShifts'. -/
def windowShiftsUptoCard : Claim7 := { stood := { row := windowShiftsUptoRow, standIns := [], harness := (true, "cf2be198f9ee352a9bd54921d9bbd7cecd51f5dfdb0ce7f48701cf86af61e29c"), looks := false }, kinds := [], alts := [], laidByText := true, laidKinds := [.data, .data], laidTests := true, laidLooks := .later }
def WindowShiftsUptoCardSaid : Prop := Claim7.holds Tryd.pinned (.plain (OpenSpec.upto windowShiftsSpec)) windowShiftsUptoCard

/-- THE SECOND FORM's CARD OF 'isobarlaw8.WindowSmall'. -/
def windowSmallUptoCard : Claim7 := { stood := { row := windowSmallUptoRow, standIns := [], harness := (true, "cf2be198f9ee352a9bd54921d9bbd7cecd51f5dfdb0ce7f48701cf86af61e29c"), looks := false }, kinds := [], alts := [], laidByText := true, laidKinds := [.data, .data], laidTests := true, laidLooks := .later }
def WindowSmallUptoCardSaid : Prop := Claim7.holds Tryd.pinned (.plain (OpenSpec.upto windowSmallSpec)) windowSmallUptoCard
end Rows
end Go.Proofs.YtjjfkjpkbpefpaaDoor
