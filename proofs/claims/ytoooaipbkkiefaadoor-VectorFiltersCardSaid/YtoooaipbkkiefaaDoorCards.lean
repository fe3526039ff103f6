/-
  DERIVED. GIVEN WITH THE SEED: THE CARDS: each row of YtoooaipbkkiefaaDoorRows.lean that lists a variable, with what it lists TIED to the program's text (the seventh form; the later family's looks); each row that meets fmt, with fmt's text TOLD by the authors' own Lean function (tested against real Go, not proved from fmt's source: count such statements apart). THE CARD IS WHAT COUNTS. Prove the row's statement (the work); the ties are given (YtoooaipbkkiefaaDoorTie.lean); close each card by the builder's one call (the guide's Derived/Test/ToyasCard.lean, 'card_holds'). Laid BY PROGRAM, IN A SANDBOX (cutbox-door.mjs). By AI agents, Wed Nov 11 2026. No macro, syntax, notation, axiom, sorry.
-/
import Derived.Test.YtoooaipbkkiefaaDoorRows
import GoSem.ClaimSeven
namespace Go.Proofs.YtoooaipbkkiefaaDoor
namespace Rows

/-- THE TIED CARD OF 'isobarlaw9.VectorNormal'. -/
def vectorNormalCard : Claim7 := { stood := { row := vectorNormalRow, standIns := [], harness := (true, "dc142cadbd53a78cf0d986bbb8ff661f4384d329a2ea024bb6b47ce1552a20cb"), looks := false }, kinds := [], alts := [], laidByText := true, laidKinds := [.data, .data], laidTests := true, laidLooks := .later }
def VectorNormalCardSaid : Prop := Claim7.holds Tryd.pinned (.plain (OpenSpec.ofChange vectorNormalSpec)) vectorNormalCard

/-- THE TIED CARD OF 'isobarlaw9.VectorMaps'. -/
def vectorMapsCard : Claim7 := { stood := { row := vectorMapsRow, standIns := [], harness := (true, "dc142cadbd53a78cf0d986bbb8ff661f4384d329a2ea024bb6b47ce1552a20cb"), looks := false }, kinds := [], alts := [], laidByText := true, laidKinds := [.data, .data], laidTests := true, laidLooks := .later }
def VectorMapsCardSaid : Prop := Claim7.holds Tryd.pinned (.plain (OpenSpec.ofChange vectorMapsSpec)) vectorMapsCard

/-- THE TIED CARD OF 'isobarlaw9.VectorFilters'. -/
def vectorFiltersCard : Claim7 := { stood := { row := vectorFiltersRow, standIns := [], harness := (true, "dc142cadbd53a78cf0d986bbb8ff661f4384d329a2ea024bb6b47ce1552a20cb"), looks := false }, kinds := [], alts := [], laidByText := true, laidKinds := [.data, .data], laidTests := true, laidLooks := .later }
def VectorFiltersCardSaid : Prop := Claim7.holds Tryd.pinned (.plain (OpenSpec.ofChange vectorFiltersSpec)) vectorFiltersCard

/-- THE TIED CARD OF 'isobarlaw9.VectorNames'. -/
def vectorNamesCard : Claim7 := { stood := { row := vectorNamesRow, standIns := [], harness := (true, "dc142cadbd53a78cf0d986bbb8ff661f4384d329a2ea024bb6b47ce1552a20cb"), looks := false }, kinds := [], alts := [], laidByText := true, laidKinds := [.data, .data], laidTests := true, laidLooks := .later }
def VectorNamesCardSaid : Prop := Claim7.holds Tryd.pinned (.plain (OpenSpec.ofChange vectorNamesSpec)) vectorNamesCard

/-- THE SECOND FORM's CARD OF 'isobarlaw9.VectorNormal'. -/
def vectorNormalUptoCard : Claim7 := { stood := { row := vectorNormalUptoRow, standIns := [], harness := (true, "dc142cadbd53a78cf0d986bbb8ff661f4384d329a2ea024bb6b47ce1552a20cb"), looks := false }, kinds := [], alts := [], laidByText := true, laidKinds := [.data, .data], laidTests := true, laidLooks := .later }
def VectorNormalUptoCardSaid : Prop := Claim7.holds Tryd.pinned (.plain (OpenSpec.upto vectorNormalSpec)) vectorNormalUptoCard

/-- THE SECOND FORM's CARD OF 'isobarlaw9.VectorMaps'. -/
def vectorMapsUptoCard : Claim7 := { stood := { row := vectorMapsUptoRow, standIns := [], harness := (true, "dc142cadbd53a78cf0d986bbb8ff661f4384d329a2ea024bb6b47ce1552a20cb"), looks := false }, kinds := [], alts := [], laidByText := true, laidKinds := [.data, .data], laidTests := true, laidLooks := .later }
def VectorMapsUptoCardSaid : Prop := Claim7.holds Tryd.pinned (.plain (OpenSpec.upto vectorMapsSpec)) vectorMapsUptoCard

/-- THE SECOND FORM's CARD OF 'isobarlaw9.VectorFilters'. -/
def vectorFiltersUptoCard : Claim7 := { stood := { row := vectorFiltersUptoRow, standIns := [], harness := (true, "dc142cadbd53a78cf0d986bbb8ff661f4384d329a2ea024bb6b47ce1552a20cb"), looks := false }, kinds := [], alts := [], laidByText := true, laidKinds := [.data, .data], laidTests := true, laidLooks := .later }
def VectorFiltersUptoCardSaid : Prop := Claim7.holds Tryd.pinned (.plain (OpenSpec.upto vectorFiltersSpec)) vectorFiltersUptoCard

/-- THE SECOND FORM's CARD OF 'isobarlaw9.VectorNames'. -/
def vectorNamesUptoCard : Claim7 := { stood := { row := vectorNamesUptoRow, standIns := [], harness := (true, "dc142cadbd53a78cf0d986bbb8ff661f4384d329a2ea024bb6b47ce1552a20cb"), looks := false }, kinds := [], alts := [], laidByText := true, laidKinds := [.data, .data], laidTests := true, laidLooks := .later }
def VectorNamesUptoCardSaid : Prop := Claim7.holds Tryd.pinned (.plain (OpenSpec.upto vectorNamesSpec)) vectorNamesUptoCard
end Rows
end Go.Proofs.YtoooaipbkkiefaaDoor
