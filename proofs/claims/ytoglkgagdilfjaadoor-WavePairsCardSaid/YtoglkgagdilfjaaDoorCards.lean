/-
  DERIVED. GIVEN WITH THE SEED: THE CARDS: each row of YtoglkgagdilfjaaDoorRows.lean that lists a variable, with what it lists TIED to the program's text (the seventh form; the later family's looks); each row that meets fmt, with fmt's text TOLD by the authors' own Lean function (tested against real Go, not proved from fmt's source: count such statements apart). THE CARD IS WHAT COUNTS. Prove the row's statement (the work); the ties are given (YtoglkgagdilfjaaDoorTie.lean); close each card by the builder's one call (the guide's Derived/Test/ToyasCard.lean, 'card_holds'). Laid BY PROGRAM, IN A SANDBOX (cutbox-door.mjs). By AI agents, Wed Nov 11 2026. No macro, syntax, notation, axiom, sorry.
-/
import Derived.Test.YtoglkgagdilfjaaDoorRows
import GoSem.ClaimSeven
namespace Go.Proofs.YtoglkgagdilfjaaDoor
namespace Rows

/-- THE TIED CARD OF 'isobarlaw7.WavePairs'. -/
def wavePairsCard : Claim7 := { stood := { row := wavePairsRow, standIns := [], harness := (true, "3d786ada62f47a30748f38c245dc76bd63eec85f00ab5401d077df64906aa587"), looks := false }, kinds := [], alts := [], laidByText := true, laidKinds := [.data], laidTests := true, laidLooks := .later }
def WavePairsCardSaid : Prop := Claim7.holds Tryd.pinned (.plain (OpenSpec.ofChange wavePairsSpec)) wavePairsCard

/-- THE TIED CARD OF 'isobarlaw7.WaveSums'. -/
def waveSumsCard : Claim7 := { stood := { row := waveSumsRow, standIns := [], harness := (true, "3d786ada62f47a30748f38c245dc76bd63eec85f00ab5401d077df64906aa587"), looks := false }, kinds := [], alts := [], laidByText := true, laidKinds := [.data], laidTests := true, laidLooks := .later }
def WaveSumsCardSaid : Prop := Claim7.holds Tryd.pinned (.plain (OpenSpec.ofChange waveSumsSpec)) waveSumsCard

/-- THE TIED CARD OF 'isobarlaw7.WaveTurns'. -/
def waveTurnsCard : Claim7 := { stood := { row := waveTurnsRow, standIns := [], harness := (true, "3d786ada62f47a30748f38c245dc76bd63eec85f00ab5401d077df64906aa587"), looks := false }, kinds := [], alts := [], laidByText := true, laidKinds := [.data], laidTests := true, laidLooks := .later }
def WaveTurnsCardSaid : Prop := Claim7.holds Tryd.pinned (.plain (OpenSpec.ofChange waveTurnsSpec)) waveTurnsCard

/-- THE TIED CARD OF 'isobarlaw7.WaveWhole'. -/
def waveWholeCard : Claim7 := { stood := { row := waveWholeRow, standIns := [], harness := (true, "3d786ada62f47a30748f38c245dc76bd63eec85f00ab5401d077df64906aa587"), looks := false }, kinds := [], alts := [], laidByText := true, laidKinds := [.data], laidTests := true, laidLooks := .later }
def WaveWholeCardSaid : Prop := Claim7.holds Tryd.pinned (.plain (OpenSpec.ofChange waveWholeSpec)) waveWholeCard

/-- THE SECOND FORM's CARD OF 'isobarlaw7.WavePairs'. -/
def wavePairsUptoCard : Claim7 := { stood := { row := wavePairsUptoRow, standIns := [], harness := (true, "3d786ada62f47a30748f38c245dc76bd63eec85f00ab5401d077df64906aa587"), looks := false }, kinds := [], alts := [], laidByText := true, laidKinds := [.data], laidTests := true, laidLooks := .later }
def WavePairsUptoCardSaid : Prop := Claim7.holds Tryd.pinned (.plain (OpenSpec.upto wavePairsSpec)) wavePairsUptoCard

/-- THE SECOND FORM's CARD OF 'isobarlaw7.WaveSums'. -/
def waveSumsUptoCard : Claim7 := { stood := { row := waveSumsUptoRow, standIns := [], harness := (true, "3d786ada62f47a30748f38c245dc76bd63eec85f00ab5401d077df64906aa587"), looks := false }, kinds := [], alts := [], laidByText := true, laidKinds := [.data], laidTests := true, laidLooks := .later }
def WaveSumsUptoCardSaid : Prop := Claim7.holds Tryd.pinned (.plain (OpenSpec.upto waveSumsSpec)) waveSumsUptoCard

/-- THE SECOND FORM's CARD OF 'isobarlaw7.WaveTurns'. -/
def waveTurnsUptoCard : Claim7 := { stood := { row := waveTurnsUptoRow, standIns := [], harness := (true, "3d786ada62f47a30748f38c245dc76bd63eec85f00ab5401d077df64906aa587"), looks := false }, kinds := [], alts := [], laidByText := true, laidKinds := [.data], laidTests := true, laidLooks := .later }
def WaveTurnsUptoCardSaid : Prop := Claim7.holds Tryd.pinned (.plain (OpenSpec.upto waveTurnsSpec)) waveTurnsUptoCard

/-- THE SECOND FORM's CARD OF 'isobarlaw7.WaveWhole'. -/
def waveWholeUptoCard : Claim7 := { stood := { row := waveWholeUptoRow, standIns := [], harness := (true, "3d786ada62f47a30748f38c245dc76bd63eec85f00ab5401d077df64906aa587"), looks := false }, kinds := [], alts := [], laidByText := true, laidKinds := [.data], laidTests := true, laidLooks := .later }
def WaveWholeUptoCardSaid : Prop := Claim7.holds Tryd.pinned (.plain (OpenSpec.upto waveWholeSpec)) waveWholeUptoCard
end Rows
end Go.Proofs.YtoglkgagdilfjaaDoor
