/-
  DERIVED. GIVEN WITH THE SEED: THE CARDS: each row of YtapnieogfddjkaaDoorRows.lean that lists a variable, with what it lists TIED to the program's text (the seventh form; the later family's looks); each row that meets fmt, with fmt's text TOLD by the authors' own Lean function (tested against real Go, not proved from fmt's source: count such statements apart). THE CARD IS WHAT COUNTS. Prove the row's statement (the work); the ties are given (YtapnieogfddjkaaDoorTie.lean); close each card by the builder's one call (the guide's Derived/Test/ToyasCard.lean, 'card_holds'). Laid BY PROGRAM, IN A SANDBOX (cutbox-door.mjs). By AI agents, Wed Nov 11 2026. No macro, syntax, notation, axiom, sorry.
-/
import Derived.Test.YtapnieogfddjkaaDoorRows
import GoSem.ClaimSeven
namespace Go.Proofs.YtapnieogfddjkaaDoor
namespace Rows

/-- THE TIED CARD OF 'hornbooklaw09.PatternReads'. -/
def patternReadsCard : Claim7 := { stood := { row := patternReadsRow, standIns := [], harness := (true, "380a48f1fc61677142f8dec6479a0721c7fedb522c1d7dcb03ef46ea83380fe5"), looks := true }, kinds := [], alts := [], laidByText := true, laidKinds := [.data, .data, .data, .sentinel, .sentinel], laidTests := true, laidLooks := .later }
def PatternReadsCardSaid : Prop := Claim7.holds Tryd.pinned (.plain (OpenSpec.ofChange patternReadsSpec)) patternReadsCard

/-- THE TIED CARD OF 'hornbooklaw09.PatternOnce'. -/
def patternOnceCard : Claim7 := { stood := { row := patternOnceRow, standIns := [], harness := (true, "380a48f1fc61677142f8dec6479a0721c7fedb522c1d7dcb03ef46ea83380fe5"), looks := true }, kinds := [], alts := [], laidByText := true, laidKinds := [.data, .data, .data, .sentinel, .sentinel], laidTests := true, laidLooks := .later }
def PatternOnceCardSaid : Prop := Claim7.holds Tryd.pinned (.plain (OpenSpec.ofChange patternOnceSpec)) patternOnceCard

/-- THE TIED CARD OF 'hornbooklaw09.PatternPlaces'. -/
def patternPlacesCard : Claim7 := { stood := { row := patternPlacesRow, standIns := [], harness := (true, "380a48f1fc61677142f8dec6479a0721c7fedb522c1d7dcb03ef46ea83380fe5"), looks := true }, kinds := [], alts := [], laidByText := true, laidKinds := [.data, .data, .data, .sentinel, .sentinel], laidTests := true, laidLooks := .later }
def PatternPlacesCardSaid : Prop := Claim7.holds Tryd.pinned (.plain (OpenSpec.ofChange patternPlacesSpec)) patternPlacesCard

/-- THE SECOND FORM's CARD OF 'hornbooklaw09.PatternReads'. -/
def patternReadsUptoCard : Claim7 := { stood := { row := patternReadsUptoRow, standIns := [], harness := (true, "380a48f1fc61677142f8dec6479a0721c7fedb522c1d7dcb03ef46ea83380fe5"), looks := true }, kinds := [], alts := [], laidByText := true, laidKinds := [.data, .data, .data, .sentinel, .sentinel], laidTests := true, laidLooks := .later }
def PatternReadsUptoCardSaid : Prop := Claim7.holds Tryd.pinned (.plain (OpenSpec.upto patternReadsSpec)) patternReadsUptoCard

/-- THE SECOND FORM's CARD OF 'hornbooklaw09.PatternOnce'. -/
def patternOnceUptoCard : Claim7 := { stood := { row := patternOnceUptoRow, standIns := [], harness := (true, "380a48f1fc61677142f8dec6479a0721c7fedb522c1d7dcb03ef46ea83380fe5"), looks := true }, kinds := [], alts := [], laidByText := true, laidKinds := [.data, .data, .data, .sentinel, .sentinel], laidTests := true, laidLooks := .later }
def PatternOnceUptoCardSaid : Prop := Claim7.holds Tryd.pinned (.plain (OpenSpec.upto patternOnceSpec)) patternOnceUptoCard

/-- THE SECOND FORM's CARD OF 'hornbooklaw09.PatternPlaces'. -/
def patternPlacesUptoCard : Claim7 := { stood := { row := patternPlacesUptoRow, standIns := [], harness := (true, "380a48f1fc61677142f8dec6479a0721c7fedb522c1d7dcb03ef46ea83380fe5"), looks := true }, kinds := [], alts := [], laidByText := true, laidKinds := [.data, .data, .data, .sentinel, .sentinel], laidTests := true, laidLooks := .later }
def PatternPlacesUptoCardSaid : Prop := Claim7.holds Tryd.pinned (.plain (OpenSpec.upto patternPlacesSpec)) patternPlacesUptoCard
end Rows
end Go.Proofs.YtapnieogfddjkaaDoor
