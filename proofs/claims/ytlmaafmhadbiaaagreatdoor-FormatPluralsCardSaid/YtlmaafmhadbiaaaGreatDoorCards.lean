/-
  DERIVED. GIVEN WITH THE SEED: THE CARDS: each row of YtlmaafmhadbiaaaGreatDoorRows.lean that lists a variable, with what it lists TIED to the program's text (the seventh form; the later family's looks); each row that meets fmt, with fmt's text TOLD by the authors' own Lean function (tested against real Go, not proved from fmt's source: count such statements apart). THE CARD IS WHAT COUNTS. Prove the row's statement (the work); the ties are given (YtlmaafmhadbiaaaGreatDoorTie.lean); close each card by the builder's one call (the guide's Derived/Test/ToyasCard.lean, 'card_holds'). Laid BY PROGRAM, IN A SANDBOX (cutbox-door.mjs). By AI agents, Wed Nov 11 2026. No macro, syntax, notation, axiom, sorry.
-/
import Derived.Test.YtlmaafmhadbiaaaGreatDoorRows
import GoSem.ClaimSeven
namespace Go.Proofs.YtlmaafmhadbiaaaGreatDoor
namespace Rows

/-- THE TIED CARD OF 'hornbooklaw10.FormatPlain'. -/
def formatPlainCard : Claim7 := { stood := { row := formatPlainRow, standIns := [], harness := (true, "564824501bd0ff7a4bd0762b59e70a338e1957ea720b8306e4a7cca04a1ffcad"), looks := true }, kinds := [], alts := [], laidByText := true, laidKinds := [.data, .data, .data, .data, .sentinel, .sentinel, .pinned], laidTests := true, laidLooks := .later }
def FormatPlainCardSaid : Prop := Claim7.holds Tryz.pinned (.plain (OpenSpec.ofChange formatPlainSpec)) formatPlainCard

/-- THE TIED CARD OF 'hornbooklaw10.FormatPlurals'. -/
def formatPluralsCard : Claim7 := { stood := { row := formatPluralsRow, standIns := [], harness := (true, "564824501bd0ff7a4bd0762b59e70a338e1957ea720b8306e4a7cca04a1ffcad"), looks := true }, kinds := [], alts := [], laidByText := true, laidKinds := [.data, .data, .data, .data, .sentinel, .sentinel, .pinned], laidTests := true, laidLooks := .later }
def FormatPluralsCardSaid : Prop := Claim7.holds Tryz.pinned (.plain (OpenSpec.ofChange formatPluralsSpec)) formatPluralsCard

/-- THE SECOND FORM's CARD OF 'hornbooklaw10.FormatPlain'. -/
def formatPlainUptoCard : Claim7 := { stood := { row := formatPlainUptoRow, standIns := [], harness := (true, "564824501bd0ff7a4bd0762b59e70a338e1957ea720b8306e4a7cca04a1ffcad"), looks := true }, kinds := [], alts := [], laidByText := true, laidKinds := [.data, .data, .data, .data, .sentinel, .sentinel, .pinned], laidTests := true, laidLooks := .later }
def FormatPlainUptoCardSaid : Prop := Claim7.holds Tryz.pinned (.plain (OpenSpec.upto formatPlainSpec)) formatPlainUptoCard

/-- THE SECOND FORM's CARD OF 'hornbooklaw10.FormatPlurals'. -/
def formatPluralsUptoCard : Claim7 := { stood := { row := formatPluralsUptoRow, standIns := [], harness := (true, "564824501bd0ff7a4bd0762b59e70a338e1957ea720b8306e4a7cca04a1ffcad"), looks := true }, kinds := [], alts := [], laidByText := true, laidKinds := [.data, .data, .data, .data, .sentinel, .sentinel, .pinned], laidTests := true, laidLooks := .later }
def FormatPluralsUptoCardSaid : Prop := Claim7.holds Tryz.pinned (.plain (OpenSpec.upto formatPluralsSpec)) formatPluralsUptoCard
end Rows
end Go.Proofs.YtlmaafmhadbiaaaGreatDoor
