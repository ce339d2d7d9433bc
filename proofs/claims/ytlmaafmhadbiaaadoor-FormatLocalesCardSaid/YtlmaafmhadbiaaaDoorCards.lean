/-
  DERIVED. GIVEN WITH THE SEED: THE CARDS: each row of YtlmaafmhadbiaaaDoorRows.lean that lists a variable, with what it lists TIED to the program's text (the seventh form; the later family's looks); each row that meets fmt, with fmt's text TOLD by the authors' own Lean function (tested against real Go, not proved from fmt's source: count such statements apart). THE CARD IS WHAT COUNTS. Prove the row's statement (the work); the ties are given (YtlmaafmhadbiaaaDoorTie.lean); close each card by the builder's one call (the guide's Derived/Test/ToyasCard.lean, 'card_holds'). Laid BY PROGRAM, IN A SANDBOX (cutbox-door.mjs). By AI agents, Wed Nov 11 2026. No macro, syntax, notation, axiom, sorry.
-/
import Derived.Test.YtlmaafmhadbiaaaDoorRows
import GoSem.ClaimSeven
namespace Go.Proofs.YtlmaafmhadbiaaaDoor
namespace Rows

/-- THE TIED CARD OF 'hornbooklaw10.FormatLocales'. -/
def formatLocalesCard : Claim7 := { stood := { row := formatLocalesRow, standIns := [], harness := (true, "f38c29a852bf43d00d6ce12bf13cc8a79168e9f1566ad757393e2ef1c448817e"), looks := false }, kinds := [], alts := [], laidByText := true, laidKinds := [.data, .pinned], laidTests := true, laidLooks := .later }
def FormatLocalesCardSaid : Prop := Claim7.holds Tryd.pinned (.plain (OpenSpec.ofChange formatLocalesSpec)) formatLocalesCard

/-- THE SECOND FORM's CARD OF 'hornbooklaw10.FormatLocales'. -/
def formatLocalesUptoCard : Claim7 := { stood := { row := formatLocalesUptoRow, standIns := [], harness := (true, "f38c29a852bf43d00d6ce12bf13cc8a79168e9f1566ad757393e2ef1c448817e"), looks := false }, kinds := [], alts := [], laidByText := true, laidKinds := [.data, .pinned], laidTests := true, laidLooks := .later }
def FormatLocalesUptoCardSaid : Prop := Claim7.holds Tryd.pinned (.plain (OpenSpec.upto formatLocalesSpec)) formatLocalesUptoCard
end Rows
end Go.Proofs.YtlmaafmhadbiaaaDoor
