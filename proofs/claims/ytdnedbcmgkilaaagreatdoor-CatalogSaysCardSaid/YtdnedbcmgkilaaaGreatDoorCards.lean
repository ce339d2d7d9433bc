/-
  DERIVED. GIVEN WITH THE SEED: THE CARDS: each row of YtdnedbcmgkilaaaGreatDoorRows.lean that lists a variable, with what it lists TIED to the program's text (the seventh form; the later family's looks); each row that meets fmt, with fmt's text TOLD by the authors' own Lean function (tested against real Go, not proved from fmt's source: count such statements apart). THE CARD IS WHAT COUNTS. Prove the row's statement (the work); the ties are given (YtdnedbcmgkilaaaGreatDoorTie.lean); close each card by the builder's one call (the guide's Derived/Test/ToyasCard.lean, 'card_holds'). Laid BY PROGRAM, IN A SANDBOX (cutbox-door.mjs). By AI agents, Wed Nov 11 2026. No macro, syntax, notation, axiom, sorry.
-/
import Derived.Test.YtdnedbcmgkilaaaGreatDoorRows
import GoSem.ClaimSeven
namespace Go.Proofs.YtdnedbcmgkilaaaGreatDoor
namespace Rows

/-- THE TIED CARD OF 'hornbooklaw11.CatalogApplies'. -/
def catalogAppliesCard : Claim7 := { stood := { row := catalogAppliesRow, standIns := [], harness := (true, "c6de902049f4df0746a9cc34c712b4e6b603f802dd59d8c2e41876b5e14d0067"), looks := true }, kinds := [], alts := [], laidByText := true, laidKinds := [.data, .data, .data, .data, .sentinel, .sentinel, .pinned], laidTests := true, laidLooks := .later }
def CatalogAppliesCardSaid : Prop := Claim7.holds Tryz.pinned (.plain (OpenSpec.ofChange catalogAppliesSpec)) catalogAppliesCard

/-- THE TIED CARD OF 'hornbooklaw11.CatalogBytes'. -/
def catalogBytesCard : Claim7 := { stood := { row := catalogBytesRow, standIns := [], harness := (true, "c6de902049f4df0746a9cc34c712b4e6b603f802dd59d8c2e41876b5e14d0067"), looks := true }, kinds := [], alts := [], laidByText := true, laidKinds := [.data, .data, .data, .data, .sentinel, .sentinel, .pinned], laidTests := true, laidLooks := .later }
def CatalogBytesCardSaid : Prop := Claim7.holds Tryz.pinned (.plain (OpenSpec.ofChange catalogBytesSpec)) catalogBytesCard

/-- THE TIED CARD OF 'hornbooklaw11.CatalogSays'. -/
def catalogSaysCard : Claim7 := { stood := { row := catalogSaysRow, standIns := [], harness := (true, "c6de902049f4df0746a9cc34c712b4e6b603f802dd59d8c2e41876b5e14d0067"), looks := true }, kinds := [], alts := [], laidByText := true, laidKinds := [.data, .data, .data, .data, .sentinel, .sentinel, .pinned], laidTests := true, laidLooks := .later }
def CatalogSaysCardSaid : Prop := Claim7.holds Tryz.pinned (.plain (OpenSpec.ofChange catalogSaysSpec)) catalogSaysCard

/-- THE TIED CARD OF 'hornbooklaw11.CatalogBack'. -/
def catalogBackCard : Claim7 := { stood := { row := catalogBackRow, standIns := [], harness := (true, "c6de902049f4df0746a9cc34c712b4e6b603f802dd59d8c2e41876b5e14d0067"), looks := true }, kinds := [], alts := [], laidByText := true, laidKinds := [.data, .data, .data, .data, .sentinel, .sentinel, .pinned], laidTests := true, laidLooks := .later }
def CatalogBackCardSaid : Prop := Claim7.holds Tryz.pinned (.plain (OpenSpec.ofChange catalogBackSpec)) catalogBackCard

/-- THE TIED CARD OF 'hornbooklaw11.CatalogSteps'. -/
def catalogStepsCard : Claim7 := { stood := { row := catalogStepsRow, standIns := [], harness := (true, "c6de902049f4df0746a9cc34c712b4e6b603f802dd59d8c2e41876b5e14d0067"), looks := true }, kinds := [], alts := [], laidByText := true, laidKinds := [.data, .data, .data, .data, .sentinel, .sentinel, .pinned], laidTests := true, laidLooks := .later }
def CatalogStepsCardSaid : Prop := Claim7.holds Tryz.pinned (.plain (OpenSpec.ofChange catalogStepsSpec)) catalogStepsCard

/-- THE TIED CARD OF 'hornbooklaw11.CatalogPuts'. -/
def catalogPutsCard : Claim7 := { stood := { row := catalogPutsRow, standIns := [], harness := (true, "c6de902049f4df0746a9cc34c712b4e6b603f802dd59d8c2e41876b5e14d0067"), looks := true }, kinds := [], alts := [], laidByText := true, laidKinds := [.data, .data, .data, .data, .sentinel, .sentinel, .pinned], laidTests := true, laidLooks := .later }
def CatalogPutsCardSaid : Prop := Claim7.holds Tryz.pinned (.plain (OpenSpec.ofChange catalogPutsSpec)) catalogPutsCard

/-- THE SECOND FORM's CARD OF 'hornbooklaw11.CatalogApplies'. -/
def catalogAppliesUptoCard : Claim7 := { stood := { row := catalogAppliesUptoRow, standIns := [], harness := (true, "c6de902049f4df0746a9cc34c712b4e6b603f802dd59d8c2e41876b5e14d0067"), looks := true }, kinds := [], alts := [], laidByText := true, laidKinds := [.data, .data, .data, .data, .sentinel, .sentinel, .pinned], laidTests := true, laidLooks := .later }
def CatalogAppliesUptoCardSaid : Prop := Claim7.holds Tryz.pinned (.plain (OpenSpec.upto catalogAppliesSpec)) catalogAppliesUptoCard

/-- THE SECOND FORM's CARD OF 'hornbooklaw11.CatalogBytes'. -/
def catalogBytesUptoCard : Claim7 := { stood := { row := catalogBytesUptoRow, standIns := [], harness := (true, "c6de902049f4df0746a9cc34c712b4e6b603f802dd59d8c2e41876b5e14d0067"), looks := true }, kinds := [], alts := [], laidByText := true, laidKinds := [.data, .data, .data, .data, .sentinel, .sentinel, .pinned], laidTests := true, laidLooks := .later }
def CatalogBytesUptoCardSaid : Prop := Claim7.holds Tryz.pinned (.plain (OpenSpec.upto catalogBytesSpec)) catalogBytesUptoCard

/-- THE SECOND FORM's CARD OF 'hornbooklaw11.CatalogSays'. -/
def catalogSaysUptoCard : Claim7 := { stood := { row := catalogSaysUptoRow, standIns := [], harness := (true, "c6de902049f4df0746a9cc34c712b4e6b603f802dd59d8c2e41876b5e14d0067"), looks := true }, kinds := [], alts := [], laidByText := true, laidKinds := [.data, .data, .data, .data, .sentinel, .sentinel, .pinned], laidTests := true, laidLooks := .later }
def CatalogSaysUptoCardSaid : Prop := Claim7.holds Tryz.pinned (.plain (OpenSpec.upto catalogSaysSpec)) catalogSaysUptoCard

/-- THE SECOND FORM's CARD OF 'hornbooklaw11.CatalogBack'. -/
def catalogBackUptoCard : Claim7 := { stood := { row := catalogBackUptoRow, standIns := [], harness := (true, "c6de902049f4df0746a9cc34c712b4e6b603f802dd59d8c2e41876b5e14d0067"), looks := true }, kinds := [], alts := [], laidByText := true, laidKinds := [.data, .data, .data, .data, .sentinel, .sentinel, .pinned], laidTests := true, laidLooks := .later }
def CatalogBackUptoCardSaid : Prop := Claim7.holds Tryz.pinned (.plain (OpenSpec.upto catalogBackSpec)) catalogBackUptoCard

/-- THE SECOND FORM's CARD OF 'hornbooklaw11.CatalogSteps'. -/
def catalogStepsUptoCard : Claim7 := { stood := { row := catalogStepsUptoRow, standIns := [], harness := (true, "c6de902049f4df0746a9cc34c712b4e6b603f802dd59d8c2e41876b5e14d0067"), looks := true }, kinds := [], alts := [], laidByText := true, laidKinds := [.data, .data, .data, .data, .sentinel, .sentinel, .pinned], laidTests := true, laidLooks := .later }
def CatalogStepsUptoCardSaid : Prop := Claim7.holds Tryz.pinned (.plain (OpenSpec.upto catalogStepsSpec)) catalogStepsUptoCard

/-- THE SECOND FORM's CARD OF 'hornbooklaw11.CatalogPuts'. -/
def catalogPutsUptoCard : Claim7 := { stood := { row := catalogPutsUptoRow, standIns := [], harness := (true, "c6de902049f4df0746a9cc34c712b4e6b603f802dd59d8c2e41876b5e14d0067"), looks := true }, kinds := [], alts := [], laidByText := true, laidKinds := [.data, .data, .data, .data, .sentinel, .sentinel, .pinned], laidTests := true, laidLooks := .later }
def CatalogPutsUptoCardSaid : Prop := Claim7.holds Tryz.pinned (.plain (OpenSpec.upto catalogPutsSpec)) catalogPutsUptoCard
end Rows
end Go.Proofs.YtdnedbcmgkilaaaGreatDoor
