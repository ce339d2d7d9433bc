/-
  DERIVED. GIVEN WITH THE SEED: THE CARDS: each row of YtlgodcbffimcoaaDoorRows.lean that lists a variable, with what it lists TIED to the program's text (the seventh form; the later family's looks); each row that meets fmt, with fmt's text TOLD by the authors' own Lean function (tested against real Go, not proved from fmt's source: count such statements apart). THE CARD IS WHAT COUNTS. Prove the row's statement (the work); the ties are given (YtlgodcbffimcoaaDoorTie.lean); close each card by the builder's one call (the guide's Derived/Test/ToyasCard.lean, 'card_holds'). Laid BY PROGRAM, IN A SANDBOX (cutbox-door.mjs). By AI agents, Wed Nov 11 2026. No macro, syntax, notation, axiom, sorry.
-/
import Derived.Test.YtlgodcbffimcoaaDoorRows
import GoSem.ClaimSeven
namespace Go.Proofs.YtlgodcbffimcoaaDoor
namespace Rows

/-- THE TIED CARD OF 'hornbooklaw08.PluralReads'. -/
def pluralReadsCard : Claim7 := { stood := { row := pluralReadsRow, standIns := [], harness := (true, "81e0ed879bd4314bb3c2c086aaa5e1ca13e3a8876d5253873eb07801378264fe"), looks := false }, kinds := [], alts := [], laidByText := true, laidKinds := [.data, .data, .data], laidTests := true, laidLooks := .later }
def PluralReadsCardSaid : Prop := Claim7.holds Tryd.pinned (.plain (OpenSpec.ofChange pluralReadsSpec)) pluralReadsCard

/-- THE TIED CARD OF 'hornbooklaw08.PluralPrints'. -/
def pluralPrintsCard : Claim7 := { stood := { row := pluralPrintsRow, standIns := [], harness := (true, "81e0ed879bd4314bb3c2c086aaa5e1ca13e3a8876d5253873eb07801378264fe"), looks := false }, kinds := [], alts := [], laidByText := true, laidKinds := [.data, .data, .data], laidTests := true, laidLooks := .later }
def PluralPrintsCardSaid : Prop := Claim7.holds Tryd.pinned (.plain (OpenSpec.ofChange pluralPrintsSpec)) pluralPrintsCard

/-- THE TIED CARD OF 'hornbooklaw08.PluralHolds'. -/
def pluralHoldsCard : Claim7 := { stood := { row := pluralHoldsRow, standIns := [], harness := (true, "81e0ed879bd4314bb3c2c086aaa5e1ca13e3a8876d5253873eb07801378264fe"), looks := false }, kinds := [], alts := [], laidByText := true, laidKinds := [.data, .data, .data], laidTests := true, laidLooks := .later }
def PluralHoldsCardSaid : Prop := Claim7.holds Tryd.pinned (.plain (OpenSpec.ofChange pluralHoldsSpec)) pluralHoldsCard

/-- THE TIED CARD OF 'hornbooklaw08.PluralTells'. -/
def pluralTellsCard : Claim7 := { stood := { row := pluralTellsRow, standIns := [], harness := (true, "81e0ed879bd4314bb3c2c086aaa5e1ca13e3a8876d5253873eb07801378264fe"), looks := false }, kinds := [], alts := [], laidByText := true, laidKinds := [.data, .data, .data], laidTests := true, laidLooks := .later }
def PluralTellsCardSaid : Prop := Claim7.holds Tryd.pinned (.plain (OpenSpec.ofChange pluralTellsSpec)) pluralTellsCard

/-- THE TIED CARD OF 'hornbooklaw08.PluralBack'. -/
def pluralBackCard : Claim7 := { stood := { row := pluralBackRow, standIns := [], harness := (true, "81e0ed879bd4314bb3c2c086aaa5e1ca13e3a8876d5253873eb07801378264fe"), looks := false }, kinds := [], alts := [], laidByText := true, laidKinds := [.data, .data, .data], laidTests := true, laidLooks := .later }
def PluralBackCardSaid : Prop := Claim7.holds Tryd.pinned (.plain (OpenSpec.ofChange pluralBackSpec)) pluralBackCard

/-- THE TIED CARD OF 'hornbooklaw08.PluralTables'. -/
def pluralTablesCard : Claim7 := { stood := { row := pluralTablesRow, standIns := [], harness := (true, "81e0ed879bd4314bb3c2c086aaa5e1ca13e3a8876d5253873eb07801378264fe"), looks := false }, kinds := [], alts := [], laidByText := true, laidKinds := [.data, .data, .data], laidTests := true, laidLooks := .later }
def PluralTablesCardSaid : Prop := Claim7.holds Tryd.pinned (.plain (OpenSpec.ofChange pluralTablesSpec)) pluralTablesCard

/-- THE SECOND FORM's CARD OF 'hornbooklaw08.PluralReads'. -/
def pluralReadsUptoCard : Claim7 := { stood := { row := pluralReadsUptoRow, standIns := [], harness := (true, "81e0ed879bd4314bb3c2c086aaa5e1ca13e3a8876d5253873eb07801378264fe"), looks := false }, kinds := [], alts := [], laidByText := true, laidKinds := [.data, .data, .data], laidTests := true, laidLooks := .later }
def PluralReadsUptoCardSaid : Prop := Claim7.holds Tryd.pinned (.plain (OpenSpec.upto pluralReadsSpec)) pluralReadsUptoCard

/-- THE SECOND FORM's CARD OF 'hornbooklaw08.PluralPrints'. -/
def pluralPrintsUptoCard : Claim7 := { stood := { row := pluralPrintsUptoRow, standIns := [], harness := (true, "81e0ed879bd4314bb3c2c086aaa5e1ca13e3a8876d5253873eb07801378264fe"), looks := false }, kinds := [], alts := [], laidByText := true, laidKinds := [.data, .data, .data], laidTests := true, laidLooks := .later }
def PluralPrintsUptoCardSaid : Prop := Claim7.holds Tryd.pinned (.plain (OpenSpec.upto pluralPrintsSpec)) pluralPrintsUptoCard

/-- THE SECOND FORM's CARD OF 'hornbooklaw08.PluralHolds'. -/
def pluralHoldsUptoCard : Claim7 := { stood := { row := pluralHoldsUptoRow, standIns := [], harness := (true, "81e0ed879bd4314bb3c2c086aaa5e1ca13e3a8876d5253873eb07801378264fe"), looks := false }, kinds := [], alts := [], laidByText := true, laidKinds := [.data, .data, .data], laidTests := true, laidLooks := .later }
def PluralHoldsUptoCardSaid : Prop := Claim7.holds Tryd.pinned (.plain (OpenSpec.upto pluralHoldsSpec)) pluralHoldsUptoCard

/-- THE SECOND FORM's CARD OF 'hornbooklaw08.PluralTells'. -/
def pluralTellsUptoCard : Claim7 := { stood := { row := pluralTellsUptoRow, standIns := [], harness := (true, "81e0ed879bd4314bb3c2c086aaa5e1ca13e3a8876d5253873eb07801378264fe"), looks := false }, kinds := [], alts := [], laidByText := true, laidKinds := [.data, .data, .data], laidTests := true, laidLooks := .later }
def PluralTellsUptoCardSaid : Prop := Claim7.holds Tryd.pinned (.plain (OpenSpec.upto pluralTellsSpec)) pluralTellsUptoCard

/-- THE SECOND FORM's CARD OF 'hornbooklaw08.PluralBack'. -/
def pluralBackUptoCard : Claim7 := { stood := { row := pluralBackUptoRow, standIns := [], harness := (true, "81e0ed879bd4314bb3c2c086aaa5e1ca13e3a8876d5253873eb07801378264fe"), looks := false }, kinds := [], alts := [], laidByText := true, laidKinds := [.data, .data, .data], laidTests := true, laidLooks := .later }
def PluralBackUptoCardSaid : Prop := Claim7.holds Tryd.pinned (.plain (OpenSpec.upto pluralBackSpec)) pluralBackUptoCard

/-- THE SECOND FORM's CARD OF 'hornbooklaw08.PluralTables'. -/
def pluralTablesUptoCard : Claim7 := { stood := { row := pluralTablesUptoRow, standIns := [], harness := (true, "81e0ed879bd4314bb3c2c086aaa5e1ca13e3a8876d5253873eb07801378264fe"), looks := false }, kinds := [], alts := [], laidByText := true, laidKinds := [.data, .data, .data], laidTests := true, laidLooks := .later }
def PluralTablesUptoCardSaid : Prop := Claim7.holds Tryd.pinned (.plain (OpenSpec.upto pluralTablesSpec)) pluralTablesUptoCard
end Rows
end Go.Proofs.YtlgodcbffimcoaaDoor
