/-
  DERIVED. GIVEN WITH THE SEED: THE CARDS: each row of YtdkkkeoicekdgaaGreatDoorRows.lean that lists a variable, with what it lists TIED to the program's text (the seventh form; the later family's looks); each row that meets fmt, with fmt's text TOLD by the authors' own Lean function (tested against real Go, not proved from fmt's source: count such statements apart). THE CARD IS WHAT COUNTS. Prove the row's statement (the work); the ties are given (YtdkkkeoicekdgaaGreatDoorTie.lean); close each card by the builder's one call (the guide's Derived/Test/ToyasCard.lean, 'card_holds'). Laid BY PROGRAM, IN A SANDBOX (cutbox-door.mjs). By AI agents, Wed Nov 11 2026. No macro, syntax, notation, axiom, sorry.
-/
import Derived.Test.YtdkkkeoicekdgaaGreatDoorRows
import GoSem.ClaimSeven
namespace Go.Proofs.YtdkkkeoicekdgaaGreatDoor
namespace Rows

/-- THE TIED CARD OF 'hornbooklaw12.ModelDoes'. -/
def modelDoesCard : Claim7 := { stood := { row := modelDoesRow, standIns := [], harness := (true, "7c33eaefe48874c13d8e2041b4710caa6340fefb4ee12db8e55b65e321b8a4ea"), looks := true }, kinds := [], alts := [], laidByText := true, laidKinds := [.data, .data, .data, .data, .sentinel, .sentinel, .pinned], laidTests := true, laidLooks := .later }
def ModelDoesCardSaid : Prop := Claim7.holds Tryz.pinned (.plain (OpenSpec.ofChange modelDoesSpec)) modelDoesCard

/-- THE TIED CARD OF 'hornbooklaw12.ModelFolds'. -/
def modelFoldsCard : Claim7 := { stood := { row := modelFoldsRow, standIns := [], harness := (true, "7c33eaefe48874c13d8e2041b4710caa6340fefb4ee12db8e55b65e321b8a4ea"), looks := true }, kinds := [], alts := [], laidByText := true, laidKinds := [.data, .data, .data, .data, .sentinel, .sentinel, .pinned], laidTests := true, laidLooks := .later }
def ModelFoldsCardSaid : Prop := Claim7.holds Tryz.pinned (.plain (OpenSpec.ofChange modelFoldsSpec)) modelFoldsCard

/-- THE TIED CARD OF 'hornbooklaw12.ModelBytes'. -/
def modelBytesCard : Claim7 := { stood := { row := modelBytesRow, standIns := [], harness := (true, "7c33eaefe48874c13d8e2041b4710caa6340fefb4ee12db8e55b65e321b8a4ea"), looks := true }, kinds := [], alts := [], laidByText := true, laidKinds := [.data, .data, .data, .data, .sentinel, .sentinel, .pinned], laidTests := true, laidLooks := .later }
def ModelBytesCardSaid : Prop := Claim7.holds Tryz.pinned (.plain (OpenSpec.ofChange modelBytesSpec)) modelBytesCard

/-- THE TIED CARD OF 'hornbooklaw12.ModelBack'. -/
def modelBackCard : Claim7 := { stood := { row := modelBackRow, standIns := [], harness := (true, "7c33eaefe48874c13d8e2041b4710caa6340fefb4ee12db8e55b65e321b8a4ea"), looks := true }, kinds := [], alts := [], laidByText := true, laidKinds := [.data, .data, .data, .data, .sentinel, .sentinel, .pinned], laidTests := true, laidLooks := .later }
def ModelBackCardSaid : Prop := Claim7.holds Tryz.pinned (.plain (OpenSpec.ofChange modelBackSpec)) modelBackCard

/-- THE TIED CARD OF 'hornbooklaw12.ModelTwice'. -/
def modelTwiceCard : Claim7 := { stood := { row := modelTwiceRow, standIns := [], harness := (true, "7c33eaefe48874c13d8e2041b4710caa6340fefb4ee12db8e55b65e321b8a4ea"), looks := true }, kinds := [], alts := [], laidByText := true, laidKinds := [.data, .data, .data, .data, .sentinel, .sentinel, .pinned], laidTests := true, laidLooks := .later }
def ModelTwiceCardSaid : Prop := Claim7.holds Tryz.pinned (.plain (OpenSpec.ofChange modelTwiceSpec)) modelTwiceCard

/-- THE TIED CARD OF 'hornbooklaw12.ModelParts'. -/
def modelPartsCard : Claim7 := { stood := { row := modelPartsRow, standIns := [], harness := (true, "7c33eaefe48874c13d8e2041b4710caa6340fefb4ee12db8e55b65e321b8a4ea"), looks := true }, kinds := [], alts := [], laidByText := true, laidKinds := [.data, .data, .data, .data, .sentinel, .sentinel, .pinned], laidTests := true, laidLooks := .later }
def ModelPartsCardSaid : Prop := Claim7.holds Tryz.pinned (.plain (OpenSpec.ofChange modelPartsSpec)) modelPartsCard

/-- THE TIED CARD OF 'hornbooklaw12.ModelShows'. -/
def modelShowsCard : Claim7 := { stood := { row := modelShowsRow, standIns := [], harness := (true, "7c33eaefe48874c13d8e2041b4710caa6340fefb4ee12db8e55b65e321b8a4ea"), looks := true }, kinds := [], alts := [], laidByText := true, laidKinds := [.data, .data, .data, .data, .sentinel, .sentinel, .data, .pinned], laidTests := true, laidLooks := .later }
def ModelShowsCardSaid : Prop := Claim7.holds Tryz.pinned (.plain (OpenSpec.ofChange modelShowsSpec)) modelShowsCard

/-- THE SECOND FORM's CARD OF 'hornbooklaw12.ModelDoes'. -/
def modelDoesUptoCard : Claim7 := { stood := { row := modelDoesUptoRow, standIns := [], harness := (true, "7c33eaefe48874c13d8e2041b4710caa6340fefb4ee12db8e55b65e321b8a4ea"), looks := true }, kinds := [], alts := [], laidByText := true, laidKinds := [.data, .data, .data, .data, .sentinel, .sentinel, .pinned], laidTests := true, laidLooks := .later }
def ModelDoesUptoCardSaid : Prop := Claim7.holds Tryz.pinned (.plain (OpenSpec.upto modelDoesSpec)) modelDoesUptoCard

/-- THE SECOND FORM's CARD OF 'hornbooklaw12.ModelFolds'. -/
def modelFoldsUptoCard : Claim7 := { stood := { row := modelFoldsUptoRow, standIns := [], harness := (true, "7c33eaefe48874c13d8e2041b4710caa6340fefb4ee12db8e55b65e321b8a4ea"), looks := true }, kinds := [], alts := [], laidByText := true, laidKinds := [.data, .data, .data, .data, .sentinel, .sentinel, .pinned], laidTests := true, laidLooks := .later }
def ModelFoldsUptoCardSaid : Prop := Claim7.holds Tryz.pinned (.plain (OpenSpec.upto modelFoldsSpec)) modelFoldsUptoCard

/-- THE SECOND FORM's CARD OF 'hornbooklaw12.ModelBytes'. -/
def modelBytesUptoCard : Claim7 := { stood := { row := modelBytesUptoRow, standIns := [], harness := (true, "7c33eaefe48874c13d8e2041b4710caa6340fefb4ee12db8e55b65e321b8a4ea"), looks := true }, kinds := [], alts := [], laidByText := true, laidKinds := [.data, .data, .data, .data, .sentinel, .sentinel, .pinned], laidTests := true, laidLooks := .later }
def ModelBytesUptoCardSaid : Prop := Claim7.holds Tryz.pinned (.plain (OpenSpec.upto modelBytesSpec)) modelBytesUptoCard

/-- THE SECOND FORM's CARD OF 'hornbooklaw12.ModelBack'. -/
def modelBackUptoCard : Claim7 := { stood := { row := modelBackUptoRow, standIns := [], harness := (true, "7c33eaefe48874c13d8e2041b4710caa6340fefb4ee12db8e55b65e321b8a4ea"), looks := true }, kinds := [], alts := [], laidByText := true, laidKinds := [.data, .data, .data, .data, .sentinel, .sentinel, .pinned], laidTests := true, laidLooks := .later }
def ModelBackUptoCardSaid : Prop := Claim7.holds Tryz.pinned (.plain (OpenSpec.upto modelBackSpec)) modelBackUptoCard

/-- THE SECOND FORM's CARD OF 'hornbooklaw12.ModelTwice'. -/
def modelTwiceUptoCard : Claim7 := { stood := { row := modelTwiceUptoRow, standIns := [], harness := (true, "7c33eaefe48874c13d8e2041b4710caa6340fefb4ee12db8e55b65e321b8a4ea"), looks := true }, kinds := [], alts := [], laidByText := true, laidKinds := [.data, .data, .data, .data, .sentinel, .sentinel, .pinned], laidTests := true, laidLooks := .later }
def ModelTwiceUptoCardSaid : Prop := Claim7.holds Tryz.pinned (.plain (OpenSpec.upto modelTwiceSpec)) modelTwiceUptoCard

/-- THE SECOND FORM's CARD OF 'hornbooklaw12.ModelParts'. -/
def modelPartsUptoCard : Claim7 := { stood := { row := modelPartsUptoRow, standIns := [], harness := (true, "7c33eaefe48874c13d8e2041b4710caa6340fefb4ee12db8e55b65e321b8a4ea"), looks := true }, kinds := [], alts := [], laidByText := true, laidKinds := [.data, .data, .data, .data, .sentinel, .sentinel, .pinned], laidTests := true, laidLooks := .later }
def ModelPartsUptoCardSaid : Prop := Claim7.holds Tryz.pinned (.plain (OpenSpec.upto modelPartsSpec)) modelPartsUptoCard

/-- THE SECOND FORM's CARD OF 'hornbooklaw12.ModelShows'. -/
def modelShowsUptoCard : Claim7 := { stood := { row := modelShowsUptoRow, standIns := [], harness := (true, "7c33eaefe48874c13d8e2041b4710caa6340fefb4ee12db8e55b65e321b8a4ea"), looks := true }, kinds := [], alts := [], laidByText := true, laidKinds := [.data, .data, .data, .data, .sentinel, .sentinel, .data, .pinned], laidTests := true, laidLooks := .later }
def ModelShowsUptoCardSaid : Prop := Claim7.holds Tryz.pinned (.plain (OpenSpec.upto modelShowsSpec)) modelShowsUptoCard
end Rows
end Go.Proofs.YtdkkkeoicekdgaaGreatDoor
