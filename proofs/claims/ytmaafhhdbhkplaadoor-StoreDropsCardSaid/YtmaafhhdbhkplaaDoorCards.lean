/-
  DERIVED. GIVEN WITH THE SEED: THE CARDS: each row of YtmaafhhdbhkplaaDoorRows.lean that lists a variable, with what it lists TIED to the program's text (the seventh form; the later family's looks); each row that meets fmt, with fmt's text TOLD by the authors' own Lean function (tested against real Go, not proved from fmt's source: count such statements apart). THE CARD IS WHAT COUNTS. Prove the row's statement (the work); the ties are given (YtmaafhhdbhkplaaDoorTie.lean); close each card by the builder's one call (the guide's Derived/Test/ToyasCard.lean, 'card_holds'). Laid BY PROGRAM, IN A SANDBOX (cutbox-door.mjs). By AI agents, Wed Nov 11 2026. No macro, syntax, notation, axiom, sorry.
-/
import Derived.Test.YtmaafhhdbhkplaaDoorRows
import GoSem.ClaimSeven
namespace Go.Proofs.YtmaafhhdbhkplaaDoor
namespace Rows

/-- THE TIED CARD OF 'hornbooklaw06.StoreRights'. -/
def storeRightsCard : Claim7 := { stood := { row := storeRightsRow, standIns := [], harness := (true, "78a91cc472fe0fb7860e5d6a5f3f3376da61c1f8fe3f3736a471f6eba533c6f4"), looks := false }, kinds := [], alts := [], laidByText := true, laidKinds := [.data], laidTests := true, laidLooks := .later }
def StoreRightsCardSaid : Prop := Claim7.holds Tryd.pinned (.plain (OpenSpec.ofChange storeRightsSpec)) storeRightsCard

/-- THE TIED CARD OF 'hornbooklaw06.StorePuts'. -/
def storePutsCard : Claim7 := { stood := { row := storePutsRow, standIns := [], harness := (true, "78a91cc472fe0fb7860e5d6a5f3f3376da61c1f8fe3f3736a471f6eba533c6f4"), looks := false }, kinds := [], alts := [], laidByText := true, laidKinds := [.data], laidTests := true, laidLooks := .later }
def StorePutsCardSaid : Prop := Claim7.holds Tryd.pinned (.plain (OpenSpec.ofChange storePutsSpec)) storePutsCard

/-- THE TIED CARD OF 'hornbooklaw06.StoreDrops'. -/
def storeDropsCard : Claim7 := { stood := { row := storeDropsRow, standIns := [], harness := (true, "78a91cc472fe0fb7860e5d6a5f3f3376da61c1f8fe3f3736a471f6eba533c6f4"), looks := false }, kinds := [], alts := [], laidByText := true, laidKinds := [.data], laidTests := true, laidLooks := .later }
def StoreDropsCardSaid : Prop := Claim7.holds Tryd.pinned (.plain (OpenSpec.ofChange storeDropsSpec)) storeDropsCard

/-- THE TIED CARD OF 'hornbooklaw06.StoreGets'. -/
def storeGetsCard : Claim7 := { stood := { row := storeGetsRow, standIns := [], harness := (true, "78a91cc472fe0fb7860e5d6a5f3f3376da61c1f8fe3f3736a471f6eba533c6f4"), looks := false }, kinds := [], alts := [], laidByText := true, laidKinds := [.data], laidTests := true, laidLooks := .later }
def StoreGetsCardSaid : Prop := Claim7.holds Tryd.pinned (.plain (OpenSpec.ofChange storeGetsSpec)) storeGetsCard

/-- THE SECOND FORM's CARD OF 'hornbooklaw06.StoreRights'. -/
def storeRightsUptoCard : Claim7 := { stood := { row := storeRightsUptoRow, standIns := [], harness := (true, "78a91cc472fe0fb7860e5d6a5f3f3376da61c1f8fe3f3736a471f6eba533c6f4"), looks := false }, kinds := [], alts := [], laidByText := true, laidKinds := [.data], laidTests := true, laidLooks := .later }
def StoreRightsUptoCardSaid : Prop := Claim7.holds Tryd.pinned (.plain (OpenSpec.upto storeRightsSpec)) storeRightsUptoCard

/-- THE SECOND FORM's CARD OF 'hornbooklaw06.StorePuts'. -/
def storePutsUptoCard : Claim7 := { stood := { row := storePutsUptoRow, standIns := [], harness := (true, "78a91cc472fe0fb7860e5d6a5f3f3376da61c1f8fe3f3736a471f6eba533c6f4"), looks := false }, kinds := [], alts := [], laidByText := true, laidKinds := [.data], laidTests := true, laidLooks := .later }
def StorePutsUptoCardSaid : Prop := Claim7.holds Tryd.pinned (.plain (OpenSpec.upto storePutsSpec)) storePutsUptoCard

/-- THE SECOND FORM's CARD OF 'hornbooklaw06.StoreDrops'. -/
def storeDropsUptoCard : Claim7 := { stood := { row := storeDropsUptoRow, standIns := [], harness := (true, "78a91cc472fe0fb7860e5d6a5f3f3376da61c1f8fe3f3736a471f6eba533c6f4"), looks := false }, kinds := [], alts := [], laidByText := true, laidKinds := [.data], laidTests := true, laidLooks := .later }
def StoreDropsUptoCardSaid : Prop := Claim7.holds Tryd.pinned (.plain (OpenSpec.upto storeDropsSpec)) storeDropsUptoCard

/-- THE SECOND FORM's CARD OF 'hornbooklaw06.StoreGets'. -/
def storeGetsUptoCard : Claim7 := { stood := { row := storeGetsUptoRow, standIns := [], harness := (true, "78a91cc472fe0fb7860e5d6a5f3f3376da61c1f8fe3f3736a471f6eba533c6f4"), looks := false }, kinds := [], alts := [], laidByText := true, laidKinds := [.data], laidTests := true, laidLooks := .later }
def StoreGetsUptoCardSaid : Prop := Claim7.holds Tryd.pinned (.plain (OpenSpec.upto storeGetsSpec)) storeGetsUptoCard
end Rows
end Go.Proofs.YtmaafhhdbhkplaaDoor
