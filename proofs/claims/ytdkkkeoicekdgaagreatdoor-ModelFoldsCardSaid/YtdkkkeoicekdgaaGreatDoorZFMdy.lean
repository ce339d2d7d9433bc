/- Package model: Do of what is valid. -/
import Derived.Test.YtdkkkeoicekdgaaGreatDoorZFg44

namespace Go.Proofs.YtdkkkeoicekdgaaGreatDoor.Md
open Go.RowKit Go.Maps Go.WideShapes Go.WideMaps Go.Proofs.YtdkkkeoicekdgaaGreatDoor Go.Proofs.YtdkkkeoicekdgaaGreatDoor.Ca
theorem z08 {g : Nat} {w w' : World} (h : But g w w') {b i : Nat} (hb : b ≠ g) : w'.cell? ⟨b, i, none⟩ = w.cell? ⟨b, i, none⟩ := World.cell?_of_block (h.block b hb)
end Go.Proofs.YtdkkkeoicekdgaaGreatDoor.Md
