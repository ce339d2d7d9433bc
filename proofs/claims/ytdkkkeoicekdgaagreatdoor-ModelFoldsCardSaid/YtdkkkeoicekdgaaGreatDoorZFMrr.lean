/- The document's: which models are valid. -/
import Derived.Test.YtdkkkeoicekdgaaGreatDoorZFg2
import Derived.Test.YtdkkkeoicekdgaaGreatDoorZFRy

namespace Go.Proofs.YtdkkkeoicekdgaaGreatDoor.Md
open Go.RowKit Go.Maps Go.WideShapes Go.WideMaps Go.Proofs.YtdkkkeoicekdgaaGreatDoor Go.Proofs.YtdkkkeoicekdgaaGreatDoor.Ca
end Go.Proofs.YtdkkkeoicekdgaaGreatDoor.Md
