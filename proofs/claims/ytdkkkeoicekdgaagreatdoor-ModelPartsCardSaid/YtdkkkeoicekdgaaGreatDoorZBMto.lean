/- The document's told. -/
import Derived.Laws.EntriesVeiled
import Derived.Test.YtdkkkeoicekdgaaGreatDoorZBg50

namespace Go.Proofs.YtdkkkeoicekdgaaGreatDoor.Md
open Go.RowKit Go.Maps Go.WideShapes Go.WideMaps Go.Proofs.YtdkkkeoicekdgaaGreatDoor Go.Proofs.YtdkkkeoicekdgaaGreatDoor.Ca
end Go.Proofs.YtdkkkeoicekdgaaGreatDoor.Md
