/- The document's Locale. -/
import Derived.Test.YtdkkkeoicekdgaaGreatDoorZAg18

namespace Go.Proofs.YtdkkkeoicekdgaaGreatDoor.Lc
open Go.RowKit Go.Lib
end Go.Proofs.YtdkkkeoicekdgaaGreatDoor.Lc
