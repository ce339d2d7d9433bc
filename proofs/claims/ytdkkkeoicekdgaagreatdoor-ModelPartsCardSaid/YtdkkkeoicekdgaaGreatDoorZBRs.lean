/- The document's Right: what may be. -/
import Derived.Test.YtdkkkeoicekdgaaGreatDoorZBg22
import Derived.Test.YtdkkkeoicekdgaaGreatDoorZBg20

namespace Go.Proofs.YtdkkkeoicekdgaaGreatDoor.Dr
open Go.RowKit Go.Proofs.YtdkkkeoicekdgaaGreatDoor
end Go.Proofs.YtdkkkeoicekdgaaGreatDoor.Dr
