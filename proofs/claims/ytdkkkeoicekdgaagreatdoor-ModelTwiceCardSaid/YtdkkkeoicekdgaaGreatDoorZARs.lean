/- The document's Right: what may be. -/
import Derived.Test.YtdkkkeoicekdgaaGreatDoorZAg25
import Derived.Test.YtdkkkeoicekdgaaGreatDoorZAg22

namespace Go.Proofs.YtdkkkeoicekdgaaGreatDoor.Dr
open Go.RowKit Go.Proofs.YtdkkkeoicekdgaaGreatDoor
end Go.Proofs.YtdkkkeoicekdgaaGreatDoor.Dr
