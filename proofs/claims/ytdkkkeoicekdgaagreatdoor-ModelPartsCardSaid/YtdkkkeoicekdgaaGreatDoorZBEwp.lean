/- The document's one: a change that puts. -/
import Derived.Test.YtdkkkeoicekdgaaGreatDoorZBg52

namespace Go.Proofs.YtdkkkeoicekdgaaGreatDoor.Ca
open Go.RowKit Go.Proofs.YtdkkkeoicekdgaaGreatDoor
end Go.Proofs.YtdkkkeoicekdgaaGreatDoor.Ca
