/- A catalog as bytes, by the document. -/
import Derived.Test.YtdkkkeoicekdgaaGreatDoorZBg44
import Derived.Test.YtdkkkeoicekdgaaGreatDoorZBg46
import Derived.Test.YtdkkkeoicekdgaaGreatDoorZBg5

namespace Go.Proofs.YtdkkkeoicekdgaaGreatDoor.Ca
open Go.RowKit Go.Proofs.YtdkkkeoicekdgaaGreatDoor
end Go.Proofs.YtdkkkeoicekdgaaGreatDoor.Ca
