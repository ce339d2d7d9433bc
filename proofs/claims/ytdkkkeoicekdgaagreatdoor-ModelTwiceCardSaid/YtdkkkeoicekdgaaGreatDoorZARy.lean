/- A catalog as bytes, by the document. -/
import Derived.Test.YtdkkkeoicekdgaaGreatDoorZABy
import Derived.Test.YtdkkkeoicekdgaaGreatDoorZAg30
import Derived.Test.YtdkkkeoicekdgaaGreatDoorZAg4

namespace Go.Proofs.YtdkkkeoicekdgaaGreatDoor.Ca
open Go.RowKit Go.Proofs.YtdkkkeoicekdgaaGreatDoor
end Go.Proofs.YtdkkkeoicekdgaaGreatDoor.Ca
