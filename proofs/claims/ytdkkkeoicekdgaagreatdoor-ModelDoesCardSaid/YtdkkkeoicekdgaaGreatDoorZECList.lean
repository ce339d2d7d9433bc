/- Package code's list: the loop over a list's elements, by what reading one element answers and leaves. -/
import Derived.Test.YtdkkkeoicekdgaaGreatDoorZECRead

namespace Go.Proofs.YtdkkkeoicekdgaaGreatDoor.Co
open Go.RowKit
end Go.Proofs.YtdkkkeoicekdgaaGreatDoor.Co
