/- The plain mathematics of package code: trees of values, their bytes, and the reader's answer as a function of the bytes. -/
import Derived.WalkKit
import Derived.Test.YtdkkkeoicekdgaaGreatDoorChecked
import Derived.BigQuiet
import Derived.Lib.Hide
import Derived.Deep.Light

section

namespace Go.Proofs.YtdkkkeoicekdgaaGreatDoor.Co
inductive Tree where
 | num (n : Int)
 | text (bs : List UInt8)
 | list (ts : List Tree)
inductive Res where
 | ok (t : Tree) (next : Nat)
 | bad (e i : Nat)
end Go.Proofs.YtdkkkeoicekdgaaGreatDoor.Co

end

section

namespace Go.Proofs.YtdkkkeoicekdgaaGreatDoor.Co
open Go.RowKit

end Go.Proofs.YtdkkkeoicekdgaaGreatDoor.Co

end
