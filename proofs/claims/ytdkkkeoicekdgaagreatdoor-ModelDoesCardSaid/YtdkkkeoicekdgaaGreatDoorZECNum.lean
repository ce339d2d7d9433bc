/- Package code's number and text: what the calls answer. -/
import Derived.WalkSpells
import Derived.Test.YtdkkkeoicekdgaaGreatDoorZEg28

namespace Go.Proofs.YtdkkkeoicekdgaaGreatDoor.Co
open Go.RowKit
abbrev numV (n : Int) : Value := .agg #[.int .i64 1, .int .i64 n, .string ⟨#[]⟩, .slice none 0 0]
abbrev textV (b : ByteArray) : Value := .agg #[.int .i64 2, .int .i64 0, .string b, .slice none 0 0]
theorem z03 (w : World) (o : Obj) : Below w.heap.size w (w.alloc o) := (Below.refl _ _).alloc (Nat.le_refl _) o
end Go.Proofs.YtdkkkeoicekdgaaGreatDoor.Co
