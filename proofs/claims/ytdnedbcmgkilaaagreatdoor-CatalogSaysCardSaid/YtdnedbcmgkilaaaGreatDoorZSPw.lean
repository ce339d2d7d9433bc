/- Package format: a plural's parts. -/
import Derived.Deep.RegionHeld3
import Derived.Test.YtdnedbcmgkilaaaGreatDoorZSg1

namespace Go.Proofs.YtdnedbcmgkilaaaGreatDoor
open Go.RowKit
section
variable {W0 : World} {B b bx bp m : Nat} {l : List UInt8} {lang : BA} {asl : Value} {ca : Option Addr} {pc : Nat} {u : Nat} {W W' : World}
end
theorem out_lt {B b : Nat} {l : List UInt8} {w : World} (h : OutAt B b l w) : b < w.heap.size := h.elim (fun x => x.lt) (fun x => x.lt)
theorem strs_new (w : World) (x y z : BA) : SlS (w.alloc (.cells #[.string x, .string y, .string z] 9)) (Old (w.alloc (.cells #[.string x, .string y, .string z] 9))) (.slice (some ⟨w.heap.size, 0, none⟩) 3 3) [x, y, z] := by
 have ho := z2h w #[.string x, .string y, .string z] 9 0 3 1 rfl (Nat.zero_le _) (by decide)
 exact Sl.of_owns (xs := [x, y, z]) ho ⟨[.string x], _, rfl, rfl, rfl, [.string y], _, rfl, rfl, rfl, [.string z], [], rfl, rfl, rfl, rfl⟩ (fun b cs z h => (Array.getElem?_eq_some_iff.1 h).1)
end Go.Proofs.YtdnedbcmgkilaaaGreatDoor
