/- The document's reader in memory: now, wrong, take; letters; a name. -/
import Derived.Laws.EntriesVeiled
import Derived.Test.YtdkkkeoicekdgaaGreatDoorZBg11
import Derived.Test.YtdkkkeoicekdgaaGreatDoorZBg22
import Derived.Test.YtdkkkeoicekdgaaGreatDoorZBg19

section

namespace Go.Proofs.YtdkkkeoicekdgaaGreatDoor.Dr
open Go.RowKit Go.Proofs.YtdkkkeoicekdgaaGreatDoor
def PAt (w : World) (pb : Nat) (s : BA) (S : St) : Prop := w.heap[pb]? = some (.cells #[.string s, .int .i64 S.1, .int .i64 S.2] 241 (0, 0))
section
variable {w w' : World} {pb : Nat} {s : BA} {S : St}
theorem PAt.row (h : PAt w pb s S) : Row w pb 241 [.string s, .int .i64 S.1, .int .i64 S.2] := h
theorem PAt.lt (h : PAt w pb s S) : pb < w.heap.size := (Array.getElem?_eq_some_iff.1 h).1
theorem PAt.keep (h : PAt w pb s S) (hk : w'.heap[pb]? = w.heap[pb]?) : PAt w' pb s S := hk.trans h
theorem PAt.same (h : PAt w pb s S) (hk : Same w w') : PAt w' pb s S := h.keep (by rw [hk.heap])
theorem PAt.below (h : PAt w pb s S) (hk : Below w.heap.size w w') : PAt w' pb s S := h.keep (hk.block pb h.lt)
theorem PAt.alloc (h : PAt w pb s S) (o : Obj) : PAt (w.alloc o) pb s S := h.keep (Below.heap_alloc _ _ _ h.lt)
theorem PAt.drewN (h : PAt w pb s S) (n : Nat) : PAt (w.drewN n) pb s S := h
theorem PAt.on (h : PAt w pb s S) : PAt (w.setCell ⟨pb, 1, none⟩ (.int .i64 ((S.1 : Int) + 1))) pb s (S.1 + 1, S.2) := h.row.set 1 _
theorem PAt.bad (h : PAt w pb s S) (e : Nat) : PAt (w.setCell ⟨pb, 2, none⟩ (.int .i64 e)) pb s (S.1, e) := h.row.set 2 _
end
end Go.Proofs.YtdkkkeoicekdgaaGreatDoor.Dr

end

section

namespace Go.Proofs.YtdkkkeoicekdgaaGreatDoor.Dr
open Go.RowKit Go.Proofs.YtdkkkeoicekdgaaGreatDoor
end Go.Proofs.YtdkkkeoicekdgaaGreatDoor.Dr

end
