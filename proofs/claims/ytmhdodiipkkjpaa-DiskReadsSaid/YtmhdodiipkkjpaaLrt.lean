/- DiskReads: what the law answers. -/
import Derived.Test.YtmhdodiipkkjpaaLra
import Derived.Test.YtmhdodiipkkjpaaLrb
import Derived.Test.YtmhdodiipkkjpaaLrc
import Derived.Test.YtmhdodiipkkjpaaLrd
import Derived.Test.YtmhdodiipkkjpaaLrn
namespace Go.Proofs.Ytmhdodiipkkjpaa.Dk
open Go.RowKit

theorem lreads_any (w : World) (d : Dsk) (a : Option Addr) (cap : Nat) (ak : Option Addr) (ck : Nat) (n : BA) (left : Int) (keep : List Int) (h : DAt w d a cap) (hn : n.size ≤ 140737488351232) (hk : SlI w (Old w) (.slice ak keep.length ck) keep) (hw : ∀ n, n ∈ keep → I64 n)  :
    Calls Try.prog 4 #[diV d (.slice a d.fs.length cap), .string n, .int .i64 left, .slice ak keep.length ck] w fun e w' => e = .returned (.bool true) ∧ Below w.heap.size w w' := by
  by_cases hR : RgtD d
  · cases hnm : nmB n with
    | false => exact lreads_a w d a cap ak ck n left keep h hn hk hw hR hnm
    | true =>
      cases hdn : d.down with
      | true => exact lreads_b w d a cap ak ck n left keep h hn hk hw hR hnm hdn
      | false =>
        rcases at_find (l := d.fs) (n := n) with ⟨hfn, hat⟩ | ⟨k, x, hx, hfx, hat, -⟩
        · exact lreads_c w d a cap ak ck n left keep h hn hk hw hR hnm hdn hfn hat
        · exact lreads_d w d a cap ak ck n left keep h hn hk hw hR hnm hdn k x hx hfx hat
  · exact lreads_no w d a cap ak ck n left keep h hn hk hw hR
end Go.Proofs.Ytmhdodiipkkjpaa.Dk
