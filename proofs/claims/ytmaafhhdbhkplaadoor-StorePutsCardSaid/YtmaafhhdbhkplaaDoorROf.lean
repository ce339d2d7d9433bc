/- The document's Of; DigestIs: what the law answers. -/
import Derived.Test.YtmaafhhdbhkplaaDoorROver
import Derived.Test.YtmaafhhdbhkplaaDoorOf
namespace Go.Proofs.YtmaafhhdbhkplaaDoor
open Go.RowKit

theorem wat_new (w : World) (l : List Int) : Wat (w.alloc (.cells (u32s l).toArray 56)) w.heap.size 0 l := fun j hj => by
  rw [Nat.zero_add]
  exact (row_new w (u32s l).toArray 56).cell (u32s_at _ j hj)

set_option maxHeartbeats 2000000 in
set_option maxRecDepth 100000 in
theorem rof_any (s : ByteArray) (w : World) (hs : s.size ≤ 140737488351232) : Calls Tryd.prog 33 #[.string s] w fun e w' => e = .returned (.string (str (shaF s.data.toList))) ∧ Below w.heap.size w w' := by
  have HK : Hid (Wat ((w.alloc (.cells (u32s kL).toArray 56)).alloc (.cells (u32s h0.list).toArray 56)) w.heap.size 0 kL) := Lib.hid ((wat_new w kL).below (below1 _ _) (by simp))
  have HH : Hid (Wat ((w.alloc (.cells (u32s kL).toArray 56)).alloc (.cells (u32s h0.list).toArray 56)) (w.heap.size + 1) 0 h0.list) := Lib.hid (by
    have := wat_new (w.alloc (.cells (u32s kL).toArray 56)) h0.list
    simpa using this)
  have HC : Hid (Calls Tryd.prog 39 #[.string s, .slice (some ⟨w.heap.size + 1, 0, none⟩) 8 8, .slice (some ⟨w.heap.size, 0, none⟩) 64 64] ((w.alloc (.cells (u32s kL).toArray 56)).alloc (.cells (u32s h0.list).toArray 56)) fun e w' => e = .returned (.string (str (shaF s.data.toList))) ∧ Below w.heap.size w w') := Lib.hid (by
    refine (over_any s _ (w.heap.size + 1) 8 w.heap.size 0 64 h0 h0_ok kL kL_length hs HH.out HK.out (by simp) (by simp; omega)).mono fun e w' ⟨he, hb⟩ => ⟨?_, (below2 w _ _).trans (hb.mono (by simp; omega))⟩
    rw [he]
    unfold shaF stW
    rw [ba_len])
  clear HK HH
  go_enter Tryd.func33, Tryd.ntmps33
  go_wp2_with fail
  refine HC.out.mono ?_
  rintro e w1 ⟨rfl, hb⟩
  go_wp2
  go_ret
  exact ⟨rfl, hb⟩

end Go.Proofs.YtmaafhhdbhkplaaDoor
