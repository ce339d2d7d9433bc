/- FrameSums: the law's walk. -/
import Derived.Test.YtljbbhbebplknaaRef
namespace Go.Proofs.Ytljbbhbebplknaa
open Go.RowKit

theorem ba_size (s : ByteArray) : s.data.toList.length = s.size := by simp

set_option maxHeartbeats 1600000 in
theorem sums_long (s : ByteArray) (w : World) (h0 : s.size ≤ 140737488351232) (hs : 65536 < s.size) : Calls Try.prog 3 #[.string s] w fun e w' => e = .returned (.bool true) ∧ Below w.heap.size w w' := by
  go_enter Try.func3, Try.ntmps3
  go_wp2_with fail
  refine (put_long s _ h0 hs).mono ?_
  rintro e w1 ⟨rfl, rfl⟩
  go_wp2
  go_ret
  exact ⟨rfl, Below.refl _ _⟩

set_option maxHeartbeats 1600000 in
theorem sums_mid (s : ByteArray) (w : World) (h1 : 20000 < s.size) (hs : s.size ≤ 65536) : Calls Try.prog 3 #[.string s] w fun e w' => e = .returned (.bool true) ∧ Below w.heap.size w w' := by
  have hz : (str (frameF s.data.toList)).size = s.size + 12 := by show (frameF s.data.toList).toArray.size = _; simp
  go_enter Try.func3, Try.ntmps3
  go_wp2_with fail
  refine (put_any s _ hs).mono ?_
  rintro e w1 ⟨rfl, hb1⟩
  generalize str (frameF s.data.toList) = f at *
  go_wp2
  go_ret
  exact ⟨rfl, hb1⟩

set_option maxHeartbeats 1600000 in
theorem sums_short (s : ByteArray) (w : World) (hs : s.size ≤ 20000) : Calls Try.prog 3 #[.string s] w fun e w' => e = .returned (.bool true) ∧ Below w.heap.size w w' := by
  go_enter Try.func3, Try.ntmps3
  go_wp2_with fail
  refine (put_any s _ (by omega)).mono ?_
  rintro e w1 ⟨rfl, hb1⟩
  go_wp2_with fail
  refine (sum_any s _ (by omega)).mono ?_
  rintro e w2 ⟨rfl, rfl⟩
  go_wp2_with fail
  refine (rsum_any s _ (by omega)).mono ?_
  rintro e w2 ⟨rfl, rfl⟩
  go_wp2_with fail
  refine (rframe_any s _ (by omega)).mono ?_
  rintro e w2 ⟨rfl, hb2⟩
  go_wp2
  go_ret
  exact ⟨rfl, hb1.trans (hb2.mono hb1.size)⟩

theorem sums_any (s : ByteArray) (w : World) (h0 : s.size ≤ 140737488351232) : Calls Try.prog 3 #[.string s] w fun e w' => e = .returned (.bool true) ∧ Below w.heap.size w w' := by
  by_cases h1 : 65536 < s.size
  · exact sums_long s w h0 h1
  · by_cases h2 : 20000 < s.size
    · exact sums_mid s w h2 (by omega)
    · exact sums_short s w (by omega)
end Go.Proofs.Ytljbbhbebplknaa
