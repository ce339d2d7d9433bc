/- seal and Put: what each call answers. -/
import Derived.Test.YtljbbhbebplknaaLeaf
namespace Go.Proofs.Ytljbbhbebplknaa
open Go.RowKit

abbrev str (l : Bs) : ByteArray := ⟨l.toArray⟩
theorem ba_append (a b : ByteArray) : (a ++ b).data.toList = a.data.toList ++ b.data.toList := by simp

theorem ret_two {a b : ByteArray} {x : Value} (h : a = b) : Ending.returned (.tuple #[.string a, x]) = .returned (.tuple #[.string b, x]) := by rw [h]

theorem seal_any (s : ByteArray) (w : World) (hs : s.size ≤ 65536) : Calls Try.prog 17 #[.string s] w fun e w' => e = .returned (.string (str (sealF s.data.toList))) ∧ Below w.heap.size w w' := by
  have hc := crc_lt s.data.toList
  go_enter Try.func17, Try.ntmps17
  go_wp2_with (first
    | (go_at_call 10; refine (sum_any _ _ (by omega)).mono ?_; rintro e w' ⟨rfl, rfl⟩)
    | (go_at_call 18; refine (number_any _ _ hc).mono ?_; rintro e w1 ⟨rfl, hb1⟩))
  go_ret
  refine ⟨ret_str (ba_ext ?_), hb1⟩
  rw [ba_append]; rfl

theorem put_any (s : ByteArray) (w : World) (hs : s.size ≤ 65536) : Calls Try.prog 9 #[.string s] w fun e w' => e = .returned (.tuple #[.string (str (frameF s.data.toList)), .int .i64 0]) ∧ Below w.heap.size w w' := by
  go_enter Try.func9, Try.ntmps9
  go_wp2_with fail
  refine (number_any s.size _ (by omega)).mono ?_
  rintro e w1 ⟨rfl, hb1⟩
  go_wp2_with fail
  refine (seal_any (str (four s.size)) _ (by show 4 ≤ 65536; omega)).mono ?_
  rintro e w2 ⟨rfl, hb2⟩
  go_wp2_with fail
  refine (seal_any s _ hs).mono ?_
  rintro e w3 ⟨rfl, hb3⟩
  go_wp2
  go_ret2
  refine ⟨?_, (hb1.trans (hb2.mono hb1.size)).trans (hb3.mono (Nat.le_trans hb1.size hb2.size))⟩
  refine ret_two (ba_ext ?_)
  rw [ba_append]
  simp [frameF]

theorem put_long (s : ByteArray) (w : World) (h0 : s.size ≤ 140737488351232) (hs : 65536 < s.size) : Calls Try.prog 9 #[.string s] w fun e w' => e = .returned (.tuple #[.string (str []), .int .i64 2]) ∧ w = w' := by
  go_enter Try.func9, Try.ntmps9
  go_wp2
  go_ret2
  exact ⟨rfl, rfl⟩
end Go.Proofs.Ytljbbhbebplknaa
