/- Of: the digest of a text; short. -/
import Derived.Test.YtmaafhhdbhkplaaDoorSum
namespace Go.Proofs.YtmaafhhdbhkplaaDoor
open Go.RowKit

theorem ret_str {a b : ByteArray} (h : a = b) : Ending.returned (.string a) = .returned (.string b) := by rw [h]
theorem ret_bool {a b : Bool} (h : a = b) : Ending.returned (.bool a) = .returned (.bool b) := by rw [h]
theorem ba_ext {a b : ByteArray} (h : a.data.toList = b.data.toList) : a = b := by
  cases a; cases b; simp at h; rw [ByteArray.mk.injEq]; exact h

theorem nx_below {B b : Nat} {u v w : World} (h : Below B u v) (k : Nx b v w) (hb : B ≤ b) (hB : B ≤ u.heap.size) : Below B u w :=
  ⟨k.os.trans h.os, k.tape.trans h.tape, k.output.trans h.output, Nat.le_trans h.size k.size, fun i hi => (k.block i (Nat.lt_of_lt_of_le hi (Nat.le_trans hB h.size)) (by omega)).trans (h.block i hi)⟩

set_option maxHeartbeats 1000000 in
theorem of_any (s : ByteArray) (w : World) (ht : Tab w) (hs : s.size ≤ 1000000000) :
    Calls Tryd.prog 34 #[.string s] w fun e w' => e = .returned (.string (str (shaF s.data.toList))) ∧ Below w.heap.size w w' := by
  have HT := Lib.hid ht
  clear ht
  go_enter Tryd.func34, Tryd.ntmps34
  go_wp2_with fail
  refine (new_any w).mono ?_
  rintro e w1 ⟨rfl, hw1⟩
  have HH1 : Hid (HashAt w1 w.heap.size []) := Lib.hid (by rw [hw1]; exact hash_new w)
  have HB1 : Hid (Below w.heap.size w w1) := Lib.hid (by rw [hw1]; exact below1 _ _)
  have HT1 : Hid (Tab w1) := Lib.hid (HT.out.below HB1.out)
  clear hw1
  go_wp2_with fail
  refine (add_any s w1 w.heap.size [] HH1.out (by have := HT.out.pos; omega) HT1.out (by simp; omega)).mono ?_
  rintro e w2 ⟨rfl, hh2, hnx2⟩
  have HB2 : Hid (Below w.heap.size w w2) := Lib.hid (nx_below HB1.out hnx2 (Nat.le_refl _) (Nat.le_refl _))
  have HT2 : Hid (Tab w2) := Lib.hid (HT.out.below HB2.out)
  have HH2 : Hid (HashAt w2 w.heap.size s.data.toList) := Lib.hid (by simpa using hh2)
  clear hh2 hnx2 HB1 HT1 HH1
  go_wp2_with fail
  refine (sum_any w2 w.heap.size s.data.toList HH2.out HT2.out (by simp; omega)).mono ?_
  rintro e w3 ⟨rfl, hb3⟩
  go_wp2
  go_ret
  exact ⟨rfl, below_trans HB2.out hb3⟩

end Go.Proofs.YtmaafhhdbhkplaaDoor
