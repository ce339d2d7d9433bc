/- The document's Of; DigestIs: what the law answers. -/
import Derived.Test.YtaogjmeofmfgkaaDoorROver
import Derived.Test.YtaogjmeofmfgkaaDoorOf
namespace Go.Proofs.YtaogjmeofmfgkaaDoor
open Go.RowKit

theorem wat_new (w : World) (l : List Int) : Wat (w.alloc (.cells (u32s l).toArray 35)) w.heap.size 0 l := fun j hj => by
  rw [Nat.zero_add]
  exact (row_new w (u32s l).toArray 35).cell (u32s_at _ j hj)

set_option maxHeartbeats 2000000 in
set_option maxRecDepth 100000 in
theorem rof_any (s : ByteArray) (w : World) (hs : s.size ≤ 100000) : Calls Tryd.prog 10 #[.string s] w fun e w' => e = .returned (.string (str (shaF s.data.toList))) ∧ Below w.heap.size w w' := by
  have HK : Hid (Wat ((w.alloc (.cells (u32s kL).toArray 35)).alloc (.cells (u32s h0.list).toArray 35)) w.heap.size 0 kL) := Lib.hid ((wat_new w kL).below (below1 _ _) (by simp))
  have HH : Hid (Wat ((w.alloc (.cells (u32s kL).toArray 35)).alloc (.cells (u32s h0.list).toArray 35)) (w.heap.size + 1) 0 h0.list) := Lib.hid (by
    have := wat_new (w.alloc (.cells (u32s kL).toArray 35)) h0.list
    simpa using this)
  have HC : Hid (Calls Tryd.prog 17 #[.string s, .slice (some ⟨w.heap.size + 1, 0, none⟩) 8 8, .slice (some ⟨w.heap.size, 0, none⟩) 64 64] ((w.alloc (.cells (u32s kL).toArray 35)).alloc (.cells (u32s h0.list).toArray 35)) fun e w' => e = .returned (.string (str (shaF s.data.toList))) ∧ Below w.heap.size w w') := Lib.hid (by
    refine (over_any s _ (w.heap.size + 1) 8 w.heap.size 0 64 h0 h0_ok kL kL_length hs HH.out HK.out (by simp) (by simp; omega)).mono fun e w' ⟨he, hb⟩ => ⟨?_, (below2 w _ _).trans (hb.mono (by simp; omega))⟩
    rw [he]
    unfold shaF stW
    rw [ba_len])
  clear HK HH
  go_enter Tryd.func10, Tryd.ntmps10
  go_wp2_with fail
  refine HC.out.mono ?_
  rintro e w1 ⟨rfl, hb⟩
  go_wp2
  go_ret
  exact ⟨rfl, hb⟩

set_option maxHeartbeats 1000000 in
theorem is_any (s : ByteArray) (w : World) (ht : Tab w) (hs : s.size ≤ 140737488351232) :
    Calls Tryd.prog 3 #[.string s] w fun e w' => e = .returned (.bool true) ∧ Below w.heap.size w w' := by
  have HT := Lib.hid ht
  clear ht
  have hc := cut_size s 5000
  have S1 : Hid (∀ W, Calls Tryd.prog 8 #[.string s, .int .i64 5000] W fun e w' => e = .returned (.string (cutS s 5000)) ∧ W = w') := Lib.hid (fun W => short_any s 5000 W hs (by omega))
  generalize cutS s 5000 = c at *
  have O1 : Hid (∀ W, Tab W → Calls Tryd.prog 9 #[.string c] W fun e w' => e = .returned (.string (str (shaF c.data.toList))) ∧ Below W.heap.size W w') := Lib.hid (fun W h => of_any _ W h (by omega))
  have O2 : Hid (∀ W, Calls Tryd.prog 10 #[.string c] W fun e w' => e = .returned (.string (str (shaF c.data.toList))) ∧ Below W.heap.size W w') := Lib.hid (fun W => rof_any _ W (by omega))
  generalize str (shaF c.data.toList) = D at *
  go_enter Tryd.func3, Tryd.ntmps3
  go_wp2_with fail
  refine (S1.out _).mono ?_
  rintro e w' ⟨rfl, rfl⟩
  go_wp2_with fail
  refine (O1.out w HT.out).mono ?_
  rintro e w1 ⟨rfl, hb1⟩
  go_wp2_with fail
  refine (O2.out w1).mono ?_
  rintro e w2 ⟨rfl, hb2⟩
  have HB3 := Lib.hid (below_trans hb1 hb2)
  clear hb1 hb2
  go_wp2
  go_ret
  exact ⟨rfl, HB3.out⟩
end Go.Proofs.YtaogjmeofmfgkaaDoor
