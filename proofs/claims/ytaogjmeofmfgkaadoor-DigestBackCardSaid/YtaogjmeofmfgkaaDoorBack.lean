/- DigestBack: what the law answers. -/
import Derived.Test.YtaogjmeofmfgkaaDoorOf
import Derived.Test.YtaogjmeofmfgkaaDoorParse
namespace Go.Proofs.YtaogjmeofmfgkaaDoor
open Go.RowKit

set_option maxHeartbeats 1000000 in
theorem back_any (s : ByteArray) (w : World) (ht : Tab w) (hs : s.size ≤ 140737488351232) :
    Calls Tryd.prog 5 #[.string s] w fun e w' => e = .returned (.bool true) ∧ Below w.heap.size w w' := by
  have HT := Lib.hid ht
  clear ht
  have hc := cut_size s 2000
  have S1 : Hid (∀ W, Calls Tryd.prog 8 #[.string s, .int .i64 2000] W fun e w' => e = .returned (.string (cutS s 2000)) ∧ W = w') := Lib.hid (fun W => short_any s 2000 W hs (by omega))
  generalize cutS s 2000 = c at *
  have hl := shaF_length c.data.toList
  have O1 : Hid (∀ W, Tab W → Calls Tryd.prog 9 #[.string c] W fun e w' => e = .returned (.string (str (shaF c.data.toList))) ∧ Below W.heap.size W w') := Lib.hid (fun W h => of_any _ W h (by omega))
  generalize shaF c.data.toList = d at *
  have hz : (str d).size = 32 := by show d.toArray.size = 32; rw [List.size_toArray, hl]
  have X1 : Hid (∀ W, Calls Tryd.prog 13 #[.string (str d)] W fun e w' => e = .returned (.string (str (hexs d 32))) ∧ Below W.heap.size W w') := Lib.hid (fun W => by
    have h := hex_any (str d) W (by omega)
    rw [hz, show (str d).data.toList = d by simp] at h
    exact h)
  have P1 : Hid (∀ W, Calls Tryd.prog 12 #[.string (str (hexs d 32))] W fun e w' => e = .returned (.tuple #[.string (str d), .int .i64 0]) ∧ Below W.heap.size W w') := Lib.hid (fun W => parse_hex d W hl)
  generalize str (hexs d 32) = x at *
  generalize str d = D at *
  have HZ := Lib.hid hz
  clear hz hl
  go_enter Tryd.func5, Tryd.ntmps5
  go_wp2_with fail
  refine (S1.out _).mono ?_
  rintro e w' ⟨rfl, rfl⟩
  go_wp2_with fail
  refine (O1.out w HT.out).mono ?_
  rintro e w1 ⟨rfl, hb1⟩
  go_wp2_with fail
  refine (X1.out w1).mono ?_
  rintro e w2 ⟨rfl, hb2⟩
  go_wp2_with fail
  refine (P1.out w2).mono ?_
  rintro e w3 ⟨rfl, hb3⟩
  have HB3 := Lib.hid (below_trans (below_trans hb1 hb2) hb3)
  clear hb1 hb2 hb3
  have hsz := HZ.out
  go_wp2
  go_ret
  exact ⟨rfl, HB3.out⟩
end Go.Proofs.YtaogjmeofmfgkaaDoor
