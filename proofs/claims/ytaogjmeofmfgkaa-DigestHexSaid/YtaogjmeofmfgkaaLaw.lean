/- DigestHex: what the law answers. -/
import Derived.Test.YtaogjmeofmfgkaaRHex
namespace Go.Proofs.Ytaogjmeofmfgkaa
open Go.RowKit

set_option maxHeartbeats 1000000 in
theorem hexlaw_any (s : ByteArray) (w : World) (hs : s.size ≤ 140737488351232) : Calls Try.prog 3 #[.string s] w fun e w' => e = .returned (.bool true) ∧ Below w.heap.size w w' := by
  have hc := cut_size s 5000
  have S1 : Hid (∀ W, Calls Try.prog 4 #[.string s, .int .i64 5000] W fun e w' => e = .returned (.string (cutS s 5000)) ∧ W = w') := Lib.hid (fun W => short_any s 5000 W hs (by omega))
  generalize cutS s 5000 = c at *
  have X1 : Hid (∀ W, Calls Try.prog 5 #[.string c] W fun e w' => e = .returned (.string (str (hexs c.data.toList c.size))) ∧ Below W.heap.size W w') := Lib.hid (fun W => hex_any c W (by omega))
  have R1 : Hid (∀ W, Calls Try.prog 6 #[.string c] W fun e w' => e = .returned (.string (str (hexs c.data.toList c.size))) ∧ Below W.heap.size W w') := Lib.hid (fun W => rhex_any c W (by omega))
  have I1 : Hid (∀ W, Calls Try.prog 8 #[.string c] W fun e w' => e = .returned (.bool (isB c)) ∧ W = w') := Lib.hid (fun W => is_any c W (by omega))
  generalize str (hexs c.data.toList c.size) = H at *
  by_cases hb : isB c = true
  · have hl := outF_length (DS c) 64
    have P1 : Hid (∀ W, Calls Try.prog 7 #[.string c] W fun e w' => e = .returned (.tuple #[.string (str (outF (DS c) 64)), .int .i64 0]) ∧ Below W.heap.size W w') := Lib.hid (fun W => parse_yes c W hb)
    have hbk := hex_back c hb
    rw [hb] at I1
    generalize outF (DS c) 64 = d at *
    have hz : (str d).size = 32 := by show d.toArray.size = 32; rw [List.size_toArray, hl]
    have R2 : Hid (∀ W, Calls Try.prog 6 #[.string (str d)] W fun e w' => e = .returned (.string c) ∧ Below W.heap.size W w') := Lib.hid (fun W => by
      have h := rhex_any (str d) W (by omega)
      rw [hz, show (str d).data.toList = d by simp, hbk, show str c.data.toList = c from ba_ext (by simp)] at h
      exact h)
    generalize str d = D at *
    have HZ := Lib.hid hz
    clear hz hl hbk hb
    go_enter Try.func3, Try.ntmps3
    go_wp2_with fail
    refine (S1.out _).mono ?_
    rintro e w' ⟨rfl, rfl⟩
    go_wp2_with fail
    refine (X1.out w).mono ?_
    rintro e w1 ⟨rfl, hb1⟩
    go_wp2_with fail
    refine (R1.out w1).mono ?_
    rintro e w2 ⟨rfl, hb2⟩
    go_wp2_with fail
    refine (P1.out w2).mono ?_
    rintro e w3 ⟨rfl, hb3⟩
    go_wp2_with fail
    refine (I1.out w3).mono ?_
    rintro e w' ⟨rfl, rfl⟩
    have HB3 := Lib.hid (below_trans (below_trans hb1 hb2) hb3)
    clear hb1 hb2 hb3
    have hsz := HZ.out
    go_wp2_with fail
    refine (R2.out w3).mono ?_
    rintro e w4 ⟨rfl, hb4⟩
    go_wp2
    go_ret
    exact ⟨rfl, below_trans HB3.out hb4⟩
  · have hb' : isB c = false := by simpa using hb
    have P1 : Hid (∀ W, Calls Try.prog 7 #[.string c] W fun e w' => e = .returned (.tuple #[.string ⟨#[]⟩, .int .i64 30]) ∧ Below W.heap.size W w') := Lib.hid (fun W => parse_no c W (by omega) hb')
    rw [hb'] at I1
    clear hb hb'
    go_enter Try.func3, Try.ntmps3
    go_wp2_with fail
    refine (S1.out _).mono ?_
    rintro e w' ⟨rfl, rfl⟩
    go_wp2_with fail
    refine (X1.out w).mono ?_
    rintro e w1 ⟨rfl, hb1⟩
    go_wp2_with fail
    refine (R1.out w1).mono ?_
    rintro e w2 ⟨rfl, hb2⟩
    go_wp2_with fail
    refine (P1.out w2).mono ?_
    rintro e w3 ⟨rfl, hb3⟩
    go_wp2_with fail
    refine (I1.out w3).mono ?_
    rintro e w' ⟨rfl, rfl⟩
    have HB3 := Lib.hid (below_trans (below_trans hb1 hb2) hb3)
    clear hb1 hb2 hb3
    go_wp2
    go_ret
    exact ⟨rfl, HB3.out⟩
end Go.Proofs.Ytaogjmeofmfgkaa
