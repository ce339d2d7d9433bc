/- MerkleTurned: what the law answers. -/
import Derived.Test.YtnmhmemlgibedaaDoorTurnA
import Derived.Test.YtnmhmemlgibedaaDoorTurnB
import Derived.Test.YtnmhmemlgibedaaDoorTurnC
import Derived.Test.YtnmhmemlgibedaaDoorTurnD
import Derived.Test.YtnmhmemlgibedaaDoorTurnE
namespace Go.Proofs.YtnmhmemlgibedaaDoor
open Go.RowKit

set_option maxHeartbeats 3200000 in
set_option maxRecDepth 100000 in
theorem turned_zero (w : World) (a : Option Addr) (cap : Nat) (xs : List BA) (i what bit : Int) (ht : Tab w) (hl : xs.length ≤ 9223372036854775807) (hx : ∀ x, x ∈ xs → x.size ≤ 140737488351232) (hIn : InS w a xs) (hn0 : (digL xs).length = 0) :
    Calls Tryd.prog 8 #[.slice a xs.length cap, .int .i64 i, .int .i64 what, .int .i64 bit] w fun e w' => e = .returned (.bool true) ∧ Below w.heap.size w w' := by
  have HB0 : Hid (Below w.heap.size w (w.alloc (.cells #[.int .i64 bit] 3))) := Lib.hid (below1 _ _)
  have HDG := Lib.hid (digests_any (w.alloc (.cells #[.int .i64 bit] 3)) a cap xs hl hx (hIn.below (below1 _ _)))
  have HT0 : Hid (Tab (w.alloc (.cells #[.int .i64 bit] 3))) := Lib.hid (ht.below (below1 _ _))
  have HDS := Lib.hid (digL_sized xs)
  clear hIn hx ht
  generalize digL xs = L at *
  obtain rfl : L = [] := List.length_eq_zero_iff.1 hn0
  have HRS : Hid ((rootF Dg []).size = 32) := Lib.hid (Dg_size _)
  go_enter Tryd.func8, Tryd.ntmps8
  go_wp2_with fail
  generalize w.alloc (.cells #[.int .i64 bit] 3) = w0 at *
  refine HDG.out.mono ?_
  rintro e w1 ⟨pa, pc, rfl, hle, hin, hb1'⟩
  have HB1 := Lib.hid (HB0.out.trans (hb1'.mono HB0.out.size))
  have HRT := Lib.hid (root_yes w1 pa pc [] (HT0.out.below hb1') (by simp) HDS.out hle hin)
  have HT1 := Lib.hid (HT0.out.below hb1')
  clear hin hb1' HB0 HT0
  go_wp2_with fail
  refine HRT.out.mono ?_
  rintro e w2 ⟨rfl, hb2'⟩
  have HB2 := Lib.hid (below_trans HB1.out hb2')
  have hrs := HRS.out
  have hrb : (((rootF Dg []).size : Int) != 32) = false := by rw [bne_eq_false_iff_eq]; omega
  have hrs2 : (rootF Dg []).size ≤ 32 := by omega
  have HCK := Lib.hid (check_any w2 (rootF Dg []) 0 0 (rootF Dg []) none 0 [] (HT1.out.below hb2') (by omega) (by omega) (by omega) (by omega) (by omega) (by simp) (by simp) (by omega) (fun x hx => by cases hx) (InS.nil _ _))
  have HNC : Hid (¬ Checked (rootF Dg []) 0 0 (rootF Dg []) []) := Lib.hid (fun ⟨t, hsh, _⟩ => by have := hsh.1.n1; omega)
  clear hrs hb2' HB1 HT1
  generalize rootF Dg [] = R at *
  go_wp2_with fail
  refine HCK.out.mono ?_
  rintro e w8 ⟨b, rfl, hb, hbt⟩
  obtain rfl : b = false := by
    cases b with
    | false => rfl
    | true => exact absurd (hb.1 rfl) HNC.out
  have HBW := Lib.hid (below_trans HB2.out hbt)
  clear hb hbt
  go_wp2
  go_ret
  exact ⟨rfl, HBW.out⟩

theorem turnedLaw_any (w : World) (a : Option Addr) (cap : Nat) (xs : List BA) (i what bit : Int) (ht : Tab w) (hl : xs.length ≤ 9223372036854775807) (hx : ∀ x, x ∈ xs → x.size ≤ 140737488351232) (hIn : InS w a xs)
    (hi1 : -9223372036854775808 ≤ i) (hi2 : i ≤ 9223372036854775807) (hw1 : -9223372036854775808 ≤ what) (hw2 : what ≤ 9223372036854775807) (hb1 : -9223372036854775808 ≤ bit) (hb2 : bit ≤ 9223372036854775807) :
    Calls Tryd.prog 8 #[.slice a xs.length cap, .int .i64 i, .int .i64 what, .int .i64 bit] w fun e w' => e = .returned (.bool true) ∧ Below w.heap.size w w' := by
  rcases Nat.eq_zero_or_pos (digL xs).length with h0 | h0
  · exact turned_zero w a cap xs i what bit ht hl hx hIn h0
  · have hc : (what.tmod 5 + 5) % 5 = 0 ∨ (what.tmod 5 + 5) % 5 = 1 ∨ (what.tmod 5 + 5) % 5 = 2 ∨ (what.tmod 5 + 5) % 5 = 3 ∨ (what.tmod 5 + 5) % 5 = 4 := by
      generalize what.tmod 5 + 5 = z
      omega
    rcases hc with h | h | h | h | h
    · exact turned_leaf w a cap xs i what bit ht hl hx hIn hi1 hi2 hw1 hw2 hb1 hb2 h0 h
    · exact turned_proof w a cap xs i what bit ht hl hx hIn hi1 hi2 hw1 hw2 hb1 hb2 h0 h
    · exact turned_root w a cap xs i what bit ht hl hx hIn hi1 hi2 hw1 hw2 hb1 hb2 h0 h
    · exact turned_number w a cap xs i what bit ht hl hx hIn hi1 hi2 hw1 hw2 hb1 hb2 h0 h
    · exact turned_place w a cap xs i what bit ht hl hx hIn hi1 hi2 hw1 hw2 hb1 hb2 h0 h
end Go.Proofs.YtnmhmemlgibedaaDoor
