/- A delta as bytes, bytes as a delta: the law. -/
import Derived.Test.YtmagcikaepobiaaDoorDBk
import Derived.Test.YtmagcikaepobiaaDoorRPrs
import Derived.Test.YtmagcikaepobiaaDoorRByH
namespace Go.Proofs.YtmagcikaepobiaaDoor.Dl
open Go.RowKit

set_option maxHeartbeats 6400000 in
set_option maxRecDepth 100000 in
theorem bytesLaw_any (w : World) (a : Option Addr) (cap : Nat) (xs : List Opr) (s : BA) (hx : ArgO w a cap xs) (hs : s.size ≤ 140737488351232) (htab : TabW w) :
    Calls Tryd.prog 3 #[.slice a xs.length cap, .string s] w fun e w' => e = .returned (.bool true) ∧ Below w.heap.size w w' := by
  have HF := Lib.hid (few_any w a cap xs hx.len hx.capg hx.capm hx.nil)
  have hy := hx.few
  have HNF := Lib.hid (fun h => few_nodes (xs := xs) h)
  have HTB := Lib.hid htab
  generalize fewL xs = ys at hy HF HNF
  have HY : Hid (∀ w', Below w.heap.size w w' → ArgO w' a cap ys) := Lib.hid (fun w' hb => hy.below hb)
  have HBT : Hid (∀ W, Below w.heap.size w W → Calls Tryd.prog 6 #[.slice a ys.length cap] W fun e w' => e = .returned (.tuple #[.string ⟨(bytF ys).1.toArray⟩, .int .i64 (bytF ys).2]) ∧ Below W.heap.size W w') := Lib.hid (fun W hb => bytes_any W a cap ys (HY.out W hb).len (HY.out W hb).szs (HY.out W hb).ini (fun h => HNF.out h) (HTB.out.below hb))
  have HRB : Hid (∀ W, Below w.heap.size w W → Calls Tryd.prog 7 #[.slice a ys.length cap] W fun e w' => e = .returned (.tuple #[.string ⟨(bytF ys).1.toArray⟩, .int .i64 (bytF ys).2]) ∧ Below W.heap.size W w') := Lib.hid (fun W hb => rbytes_any W a cap ys (HY.out W hb).len (HY.out W hb).szs (HY.out W hb).ini (fun h => HNF.out h) (HTB.out.below hb))
  have HPS := Lib.hid (fun W => parse_any s W hs)
  have HRP := Lib.hid (fun W => rparse_any s W hs)
  obtain ⟨L, HL⟩ : ∃ L, Hid (L = ys.length) := ⟨_, Lib.hid rfl⟩
  rw [← HL.out] at HF HBT HRB
  generalize bytF ys = bt at *
  obtain ⟨bs, be⟩ := bt
  simp only at HBT HRB
  generalize parF s.data.toList = r at *
  obtain ⟨zs, er⟩ := r
  generalize (⟨bs.toArray⟩ : BA) = by1 at *
  clear hx hy htab HY HNF
  go_enter Tryd.func3, Tryd.ntmps3
  go_wp2_with fail
  refine HF.out.mono ?_
  rintro e w1 ⟨rfl, rfl⟩
  have HC1 := Lib.hid (HBT.out w (Below.refl _ _))
  go_wp2_with fail
  refine HC1.out.mono ?_
  rintro e w2 ⟨rfl, hb2⟩
  have HB2 := Lib.hid hb2
  have HC2 := Lib.hid (HRB.out w2 hb2)
  clear hb2 HC1
  go_wp2_with fail
  refine HC2.out.mono ?_
  rintro e w3 ⟨rfl, hb3⟩
  have HB3 := Lib.hid (below_trans HB2.out hb3)
  have HC3 := Lib.hid (HPS.out w3)
  clear hb3 HC2 HBT HRB
  go_wp2_with fail
  refine HC3.out.mono ?_
  rintro e w4 ⟨⟨a4, c4, rfl, hi4, -, hl4⟩, hb4⟩
  have HB4 := Lib.hid (below_trans HB3.out hb4)
  have HI4 := Lib.hid hi4
  have HC4 := Lib.hid (HRP.out w4)
  clear hb4 hi4 HC3
  go_wp2_with fail
  refine HC4.out.mono ?_
  rintro e w5 ⟨⟨a5, c5, rfl, hi5, -, -⟩, hb5⟩
  have HB5 := Lib.hid (below_trans HB4.out hb5)
  try simp only at hi5
  try simp only at hl4
  have HI45 := HI4.out
  try simp only at HI45
  have HLK := Lib.hid (like_any w5 a4 a5 c4 c5 zs (HI45.below hb5) hi5 (by omega))
  obtain ⟨lz, HLZ⟩ : ∃ lz, Hid (lz = zs.length) := ⟨_, Lib.hid rfl⟩
  try simp only
  rw [← HLZ.out] at HLK ⊢
  clear hb5 hi5 HC4 HI4 HI45 hl4
  go_wp2_with fail
  refine HLK.out.mono ?_
  rintro e w6 ⟨rfl, hb6⟩
  have HB6 := Lib.hid (below_trans HB5.out hb6)
  have HR1 := Lib.hid (right_one w6)
  clear hb6 HLK
  go_wp2_with fail
  refine HR1.out.mono ?_
  rintro e w7 ⟨rfl, hb7⟩
  have HB7 := Lib.hid (below_trans HB6.out hb7)
  clear hb7
  go_wp2
  go_ret
  exact ⟨rfl, HB7.out⟩
end Go.Proofs.YtmagcikaepobiaaDoor.Dl
