/- The law of what is read. -/
import Derived.Test.YtapnieogfddjkaaDoorDv
import Derived.Test.YtapnieogfddjkaaDoorLa
namespace Go.Proofs.YtapnieogfddjkaaDoor
open Go.RowKit

set_option maxHeartbeats 3200000 in
set_option maxRecDepth 100000 in
theorem reads_any (s : BA) (w : World) (_ : s.size ≤ 140737488351232) (hEV : EnvW w) :
    Calls Tryd.prog 3 #[.string s] w fun e w' => e = .returned (.bool true) ∧ Below w.heap.size w w' := by
  have HP := Lib.hid (parse_any s w hEV)
  have HR : Hid (∀ W, Calls Tryd.prog 7 #[.string s] W fun e w' => (∃ a cap n, e = .returned (.tuple #[.slice a (parseF s.data.toList).1.length cap, .int .i64 (parseF s.data.toList).2.1, .int .i64 (parseF s.data.toList).2.2]) ∧ SlP w' (Fsh W.heap.size w') n (.slice a (parseF s.data.toList).1.length cap) (parseF s.data.toList).1) ∧ Below W.heap.size W w') := Lib.hid (fun W => by
    have := Dr.rparse_any s W
    rw [dParse_eq] at this
    exact this)
  have HNA : Hid (∀ W, Calls Tryd.prog 8 #[.string ⟨#[97]⟩] W fun e w' => e = .returned (.bool true) ∧ w' = W) := Lib.hid (fun W => by have := name_any ⟨#[97]⟩ W (by decide); rw [isA] at this; exact this)
  clear hEV
  generalize parseF s.data.toList = r at *
  obtain ⟨xs, e0, at0⟩ := r
  simp only at HP HR
  obtain ⟨ln, HLL⟩ : ∃ ln, Hid (ln = xs.length) := ⟨_, Lib.hid rfl⟩
  go_enter Tryd.func3, Tryd.ntmps3
  go_wp2_with fail
  refine HP.out.mono ?_
  rintro e w2 ⟨⟨a, cap, n, rfl, hs2⟩, hb2⟩
  have HS2 := Lib.hid hs2
  have HB2 := Lib.hid hb2
  have HR2 := Lib.hid (HR.out w2)
  clear hs2 hb2 HP HR
  rw [← HLL.out]
  go_wp2_with fail
  refine HR2.out.mono ?_
  rintro e w3 ⟨⟨a3, cap3, n3, rfl, hs3⟩, hb3⟩
  obtain ⟨K, HK⟩ : ∃ K, Hid (n ≤ K ∧ n3 ≤ K) := ⟨max n n3, Lib.hid ⟨Nat.le_max_left _ _, Nat.le_max_right _ _⟩⟩
  have HS2 : Hid (SlP w3 (Old w3) K (.slice a xs.length cap) xs) := Lib.hid ((SlP.keep HS2.out (fun b hb => hb3.block b hb.2) (fun b hb => Nat.lt_of_lt_of_le hb.2 hb3.size)).le HK.out.1)
  have HS3 : Hid (SlP w3 (Old w3) K (.slice a3 xs.length cap3) xs) := Lib.hid ((SlP.keep hs3 (fun _ _ => rfl) (fun b hb => hb.2)).le HK.out.2)
  have HB3 := Lib.hid (below_trans HB2.out hb3)
  have HN3 := Lib.hid (HNA.out w3)
  have HLK := Lib.hid (Dr.like_any K w3 a a3 cap cap3 xs HS2.out HS3.out)
  clear hs3 hb3 HR2 HNA
  rw [← HLL.out] at HLK ⊢
  go_wp2_with fail
  refine HN3.out.mono ?_
  rintro e w4 ⟨rfl, rfl⟩
  go_wp2_with fail
  refine HLK.out.mono ?_
  rintro e w5 ⟨rfl, hb5⟩
  have HB5 := Lib.hid (below_trans HB3.out hb5)
  clear hb5
  go_wp2
  go_ret
  exact ⟨rfl, HB5.out⟩
end Go.Proofs.YtapnieogfddjkaaDoor
