/- ChunkWeighs: what the law answers. -/
import Derived.Test.YtagfnpakpncbmaaRef
namespace Go.Proofs.Ytagfnpakpncbmaa
open Go.RowKit

theorem weight_a : weightF [97] = 98 := by decide
set_option maxHeartbeats 1600000 in
theorem weighs_any (s : ByteArray) (w : World) (hs : s.size ≤ 140737488351232) : Calls Try.prog 3 #[.string s] w fun e w' => e = .returned (.bool true) ∧ Below w.heap.size w w' := by
  have H1 := Lib.hid (fun w => weight_any s w hs)
  have H2 := Lib.hid (fun w => rweight_any s w hs)
  have H3 : Hid (∀ w, Calls Try.prog 9 #[.string ⟨#[97]⟩] w fun e w' => e = .returned (.int .u32 98) ∧ w = w') := Lib.hid (fun w => weight_any ⟨#[97]⟩ w (by decide))
  generalize weightF s.data.toList = R at *
  go_enter Try.func3, Try.ntmps3
  go_wp2_with fail
  refine (H1.out _).mono ?_
  rintro e w1 ⟨rfl, rfl⟩
  go_wp2_with fail
  refine (H2.out _).mono ?_
  rintro e w1 ⟨rfl, rfl⟩
  go_wp2_with fail
  refine (H3.out _).mono ?_
  rintro e w1 ⟨rfl, rfl⟩
  go_wp2
  go_ret
  exact ⟨rfl, Below.refl _ _⟩
end Go.Proofs.Ytagfnpakpncbmaa
