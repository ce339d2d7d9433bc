/- Package store: which item may be, whether it is held. -/
import Derived.Test.YtmaafhhdbhkplaaDoorIts
namespace Go.Proofs.YtmaafhhdbhkplaaDoor
open Go.RowKit

theorem sound_yes (x : Itm) (w : World) (h : Snd x) : Calls Tryd.prog 24 #[itV x] w fun e w' => e = .returned (.bool true) ∧ Below w.heap.size w w' := by
  obtain ⟨k, b, r⟩ := x
  obtain ⟨hk, hb1, hb2, hr1, hr2⟩ := h
  simp only at hk hb1 hb2 hr1 hr2
  have c0 : ((k.size : Int) == 32) = true := by simp; omega
  have c1 : decide (1 ≤ b.size) = true := by simp; omega
  have c2 : decide (b.size ≤ 512) = true := by simp; omega
  have c3 : decide (0 ≤ r) = true := by simp; omega
  have c4 : decide (r ≤ 1073741824) = true := by simp; omega
  clear hk
  go_enter Tryd.func24, Tryd.ntmps24
  go_wp2
  go_ret
  exact ⟨by simp_all, below1 _ _⟩
theorem ret_bool {a b : Bool} (h : a = b) : Ending.returned (.bool a) = .returned (.bool b) := by rw [h]
theorem sound_no (x : Itm) (w : World) (h : ¬ Snd x) (hk : x.k.size ≤ 9223372036854775807) (hb : x.b.size ≤ 9223372036854775807) : Calls Tryd.prog 24 #[itV x] w fun e w' => e = .returned (.bool false) ∧ Below w.heap.size w w' := by
  obtain ⟨k, b, r⟩ := x
  have HN := Lib.hid h
  clear h
  simp only at hk hb
  go_enter Tryd.func24, Tryd.ntmps24
  go_wp2
  all_goals
    go_ret
    refine ⟨?_, below1 _ _⟩
  all_goals first | rfl | exact ret_bool (decide_eq_false fun hr => HN.out ⟨by simp only; omega, by simp only; omega, by simp only; omega, by simp only; omega, hr⟩)
theorem held_any (x : Itm) (w : World) : Calls Tryd.prog 32 #[itV x] w fun e w' => e = .returned (.bool (decide (0 < x.r))) ∧ Below w.heap.size w w' := by
  obtain ⟨k, b, r⟩ := x
  go_enter Tryd.func32, Tryd.ntmps32
  go_wp2
  go_ret
  exact ⟨rfl, below1 _ _⟩
end Go.Proofs.YtmaafhhdbhkplaaDoor
