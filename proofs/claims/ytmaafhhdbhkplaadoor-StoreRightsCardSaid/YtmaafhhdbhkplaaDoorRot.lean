/- Turning a word: what 'rotated' and the document's 'turned' answer. -/
import Derived.Test.YtmaafhhdbhkplaaDoorPlain
import Derived.Test.YtmaafhhdbhkplaaDoorChecked
import Derived.Laws.ShiftsVarLaws
namespace Go.Proofs.YtmaafhhdbhkplaaDoor
open Go.RowKit

theorem ret_int {k : IntKind} {a b : Int} (h : a = b) : Ending.returned (.int k a) = .returned (.int k b) := by rw [h]

theorem rotated_any (x m : Int) (w : World) (h : Wd x) (hn : 1 ≤ m) (hn2 : m ≤ 31) :
    Calls Tryd.prog 53 #[.int .u32 x, .int .u64 m] w fun e w' => e = .returned (.int .u32 (rot x m)) ∧ w = w' := by
  obtain ⟨h0, h1⟩ := h
  obtain ⟨n, rfl⟩ := Int.eq_ofNat_of_zero_le (show 0 ≤ m by omega)
  go_enter Tryd.func53, Tryd.ntmps53
  go_wp2
  go_ret
  exact ⟨rfl, rfl⟩
theorem turned_any (x m : Int) (w : World) (h : Wd x) (hn : 1 ≤ m) (hn2 : m ≤ 31) :
    Calls Tryd.prog 50 #[.int .u32 x, .int .i64 m] w fun e w' => e = .returned (.int .u32 (rot x m)) ∧ w = w' := by
  obtain ⟨h0, h1⟩ := h
  obtain ⟨n, rfl⟩ := Int.eq_ofNat_of_zero_le (show 0 ≤ m by omega)
  go_enter Tryd.func50, Tryd.ntmps50
  go_wp2
  go_ret
  exact ⟨rfl, rfl⟩
theorem rotated_q (x m : Int) (w : World) (h : Wd x) (hn : 1 ≤ m) (hn2 : m ≤ 31) :
    Calls Tryd.prog 53 #[.int .u32 x, .int .u64 m] w fun e w' => e = .returned (.int .u32 (rot x m)) ∧ w' = w := (rotated_any x m w h hn hn2).mono fun _ _ ⟨h1, h2⟩ => ⟨h1, h2.symm⟩
theorem turned_q (x m : Int) (w : World) (h : Wd x) (hn : 1 ≤ m) (hn2 : m ≤ 31) :
    Calls Tryd.prog 50 #[.int .u32 x, .int .i64 m] w fun e w' => e = .returned (.int .u32 (rot x m)) ∧ w' = w := (turned_any x m w h hn hn2).mono fun _ _ ⟨h1, h2⟩ => ⟨h1, h2.symm⟩
end Go.Proofs.YtmaafhhdbhkplaaDoor
