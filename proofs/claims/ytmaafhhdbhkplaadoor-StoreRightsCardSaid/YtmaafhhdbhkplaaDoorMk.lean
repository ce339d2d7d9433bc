/- The leaf, of package merkle and of the document. -/
import Derived.Test.YtmaafhhdbhkplaaDoorOf
import Derived.Test.YtmaafhhdbhkplaaDoorROf
import Derived.Test.YtmaafhhdbhkplaaDoorIts
namespace Go.Proofs.YtmaafhhdbhkplaaDoor
open Go.RowKit

/-- The digest. -/
def Dg (s : BA) : BA := str (shaF s.data.toList)
theorem Dg_size (s : BA) : (Dg s).size = 32 := by
  show (shaF s.data.toList).toArray.size = 32
  rw [List.size_toArray]; exact shaF_length _
theorem of_dg (s : BA) (w : World) (ht : Tab w) (hs : s.size ≤ 1000000000) : Calls Tryd.prog 34 #[.string s] w fun e w' => e = .returned (.string (Dg s)) ∧ Below w.heap.size w w' := of_any s w ht hs
theorem rof_dg (s : BA) (w : World) (hs : s.size ≤ 140737488351232) : Calls Tryd.prog 33 #[.string s] w fun e w' => e = .returned (.string (Dg s)) ∧ Below w.heap.size w w' := rof_any s w hs
/-- The key of a body. -/
def leafF (s : BA) : BA := Dg ((⟨#[0]⟩ : BA) ++ s)
theorem leafF_size (s : BA) : (leafF s).size = 32 := Dg_size _
theorem leaf_any (s : BA) (w : World) (ht : Tab w) (hs : s.size ≤ 1000000) : Calls Tryd.prog 26 #[.string s] w fun e w' => e = .returned (.string (leafF s)) ∧ Below w.heap.size w w' := by
  have HC := Lib.hid (of_dg ((⟨#[0]⟩ : BA) ++ s) w ht (by rw [ByteArray.size_append]; show 1 + s.size ≤ _; omega))
  clear ht
  go_enter Tryd.func26, Tryd.ntmps26
  go_wp2_with fail
  refine HC.out.mono ?_
  rintro e w1 ⟨rfl, hb⟩
  go_wp2
  go_ret
  exact ⟨rfl, hb⟩
theorem rleaf_any (s : BA) (w : World) (hs : s.size ≤ 1000000) : Calls Tryd.prog 23 #[.string s] w fun e w' => e = .returned (.string (leafF s)) ∧ Below w.heap.size w w' := by
  have HC := Lib.hid (rof_dg ((⟨#[0]⟩ : BA) ++ s) w (by rw [ByteArray.size_append]; show 1 + s.size ≤ _; omega))
  go_enter Tryd.func23, Tryd.ntmps23
  go_wp2_with fail
  refine HC.out.mono ?_
  rintro e w1 ⟨rfl, hb⟩
  go_wp2
  go_ret
  exact ⟨rfl, hb⟩
end Go.Proofs.YtmaafhhdbhkplaaDoor
