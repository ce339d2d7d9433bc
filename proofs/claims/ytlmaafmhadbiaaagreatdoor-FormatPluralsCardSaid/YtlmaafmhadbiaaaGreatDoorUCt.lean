/- Category, by its table: a category. -/
import Derived.Test.YtlmaafmhadbiaaaGreatDoorUPs
import Derived.Test.YtlmaafmhadbiaaaGreatDoorUHo
namespace Go.Proofs.YtlmaafmhadbiaaaGreatDoor.Pu
open Go.RowKit

set_option maxHeartbeats 3200000 in
set_option maxRecDepth 100000 in
theorem cat_any (w : World) (nm s : BA) (hs : s.size ≤ 9223372036854775807) (ht : TabW w) :
    Calls Tryz.prog 29 #[.string nm, .string s] w fun e w' => ∃ a cap, e = .returned (.agg #[.string nm, .slice a (parseF s.data.toList).1.length cap]) ∧ SlW w' (Ty [130, 102, 76] w') (.slice a (parseF s.data.toList).1.length cap) (parseF s.data.toList).1 ∧ Below w.heap.size w w' := by
  have HP := Lib.hid (parse_any (w.alloc (.cells #[.string ⟨#[]⟩, .slice none 0 0] 52)) s hs (ht.below (below1 _ _)))
  have HQ := Lib.hid (row_new w #[.string ⟨#[]⟩, .slice none 0 0] 52)
  clear ht
  go_enter Tryz.func29, Tryz.ntmps29
  go_wp2_with fail
  refine HP.out.mono ?_
  rintro e w1 ⟨a, cap, rfl, hsl, hb⟩
  have HB := Lib.hid (below_trans (below1 w _) hb)
  have HSL := Lib.hid hsl
  have HQ1 := Lib.hid (HQ.out.below hb)
  clear hb hsl HP HQ
  obtain ⟨r, e1, e2, HPF⟩ : ∃ r e1 e2, Hid (parseF s.data.toList = (r, e1, e2)) := ⟨_, _, _, Lib.hid rfl⟩
  rw [HPF.out] at HSL ⊢
  simp only at HSL ⊢
  obtain ⟨n, HL⟩ : ∃ n, Hid (n = r.length) := ⟨_, Lib.hid rfl⟩
  rw [← HL.out]
  have d0 := HQ1.out.cell (i := 0) rfl
  have d1 := HQ1.out.cell (i := 1) rfl
  have z0 := HQ1.out.thaw 0
  have z1 := HQ1.out.thaw 1
  go_wp2
  have Q3 := HQ1.out.put2 (.string nm) (.slice a n cap)
  have B3 := But.put2 w.heap.size w1 (.string nm) (.slice a n cap)
  generalize ((w1.setCell ⟨w.heap.size, 0, none⟩ (.string nm)).setCell ⟨w.heap.size, 1, none⟩ (.slice a n cap)) = w3 at Q3 B3 ⊢
  have e0 := Q3.cell (i := 0) rfl
  have e1 := Q3.cell (i := 1) rfl
  have hsl := HSL.out.kpt (KpT.of_but B3 HQ1.out (by decide))
  exact bodyPost_ret (v := .agg #[.string nm, .slice a n cap]) (by simp [results, Tryz.results29, go_sem, e0, e1]) rfl (by rw [HPF.out]; rw [HL.out]; exact ⟨a, cap, rfl, hsl, HB.out.trans (B3.below (B := w.heap.size) (Nat.le_refl _))⟩)
end Go.Proofs.YtlmaafmhadbiaaaGreatDoor.Pu
