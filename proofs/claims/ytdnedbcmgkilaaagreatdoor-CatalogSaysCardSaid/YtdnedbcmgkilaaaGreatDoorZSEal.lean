/- The law's alive; CatalogSteps: what the law answers. -/
import Derived.Test.YtdnedbcmgkilaaaGreatDoorZSg19

namespace Go.Proofs.YtdnedbcmgkilaaaGreatDoor.Ca
set_option maxHeartbeats 1600000
open Go.Lib (hid)
open Go.RowKit Go.Proofs.YtdnedbcmgkilaaaGreatDoor
abbrev aE : Ent := ⟨⟨#[]⟩, ⟨#[97]⟩, ⟨#[]⟩⟩
theorem may_a : mayB aE = true := by decide +kernel
theorem apply_a : z3s [] [⟨false, aE⟩] = .ok [aE] := by
 have h0 : Rgt [] := ⟨by simp, (fun e h => by cases h), List.Pairwise.nil⟩
 rw [zjm h0]
 exact zhi (l := []) (c := ⟨false, aE⟩) rfl may_a (by decide)
theorem one_ch (w : World) (c : Chg) : SlH (w.alloc (.cells (chC c) 44)) (Old (w.alloc (.cells (chC c) 44))) (.slice (some ⟨w.heap.size, 0, none⟩) 1 1) [c] :=
 ⟨_, _, rfl, Nat.le_refl _, by simp, fun _ => ⟨w.heap.size, 0, rfl, by simp, fun j y hj => by
  cases j with
  | zero =>
   obtain rfl : c = y := by simpa using hj
   exact ⟨_, rfl, rfl, fun i u hu => by have := (z04 w (chC c) 44).cell hu; simpa using this⟩
  | succ j => simp at hj⟩⟩
theorem fit_a : FitE aE := ⟨by decide, by decide, by decide⟩
theorem zjp (w : World) (hE : EnvC w) : Calls Tryz.prog 12 #[] w fun e w' => e = .returned (.bool true) /\ Below w.heap.size w w' := by
 have HB := hid (z02 w (.cells (chC ⟨false, aE⟩) 44))
 have h := zjn (w.alloc (.cells (chC ⟨false, aE⟩) 44)) none 0 [] (some ⟨w.heap.size, 0, none⟩) 1 [⟨false, aE⟩] (Sl.nil _ _ _ _) (one_ch w _) ((fun x hx => by cases hx)) (fun c hc => by
  obtain rfl : c = ⟨false, aE⟩ := by simpa using hc
  exact fit_a) (hE.below HB.out)
 rw [apply_a] at h
 have HA := hid h
 clear h hE
 go_enter Tryz.func12, Tryz.ntmps12
 go_wp2_with fail
 refine HA.out.mono ?_
 rintro e w1 ⟨hb1, a1, c1, rfl, -⟩
 have HB1 := hid (z00 HB.out hb1)
 clear hb1
 go_wp2
 go_ret
 exact ⟨rfl, HB1.out⟩
theorem ne0 {k : Nat} (h : k ≠ 0) : ((k : Int) != 0) = true := by rw [bne_iff_ne]; omega
end Go.Proofs.YtdnedbcmgkilaaaGreatDoor.Ca
