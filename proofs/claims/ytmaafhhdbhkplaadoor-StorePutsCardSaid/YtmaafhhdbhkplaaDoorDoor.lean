/- The table of the rounds' numbers, as the program's text lays it. -/
import Derived.Test.YtmaafhhdbhkplaaDoorRows
import Derived.Test.YtmaafhhdbhkplaaDoorTie
import Derived.Test.YtmaafhhdbhkplaaDoorCards
import Derived.Test.YtmaafhhdbhkplaaDoorMem
import Derived.ProofKit
import Derived.LaidMore
import Derived.OpenShut
import Derived.Stop.Joined
import Derived.SevenTiedAt
import Derived.Lib.LaidTab
import Derived.ChangeMaps5
namespace Go.Proofs.YtmaafhhdbhkplaaDoor
open Go.ChangeShapes Go.WideShapes Go.ChangeAt Go.WideMaps Go.WideElems Go.RowKit

theorem own : ownKnob Tryd.prog.godebug = none := by kernel_rfl
abbrev tabLaid : List (String × DataW Unit) := [("hornbook/digest.roundConstants", Rows.laid_hornbook_digest_roundConstants)]
theorem tab_data : (Rows.laid_hornbook_digest_roundConstants : DataW Unit) = Lib.tabData .u32 kL := rfl

/-- The door's own heap meets the condition. -/
theorem tab_door (os : Os) (args : Array Value) : laidMetH Tryd.prog tabLaid ((World.doorLaid Tryd.prog 4000 os).forCall (fun _ _ => 0) ⟨#[], args, []⟩).memory :=
  laidMetH_of_parts3 (fuel := 8) (laidMet_of_run' 8 (by kernel_rfl) (by kernel_rfl)) (by kernel_rfl) (by kernel_rfl)

theorem gTab : Tryd.prog.globalNamed "hornbook/digest.roundConstants" = some 0 := by kernel_rfl
theorem tTab : (Tryd.prog.globals[0]?).map (·.type) = some 79 := by kernel_rfl

/-- What the condition gives the walk: the table. -/
theorem tab_of {W : World} (h : laidMetH Tryd.prog tabLaid W) : Tab W := by
  rw [MakeChecks.laidMetH_plain _ _ _ (by kernel_rfl)] at h
  obtain ⟨ps, ⟨g0, t0, cs0, f0, p0, q0, hg0, ht0, hv0, hd0, _, _⟩, _, _⟩ := h
  obtain rfl := Option.some.inj (gTab.symm.trans hg0)
  obtain rfl := Option.some.inj (tTab.symm.trans ht0)
  rw [tab_data] at hd0
  have ht : Lib.TabIs Tryd.prog W "hornbook/digest.roundConstants" .u32 kL := by
    unfold Lib.TabIs
    rw [hv0, ← Lib.cells_of_tab Tryd.underlying79 Tryd.underlying56 (by kernel_rfl) (by kernel_rfl) hd0]
  exact fun i hi => ht.cell gTab i (by rw [kL_length]; exact hi)
end Go.Proofs.YtmaafhhdbhkplaaDoor
