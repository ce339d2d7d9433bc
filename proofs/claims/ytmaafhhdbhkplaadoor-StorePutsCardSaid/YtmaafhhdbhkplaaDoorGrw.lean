/- slices.Clone, slices.Grow and slices.Concat at items. -/
import Derived.Test.YtmaafhhdbhkplaaDoorIts
import Derived.Lib.AppendZerosOnto
import Derived.Lib.SliceRun
import Derived.WalkSpells
namespace Go.Proofs.YtmaafhhdbhkplaaDoor
open Go.RowKit

/-- A slice that the call made: its items. -/
def OwnPost (xs : List Itm) (w : World) (e : Ending) (w' : World) : Prop := ∃ v, e = .returned v ∧ Own w' w.heap.size v xs ∧ Below w.heap.size w w'

set_option maxHeartbeats 1600000 in
theorem clone_any (w : World) (b off cap : Nat) (xs : List Itm) (hIn : InI w (some ⟨b, off, none⟩) xs) (hl : xs.length ≤ 4096) :
    Calls Tryd.prog 37 #[.slice (some ⟨b, off, none⟩) xs.length cap] w (OwnPost xs w) := by
  have q22 : ∀ (w : World) (a : Option Addr) (n c n' c' : Nat), (binOp .eql 22 (.slice a n c) (.slice none n' c')).run Tryd.prog w = .ok (.bool a.isNone) w := fun w a n c n' c' => Lib.run_eql_slice_nil w _ _ a n c n' c' Tryd.underlying22
  obtain ⟨v', w', hr, hown, hgrow⟩ := run_append_its (w.alloc (.cells #[] 29)) 22 w.heap.size (.slice (some ⟨w.heap.size, 0, none⟩) 0 0) [] (World.ownsRow_made w #[] 0 (Nat.le_refl _) (Nat.zero_le _) (by simp)) (some ⟨b, off, none⟩) cap xs (hIn.below (below1 _ _)) (by simp; omega) (by simp)
  have HO : Hid (Own w' w.heap.size v' xs) := Lib.hid (by simpa using hown)
  have HB : Hid (Below w.heap.size w w') := Lib.hid ((below1 w _).grown hgrow (by simp) (by intro k hk; simp [Value.ownBlock] at hk; omega))
  have HR := Lib.hid hr
  clear hr hown hgrow hIn
  go_enter Tryd.func37, Tryd.ntmps37
  go_wp2_with (at_builtin; refine Lib.wpList_append_run _ rfl _ _ _ _ rfl _ _ rfl rfl _ _ HR.out ?_)
  go_ret
  exact ⟨v', rfl, HO.out, HB.out⟩

theorem zeroCells_size (z : Array Value) (n : Nat) : (Builtin.zeroCells z n).size = n * z.size := by simp [Builtin.zeroCells]
set_option maxHeartbeats 1600000 in
theorem grow_any (w : World) (n : Nat) (h0 : 0 < n) (hn : n ≤ 1000000) : Calls Tryd.prog 43 #[.slice none 0 0, .int .i64 n] w (OwnPost [] w) := by
  obtain ⟨i0, hi, hz0, hz1, hz2⟩ := info_parts info29
  have hG : n ≤ grownCap w n 0 29 := grownCap_ge w _ _ _
  have hG2 : grownCap w n 0 29 ≤ maxLen := grownCap_le_maxLen w n 0 29 (by unfold maxLen; omega)
  obtain ⟨w', HR, HO, HB⟩ : ∃ w', Hid ((Builtin.append_ #[22, 3] 22 #[.slice none 0 0, .int .i64 n]).run Tryd.prog w = .ok (.slice (some ⟨w.heap.size, 0, none⟩) n (grownCap w n 0 29)) w') ∧ Hid (Own w' w.heap.size (.slice (some ⟨w.heap.size, 0, none⟩) 0 (grownCap w n 0 29)) []) ∧ Hid (Below w.heap.size w w') := by
    have h := Lib.run_append_grow_zeros (P := Tryd.prog) w 22 3 22 29 i0 _ .i64 .i64 Tryd.underlying22 Tryd.underlying3 hi hz0 none 0 0 [] (run_firstCells_none w.drew i0.size 0 0 0) n h0 (by omega) (by omega) (by omega) (by rw [hz2]; omega) (growslice_fits (by omega) (by rw [hz2]; omega))
    simp only [Nat.zero_add] at h
    refine ⟨_, Lib.hid h, Lib.hid ?_, Lib.hid ((Below.refl _ w).drew.alloc (Nat.le_refl _) _)⟩
    refine World.ownsRow_made w.drew _ _ (Nat.le_refl _) hG2 ?_
    rw [Array.size_append, Array.size_append, zeroCells_size, zeroCells_size]
    show 0 + n * 3 + (grownCap w n 0 29 - n) * 3 = grownCap w n 0 29 * 3
    omega
  unfold maxLen at hG2
  generalize grownCap w n 0 29 = G at *
  go_enter Tryd.func43, Tryd.ntmps43
  go_wp2_with (at_builtin; refine Lib.wpList_append_run _ rfl _ _ _ _ rfl _ _ rfl rfl _ _ HR.out ?_)
  go_ret
  exact ⟨_, rfl, HO.out, HB.out⟩
end Go.Proofs.YtmaafhhdbhkplaaDoor
