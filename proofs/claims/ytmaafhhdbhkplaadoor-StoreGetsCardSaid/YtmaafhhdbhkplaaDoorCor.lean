/- Whether an item is corrupt, by package store and by the document. -/
import Derived.Test.YtmaafhhdbhkplaaDoorMk
import Derived.Test.YtmaafhhdbhkplaaDoorRgt
namespace Go.Proofs.YtmaafhhdbhkplaaDoor
open Go.RowKit

/-- The key is not the body's. -/
def corB (x : Itm) : Bool := !(x.k.toList == (leafF x.b).toList)
theorem corB_flip (x : Itm) : (!((leafF x.b).toList == x.k.toList)) = corB x := by
  unfold corB
  rw [Bool.beq_comm]

set_option maxHeartbeats 1600000 in
theorem corrupt_any (x : Itm) (w : World) (ht : Tab w) (hb : x.b.size ≤ 512) : Calls Tryd.prog 25 #[itV x] w fun e w' => e = .returned (.bool (corB x)) ∧ Below w.heap.size w w' := by
  obtain ⟨kk, bb, rr⟩ := x
  simp only at hb
  have HT := Lib.hid ht
  have bc := alloc_cells3 w (.string kk) (.string bb) (.int .i64 rr) 29
  have HW1 : Hid (Below w.heap.size w (w.alloc (.cells #[.string kk, .string bb, .int .i64 rr] 29))) := Lib.hid (below1 _ _)
  have HT1 : Hid (Tab (w.alloc (.cells #[.string kk, .string bb, .int .i64 rr] 29))) := Lib.hid (ht.below (below1 _ _))
  have hl1 : w.heap.size < (w.alloc (.cells #[.string kk, .string bb, .int .i64 rr] 29)).heap.size := by simp
  clear ht
  go_enter Tryd.func25, Tryd.ntmps25
  go_wp2
  generalize w.alloc (.cells #[.string kk, .string bb, .int .i64 rr] 29) = W1 at *
  have HD : Hid (∀ W, Hid (Below W1.heap.size W1 W) → W.cell? ⟨w.heap.size, 0, none⟩ = some (.string kk) ∧ W.cell? ⟨w.heap.size, 1, none⟩ = some (.string bb)) := Lib.hid (fun W h => ⟨(h.out.cell hl1).trans bc.1, (h.out.cell hl1).trans bc.2.1⟩)
  have HC1 : Hid (∀ W, Hid (Below W1.heap.size W1 W) → Calls Tryd.prog 26 #[.string bb] W fun e w' => e = .returned (.string (leafF bb)) ∧ (w'.cell? ⟨w.heap.size, 0, none⟩ = some (.string kk) ∧ w'.cell? ⟨w.heap.size, 1, none⟩ = some (.string bb)) ∧ Hid (Below W1.heap.size W1 w')) :=
    Lib.hid (fun W h => (leaf_any bb W (HT1.out.below h.out) (by omega)).mono fun e w' ⟨he, hb⟩ => ⟨he, HD.out w' (Lib.hid (below_trans h.out hb)), Lib.hid (below_trans h.out hb)⟩)
  have hd0 : Hid (Below W1.heap.size W1 W1.drew) := Lib.hid (Below.refl _ _).drew
  obtain ⟨d0, d1⟩ := HD.out _ hd0
  clear bc
  go_region_held3 (fun W => W.cell? ⟨w.heap.size, 0, none⟩ = some (.string kk) ∧ W.cell? ⟨w.heap.size, 1, none⟩ = some (.string bb)) (first | go_keep | assumption)
    (first | (go_at_call 26; refine (HC1.out _ ?_).mono ?_; assumption; rintro e w2 ⟨rfl, hq2, hb2⟩) | fail)
  go_wp2
  go_ret
  exact ⟨rfl, below_trans HW1.out hb2.out⟩

set_option maxHeartbeats 1600000 in
theorem rot_any (x : Itm) (w : World) (hb : x.b.size ≤ 512) : Calls Tryd.prog 9 #[itV x] w fun e w' => e = .returned (.bool (corB x)) ∧ Below w.heap.size w w' := by
  have HF := Lib.hid (corB_flip x)
  obtain ⟨kk, bb, rr⟩ := x
  simp only at hb
  have bc := alloc_cells3 w (.string kk) (.string bb) (.int .i64 rr) 29
  have HW1 : Hid (Below w.heap.size w (w.alloc (.cells #[.string kk, .string bb, .int .i64 rr] 29))) := Lib.hid (below1 _ _)
  have hl1 : w.heap.size < (w.alloc (.cells #[.string kk, .string bb, .int .i64 rr] 29)).heap.size := by simp
  go_enter Tryd.func9, Tryd.ntmps9
  go_wp2
  generalize w.alloc (.cells #[.string kk, .string bb, .int .i64 rr] 29) = W1 at *
  have HD : Hid (∀ W, Hid (Below W1.heap.size W1 W) → W.cell? ⟨w.heap.size, 0, none⟩ = some (.string kk) ∧ W.cell? ⟨w.heap.size, 1, none⟩ = some (.string bb)) := Lib.hid (fun W h => ⟨(h.out.cell hl1).trans bc.1, (h.out.cell hl1).trans bc.2.1⟩)
  have HC1 : Hid (∀ W, Hid (Below W1.heap.size W1 W) → Calls Tryd.prog 23 #[.string bb] W fun e w' => e = .returned (.string (leafF bb)) ∧ (w'.cell? ⟨w.heap.size, 0, none⟩ = some (.string kk) ∧ w'.cell? ⟨w.heap.size, 1, none⟩ = some (.string bb)) ∧ Hid (Below W1.heap.size W1 w')) :=
    Lib.hid (fun W h => (rleaf_any bb W (by omega)).mono fun e w' ⟨he, hb⟩ => ⟨he, HD.out w' (Lib.hid (below_trans h.out hb)), Lib.hid (below_trans h.out hb)⟩)
  have hd0 : Hid (Below W1.heap.size W1 W1.drew) := Lib.hid (Below.refl _ _).drew
  obtain ⟨d0, d1⟩ := HD.out _ hd0
  clear bc
  go_region_held3 (fun W => W.cell? ⟨w.heap.size, 0, none⟩ = some (.string kk) ∧ W.cell? ⟨w.heap.size, 1, none⟩ = some (.string bb)) (first | go_keep | assumption)
    (first | (go_at_call 23; refine (HC1.out _ ?_).mono ?_; assumption; rintro e w2 ⟨rfl, hq2, hb2⟩) | fail)
  go_wp2
  go_ret
  exact ⟨by rw [← HF.out]; rfl, below_trans HW1.out hb2.out⟩
end Go.Proofs.YtmaafhhdbhkplaaDoor
