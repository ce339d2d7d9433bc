/- Which operation and which delta may be, by package delta and by the document; few. -/
import Derived.Test.YtmagcikaepobiaaDoorDIts
import Derived.Laws.EntriesVeiled
namespace Go.Proofs.YtmagcikaepobiaaDoor.Dl
open Go.RowKit

theorem empty_of_size {s : BA} (h : s.size = 0) : s.toList = [] := by
  rw [ByteArray.toList_eq]
  exact List.length_eq_zero_iff.1 (by rw [BA.len]; exact h)
theorem ba_empty {s : BA} (h : s.size = 0) : s = ⟨#[]⟩ := BA.ext (by rw [← ByteArray.toList_eq, empty_of_size h])
theorem size_pos_of {s : BA} (h : s.size ≠ 0) : s.toList.isEmpty = false := by
  rw [ByteArray.toList_eq]
  cases hs : s.data.toList with
  | nil => rw [← BA.len, hs] at h; exact absurd rfl h
  | cons => rfl
theorem toList_ne {s : BA} (h : s.size ≠ 0) : ¬ s.toList = [] := fun e => by
  have := size_pos_of h
  rw [e] at this; cases this
theorem text_cases (s : BA) : s = ByteArray.empty ∨ s.size ≠ 0 := by
  by_cases h : s.size = 0
  · exact .inl (ba_empty h)
  · exact .inr h

set_option maxHeartbeats 1600000 in
theorem isCopy_any (x : Opr) (w : World) (hs : x.t.size ≤ 9223372036854775807) : Calls Tryd.prog 21 #[opV x] w fun e w' => e = .returned (.bool (cpB x)) ∧ Below w.heap.size w w' := by
  obtain ⟨f, n, t⟩ := x
  simp only at hs
  generalize hc : cpB ⟨f, n, t⟩ = c
  unfold cpB at hc
  simp only at hc
  have HC := Lib.hid hc
  clear hc
  rcases text_cases t with rfl | ht
  · go_enter Tryd.func21, Tryd.ntmps21
    go_wp2
    all_goals
      go_ret
      refine ⟨ret_bool ?_, below1 _ _⟩
      rw [← HC.out]
    all_goals first
      | (exact (decide_eq_false (by omega)).symm)
      | (exact decide_eq_decide.2 (by simp; omega))
      | (exact (decide_eq_true ⟨by omega, by omega, by omega, by omega, rfl⟩).symm)
  · have e1 := size_pos_of ht
    have e2 := toList_ne ht
    go_enter Tryd.func21, Tryd.ntmps21
    go_wp2
    all_goals
      go_ret
      refine ⟨ret_bool ?_, below1 _ _⟩
      rw [← HC.out]
      first | exact (decide_eq_false (by omega)).symm | (rw [decide_eq_false (by omega)]; first | rfl | assumption | simpa using e1)
set_option maxHeartbeats 1600000 in
theorem isInsert_any (x : Opr) (w : World) (hs : x.t.size ≤ 9223372036854775807) : Calls Tryd.prog 22 #[opV x] w fun e w' => e = .returned (.bool (inB x)) ∧ Below w.heap.size w w' := by
  obtain ⟨f, n, t⟩ := x
  simp only at hs
  generalize hc : inB ⟨f, n, t⟩ = c
  unfold inB at hc
  simp only at hc
  have HC := Lib.hid hc
  clear hc
  go_enter Tryd.func22, Tryd.ntmps22
  go_wp2
  all_goals
    go_ret
    refine ⟨ret_bool ?_, below1 _ _⟩
    rw [← HC.out]
  all_goals first
    | (exact (decide_eq_false (by omega)).symm)
    | (exact decide_eq_decide.2 (by omega))
set_option maxHeartbeats 1600000 in
theorem rop_any (x : Opr) (w : World) (hs : x.t.size ≤ 9223372036854775807) : Calls Tryd.prog 20 #[opV x] w fun e w' => e = .returned (.bool (okB x)) ∧ Below w.heap.size w w' := by
  obtain ⟨f, n, t⟩ := x
  simp only at hs
  generalize hc : okB ⟨f, n, t⟩ = c
  unfold okB cpB inB at hc
  simp only at hc
  rw [← Bool.decide_or] at hc
  have HC := Lib.hid hc
  clear hc
  rcases text_cases t with rfl | ht
  · have hz : (ByteArray.empty).size = 0 := rfl
    go_enter Tryd.func20, Tryd.ntmps20
    go_wp2
    all_goals
      go_ret
      refine ⟨ret_bool ?_, below1 _ _⟩
      rw [← HC.out]
    all_goals first
      | (exact (decide_eq_false (by omega)).symm)
      | (exact decide_eq_decide.2 (by simp; omega))
      | (exact decide_eq_decide.2 (by omega))
  · have e1 := size_pos_of ht
    have e2 := toList_ne ht
    go_enter Tryd.func20, Tryd.ntmps20
    go_wp2
    all_goals
      go_ret
      refine ⟨ret_bool ?_, below1 _ _⟩
      rw [← HC.out]
    all_goals first
      | (exact (decide_eq_false (by omega)).symm)
      | (exact decide_eq_decide.2 (by omega))
end Go.Proofs.YtmagcikaepobiaaDoor.Dl
