/- The reader: fail, rest, next. -/
import Derived.Test.YtapnieogfddjkaaDoorMem
import Derived.Test.YtapnieogfddjkaaDoorShelf
import Derived.Deep.QuietTactic
import Derived.BigQuiet
import Derived.IntWalk
namespace Go.Proofs.YtapnieogfddjkaaDoor
open Go.RowKit

/-- Block rb is the reader. -/
def RdAt (w : World) (rb : Nat) (s : BA) (o : Nat) (S : St) : Prop := w.heap[rb]? = some (.cells #[.string s, .int .i64 S.1, .int .i64 o, .int .i64 S.2] 33 (0, 0))
section
variable {w w' : World} {rb : Nat} {s : BA} {o : Nat} {S : St}
theorem RdAt.row (h : RdAt w rb s o S) : Row w rb 33 [.string s, .int .i64 S.1, .int .i64 o, .int .i64 S.2] := h
theorem RdAt.lt (h : RdAt w rb s o S) : rb < w.heap.size := (Array.getElem?_eq_some_iff.1 h).1
theorem RdAt.c0 (h : RdAt w rb s o S) : w.cell? ⟨rb, 0, none⟩ = some (.string s) := h.row.cell rfl
theorem RdAt.c1 (h : RdAt w rb s o S) : w.cell? ⟨rb, 1, none⟩ = some (.int .i64 S.1) := h.row.cell rfl
theorem RdAt.c2 (h : RdAt w rb s o S) : w.cell? ⟨rb, 2, none⟩ = some (.int .i64 o) := h.row.cell rfl
theorem RdAt.c3 (h : RdAt w rb s o S) : w.cell? ⟨rb, 3, none⟩ = some (.int .i64 S.2) := h.row.cell rfl
theorem RdAt.thaw (h : RdAt w rb s o S) (i : Nat) : w.frozen? ⟨rb, i, none⟩ = false := h.row.thaw i
theorem RdAt.keep (h : RdAt w rb s o S) (hk : w'.heap[rb]? = w.heap[rb]?) : RdAt w' rb s o S := hk.trans h
theorem RdAt.same (h : RdAt w rb s o S) (hk : Same w w') : RdAt w' rb s o S := h.keep (by rw [hk.heap])
theorem RdAt.below (h : RdAt w rb s o S) (hk : Below w.heap.size w w') : RdAt w' rb s o S := h.keep (hk.block rb h.lt)
theorem RdAt.alloc (h : RdAt w rb s o S) (ob : Obj) : RdAt (w.alloc ob) rb s o S := h.keep (Below.heap_alloc _ _ _ h.lt)
theorem RdAt.set1 (h : RdAt w rb s o S) (a : Nat) : RdAt (w.setCell ⟨rb, 1, none⟩ (.int .i64 a)) rb s o (a, S.2) := h.row.set 1 _
theorem RdAt.set2 (h : RdAt w rb s o S) (p : Nat) : RdAt (w.setCell ⟨rb, 2, none⟩ (.int .i64 p)) rb s p S := h.row.set 2 _
theorem RdAt.set3 (h : RdAt w rb s o S) (e : Nat) : RdAt (w.setCell ⟨rb, 3, none⟩ (.int .i64 e)) rb s o (S.1, e) := h.row.set 3 _
end
theorem fr_set {w : World} {rb : Nat} (i : Nat) (u : Value) : Fr (· = rb) w (w.setCell ⟨rb, i, none⟩ u) := Fr.setCell (X := (· = rb)) (Fr.refl _ w) (p := ⟨rb, i, none⟩) (.inr rfl) u
theorem get_of (s : BA) (k : Nat) (h : k < s.size) : s.data.toList[k]? = some s[k] := by rw [Array.getElem?_toList, Array.getElem?_eq_getElem (show k < s.data.size from h)]; rfl
theorem get_no (s : BA) (k : Nat) (h : ¬ k < s.size) : s.data.toList[k]? = none := by rw [List.getElem?_eq_none]; simp; omega
/-- What is still to be read. -/
def restF (s : BA) (S : St) : BA := if S.2 = 0 then s.extract S.1 s.size else ⟨#[]⟩
theorem rest_live {s : BA} {S : St} (h : S.2 = 0) : (restF s S).data.toList = s.data.toList.drop S.1 := by
  unfold restF; rw [if_pos h]; simp only [ByteArray.data_extract, Array.toList_extract]; rw [List.extract_eq_take_drop, List.take_of_length_le (by simp)]
theorem rest_stuck {s : BA} {S : St} (h : S.2 ≠ 0) : restF s S = ⟨#[]⟩ := by unfold restF; rw [if_neg h]
theorem len_list (s : BA) : s.data.toList.length = s.size := by simp

set_option maxHeartbeats 1600000 in
set_option maxRecDepth 100000 in
theorem fail_any (rb : Nat) (s : BA) (o : Nat) (S : St) (w : World) (_hs : s.size ≤ 2000) (hS : Wf s.data.toList S) (hR : RdAt w rb s o S) :
    Calls Tryd.prog 13 #[.pointer (some ⟨rb, 0, none⟩)] w fun e w' => e = .returned (.tuple #[]) ∧ RdAt w' rb s o (failF s.data.toList S) ∧ Fr (· = rb) w w' := by
  obtain ⟨a, st⟩ := S
  have c0 := hR.c0
  have c1 := hR.c1
  have c3 := hR.c3
  have z3 := hR.thaw 3
  simp only at c1 c3
  have HR := Lib.hid hR
  have hle := hS.1
  rw [len_list] at hle
  simp only at hle
  clear hR hS
  by_cases hst : st = 0
  · subst hst
    by_cases he : a = s.size
    · have HE : Hid (failF s.data.toList (a, 0) = (a, 10)) := Lib.hid (by unfold failF; simp [he])
      have HQ : Hid (RdAt (w.setCell ⟨rb, 3, none⟩ (.int .i64 10)) rb s o (a, 10)) := Lib.hid (HR.out.set3 10)
      have hB : ((a : Int) == (s.size : Int)) = true := by simp; omega
      clear he
      go_enter Tryd.func13, Tryd.ntmps13
      go_wp2
      go_quiet (fail)
      generalize hw0 : w.drewN nq = w2
      have hw2 : Same w w2 := by rw [← hw0]; exact (Same.refl _).drewN _
      have HR2 := Lib.hid (HR.out.same hw2)
      have HF2 : Hid (Fr (· = rb) w w2) := Lib.hid (Fr.of_same hw2)
      clear hw2 hw0 HQ c0 c1 c3 z3
      have z3 := HR2.out.thaw 3
      have c3 := HR2.out.c3
      go_wp2
      go_end0
      exact ⟨rfl, by rw [HE.out]; exact HR2.out.set3 10, HF2.out.trans (fr_set 3 _)⟩
    · have HE : Hid (failF s.data.toList (a, 0) = (a, 90)) := Lib.hid (by unfold failF; simp [he])
      have hB : ((a : Int) == (s.size : Int)) = false := by simp; omega
      clear he
      go_enter Tryd.func13, Tryd.ntmps13
      go_wp2
      go_quiet (fail)
      generalize hw0 : w.drewN nq = w2
      have hw2 : Same w w2 := by rw [← hw0]; exact (Same.refl _).drewN _
      have HR2 := Lib.hid (HR.out.same hw2)
      have HF2 : Hid (Fr (· = rb) w w2) := Lib.hid (Fr.of_same hw2)
      clear hw2 hw0 c0 c1 c3 z3
      have z3 := HR2.out.thaw 3
      have c3 := HR2.out.c3
      go_wp2
      go_end0
      exact ⟨rfl, by rw [HE.out]; exact HR2.out.set3 90, HF2.out.trans (fr_set 3 _)⟩
  · have HE : Hid (failF s.data.toList (a, st) = (a, st)) := Lib.hid (fail_stuck hst)
    have hB : ((st : Int) != (0 : Int)) = true := by simp; omega
    go_enter Tryd.func13, Tryd.ntmps13
    go_wp2
    go_end0
    exact ⟨rfl, by rw [HE.out]; exact HR.out, Fr.refl _ _⟩

set_option maxHeartbeats 1600000 in
set_option maxRecDepth 100000 in
theorem rest_any (rb : Nat) (s : BA) (o : Nat) (S : St) (w : World) (_hs : s.size ≤ 2000) (hS : Wf s.data.toList S) (hR : RdAt w rb s o S) :
    Calls Tryd.prog 22 #[.pointer (some ⟨rb, 0, none⟩)] w fun e w' => e = .returned (.string (restF s S)) ∧ Same w w' := by
  obtain ⟨a, st⟩ := S
  have c0 := hR.c0
  have c1 := hR.c1
  have c3 := hR.c3
  simp only at c1 c3
  have hle := hS.1
  rw [len_list] at hle
  simp only at hle
  clear hR hS
  by_cases hst : st = 0
  · subst hst
    have HE : Hid (restF s (a, 0) = s.extract a s.size) := Lib.hid rfl
    go_enter Tryd.func22, Tryd.ntmps22
    go_wp2
    go_quiet (fail)
    go_wp2
    go_ret
    exact ⟨by rw [HE.out]; rfl, (Same.refl _).drewN _⟩
  · have HE : Hid (restF s (a, st) = ⟨#[]⟩) := Lib.hid (rest_stuck hst)
    have hB : ((st : Int) != (0 : Int)) = true := by simp; omega
    go_enter Tryd.func22, Tryd.ntmps22
    go_wp2
    go_ret
    exact ⟨by rw [HE.out]; rfl, Same.refl _⟩

set_option maxHeartbeats 1600000 in
set_option maxRecDepth 100000 in
theorem next_any (rb : Nat) (s t : BA) (o : Nat) (S : St) (w : World) (hs : s.size ≤ 2000) (hS : Wf s.data.toList S) (ht : 0 < t.size) (hR : RdAt w rb s o S) :
    Calls Tryd.prog 23 #[.pointer (some ⟨rb, 0, none⟩), .string t] w fun e w' => e = .returned (.bool (nextF s.data.toList t.data.toList S)) ∧ Same w w' := by
  have HC := Lib.hid (rest_any rb s o S w hs hS hR)
  have HE : Hid (Lib.hasPrefix (restF s S).data.toList t.data.toList = nextF s.data.toList t.data.toList S) := Lib.hid (by
    unfold nextF
    by_cases h0 : S.2 = 0
    · rw [rest_live h0]; simp [h0, Lib.hasPrefix]
    · rw [rest_stuck h0]; simp only [h0, decide_false, Bool.false_and, Lib.hasPrefix]
      cases ht2 : t.data.toList with
      | nil => have := len_list t; rw [ht2] at this; simp at this; omega
      | cons c r => rfl)
  clear hR hS
  go_enter Tryd.func23, Tryd.ntmps23
  go_wp2_with fail
  refine HC.out.mono ?_
  rintro e w2 ⟨rfl, hw2⟩
  have HW := Lib.hid hw2
  clear hw2 HC
  go_wp2_with fail
  refine (Tryd.strings_HasPrefix _ _ _).mono ?_
  rintro e w3 ⟨rfl, rfl⟩
  go_wp2
  go_ret
  exact ⟨by rw [← HE.out]; rfl, HW.out⟩
end Go.Proofs.YtapnieogfddjkaaDoor
