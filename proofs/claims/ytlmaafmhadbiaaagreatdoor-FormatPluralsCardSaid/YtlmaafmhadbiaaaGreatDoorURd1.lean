/- The reader: next, word, peek. -/
import Derived.Test.YtlmaafmhadbiaaaGreatDoorUMem
import Derived.Test.YtlmaafmhadbiaaaGreatDoorShelf
import Derived.Deep.QuietTactic
import Derived.BigQuiet
import Derived.IntWalk
namespace Go.Proofs.YtlmaafmhadbiaaaGreatDoor.Pu
open Go.RowKit

/-- Block rb is the reader. -/
def RdAt (w : World) (rb : Nat) (s : BA) (S : St) : Prop := w.heap[rb]? = some (.cells #[.string s, .int .i64 S.1, .bool S.2] 110 (0, 0))
theorem RdAt.lt {w : World} {rb : Nat} {s : BA} {S : St} (h : RdAt w rb s S) : rb < w.heap.size := (Array.getElem?_eq_some_iff.1 h).1
theorem RdAt.c0 {w : World} {rb : Nat} {s : BA} {S : St} (h : RdAt w rb s S) : w.cell? ⟨rb, 0, none⟩ = some (.string s) := by simp [World.cell?, RdAt] at *; simp [h]
theorem RdAt.c1 {w : World} {rb : Nat} {s : BA} {S : St} (h : RdAt w rb s S) : w.cell? ⟨rb, 1, none⟩ = some (.int .i64 S.1) := by simp [World.cell?, RdAt] at *; simp [h]
theorem RdAt.c2 {w : World} {rb : Nat} {s : BA} {S : St} (h : RdAt w rb s S) : w.cell? ⟨rb, 2, none⟩ = some (.bool S.2) := by simp [World.cell?, RdAt] at *; simp [h]
theorem RdAt.thaw {w : World} {rb : Nat} {s : BA} {S : St} (h : RdAt w rb s S) (i : Nat) : w.frozen? ⟨rb, i, none⟩ = false := by simp [World.frozen?, RdAt] at *; simp [h]
theorem RdAt.keep {w w' : World} {rb : Nat} {s : BA} {S : St} (h : RdAt w rb s S) (hk : w'.heap[rb]? = w.heap[rb]?) : RdAt w' rb s S := hk.trans h
theorem RdAt.same {w w' : World} {rb : Nat} {s : BA} {S : St} (h : RdAt w rb s S) (hk : Same w w') : RdAt w' rb s S := h.keep (by rw [hk.heap])
theorem RdAt.below {w w' : World} {rb : Nat} {s : BA} {S : St} (h : RdAt w rb s S) (hk : Below w.heap.size w w') : RdAt w' rb s S := h.keep (hk.block rb h.lt)
theorem RdAt.alloc {w : World} {rb : Nat} {s : BA} {S : St} (h : RdAt w rb s S) (o : Obj) : RdAt (w.alloc o) rb s S := h.keep (Below.heap_alloc _ _ _ h.lt)
theorem RdAt.set1 {w : World} {rb : Nat} {s : BA} {S : St} (h : RdAt w rb s S) (a : Nat) : RdAt (w.setCell ⟨rb, 1, none⟩ (.int .i64 a)) rb s (a, S.2) := by
  unfold RdAt at *
  simp [World.setCell, Array.getElem?_modify, h]
theorem RdAt.set2 {w : World} {rb : Nat} {s : BA} {S : St} (h : RdAt w rb s S) (b : Bool) : RdAt (w.setCell ⟨rb, 2, none⟩ (.bool b)) rb s (S.1, b) := by
  unfold RdAt at *
  simp [World.setCell, Array.getElem?_modify, h]
theorem fr_set {w : World} {rb : Nat} (i : Nat) (u : Value) : Fr (· = rb) w (w.setCell ⟨rb, i, none⟩ u) := Fr.setCell (X := (· = rb)) (Fr.refl _ w) (p := ⟨rb, i, none⟩) (.inr rfl) u
theorem Same.fr {X : Nat → Prop} {w w' : World} (h : Same w w') : Fr X w w' := Fr.of_same h
theorem next_stuck (l t : List UInt8) (a : Nat) : nextF l t (a, true) = false := rfl
theorem next_live (l t : List UInt8) (a : Nat) : nextF l t (a, false) = Lib.hasPrefix (l.drop a) t := rfl

set_option maxHeartbeats 1600000 in
set_option maxRecDepth 100000 in
theorem next_any (rb : Nat) (s t : BA) (S : St) (w : World) (_hs : s.size ≤ 400) (hS : S.1 ≤ s.size) (hR : RdAt w rb s S) :
    Calls Tryz.prog 94 #[.pointer (some ⟨rb, 0, none⟩), .string t] w fun e w' => e = .returned (.bool (nextF s.data.toList t.data.toList S)) ∧ Same w w' := by
  obtain ⟨a, st⟩ := S
  have c0 := hR.c0
  have c1 := hR.c1
  have c2 := hR.c2
  simp only at hS c1 c2
  clear hR
  cases st with
  | true =>
    go_enter Tryz.func94, Tryz.ntmps94
    go_wp2
    go_quiet (fail)
    go_wp2
    go_ret
    exact ⟨rfl, (Same.refl _).drewN _⟩
  | false =>
    go_enter Tryz.func94, Tryz.ntmps94
    go_wp2
    go_quiet ((go_at_call 109; exact Calls.quiet_of_same (Tryz.strings_HasPrefix _ _ _)))
    go_wp2
    go_ret
    exact ⟨ret_bool (by rw [next_live, List.take_of_length_le (by simp)]), (Same.refl _).drewN _⟩

/-- The byte that comes next, or 0. -/
def peekF (l : List UInt8) (S : St) : Nat := if S.2 then 0 else match l[S.1]? with | some c => c.toNat | none => 0
theorem get_of (s : BA) (k : Nat) (h : k < s.size) : s.data.toList[k]? = some s[k] := by rw [Array.getElem?_toList, Array.getElem?_eq_getElem (show k < s.data.size from h)]; rfl
theorem get_no (s : BA) (k : Nat) (h : ¬ k < s.size) : s.data.toList[k]? = none := by rw [List.getElem?_eq_none]; simp; omega

set_option maxHeartbeats 1600000 in
set_option maxRecDepth 100000 in
theorem peek_any (rb : Nat) (s : BA) (S : St) (w : World) (_hs : s.size ≤ 400) (hS : S.1 ≤ s.size) (hR : RdAt w rb s S) :
    Calls Tryz.prog 120 #[.pointer (some ⟨rb, 0, none⟩)] w fun e w' => e = .returned (.int .u8 (peekF s.data.toList S : Nat)) ∧ Same w w' := by
  obtain ⟨a, st⟩ := S
  have c0 := hR.c0
  have c1 := hR.c1
  have c2 := hR.c2
  simp only at hS c1 c2
  clear hR
  cases st with
  | true =>
    go_enter Tryz.func120, Tryz.ntmps120
    go_wp2
    go_quiet (fail)
    go_wp2
    go_ret
    exact ⟨rfl, (Same.refl _).drewN _⟩
  | false =>
    by_cases hlt : a < s.size
    · have hP : Hid (peekF s.data.toList (a, false) = s[a].toNat) := Lib.hid (by unfold peekF; simp only [Bool.false_eq_true, if_false]; rw [get_of s a hlt])
      have hB : ((a : Int) == (s.size : Int)) = false := by simp; omega
      rw [hP.out]
      go_enter Tryz.func120, Tryz.ntmps120
      go_wp2
      go_quiet (fail)
      go_wp2
      go_quiet (fail)
      go_wp2
      go_ret
      exact ⟨rfl, ((Same.refl _).drewN _).drewN _⟩
    · have hP : Hid (peekF s.data.toList (a, false) = 0) := Lib.hid (by unfold peekF; simp only [Bool.false_eq_true, if_false]; rw [get_no s a hlt])
      have hB : ((a : Int) == (s.size : Int)) = true := by simp; omega
      rw [hP.out]
      go_enter Tryz.func120, Tryz.ntmps120
      go_wp2
      go_quiet (fail)
      go_wp2
      go_ret
      exact ⟨rfl, (Same.refl _).drewN _⟩

theorem extract_one (t : BA) (k : Nat) (h : k < t.size) : (ByteArray.extract t k (k + 1)).data.toList = [t[k]] := by
  have h1 := get_of t k h
  have h2 : (ByteArray.extract t k (k + 1)).data.toList = (t.data.toList.drop k).take (k + 1 - k) := by simp [ByteArray.data_extract]
  rw [h2, show k + 1 - k = 1 by omega, List.take_one, List.head?_drop, h1]; rfl
theorem drop_at {l : List UInt8} {k : Nat} {c : UInt8} (h : l[k]? = some c) : l.drop k = c :: l.drop (k + 1) := by
  obtain ⟨hi, rfl⟩ := List.getElem?_eq_some_iff.1 h
  exact List.drop_eq_getElem_cons hi
theorem word_yes {l r : List UInt8} {c : UInt8} {S : St} (h : nextF l [c] S = true) : wordF l (c :: r) S = wordF l r (S.1 + 1, false) := by rw [wordF, if_pos h]
theorem word_no {l r : List UInt8} {c : UInt8} {S : St} (h : nextF l [c] S = false) : wordF l (c :: r) S = (S.1, true) := by rw [wordF, h]; rfl

set_option maxHeartbeats 1600000 in
set_option maxRecDepth 100000 in
theorem word_any (rb : Nat) (s t : BA) (S : St) (w : World) (hs : s.size ≤ 400) (ht : t.size ≤ 100) (hS : S.1 ≤ s.size) (hR : RdAt w rb s S) :
    Calls Tryz.prog 77 #[.pointer (some ⟨rb, 0, none⟩), .string t] w fun e w' => e = .returned (.tuple #[]) ∧ RdAt w' rb s (wordF s.data.toList t.data.toList S) ∧ Fr (· = rb) w w' := by
  have HR := Lib.hid hR
  clear hR
  go_enter Tryz.func77, Tryz.ntmps77
  go_wp2
  go_loopw [7] (fun i wr => ∃ (k : Nat) (T : St), k ≤ t.size ∧ i = .int .i64 k ∧ T.1 ≤ s.size ∧ Hid (RdAt wr rb s T) ∧ Hid (Fr (· = rb) w wr) ∧ Hid (wordF s.data.toList t.data.toList S = wordF s.data.toList (t.data.toList.drop k) T)) (fun i _ => t.size - (intOf i).toNat)
  case atStart => exact ⟨0, S, by omega, rfl, hS, HR, Lib.hid (Fr.refl _ _), Lib.hid (by rw [List.drop_zero])⟩
  case round =>
    obtain ⟨k, T, hk, rfl, hT, HRT, HF, HW⟩ := hrel
    clear HR
    by_cases hlt : k < t.size
    · have hc := get_of t k hlt
      have HD := Lib.hid (HW.out.trans (by rw [drop_at hc]))
      have HN := Lib.hid (fun (t1 : BA) => next_any rb s t1 T wr hs hT HRT.out)
      have HX : Hid ((ByteArray.extract t k (k + 1)).data.toList = [t[k]]) := Lib.hid (by rw [extract_one t k hlt])
      clear hc HW
      generalize t[k] = c at *
      go_wp2_with fail
      refine (HN.out _).mono ?_
      rintro e w2 ⟨rfl, hw2⟩
      rw [HX.out]
      have HR2 := Lib.hid (HRT.out.same hw2)
      have HF2 := Lib.hid (HF.out.trans (Fr.of_same hw2))
      clear hw2 HN HX
      have c1 := HR2.out.c1
      have c2 := HR2.out.c2
      have z1 := HR2.out.thaw 1
      have z2 := HR2.out.thaw 2
      cases hb : nextF s.data.toList [c] T with
      | true =>
        have HW2 := Lib.hid (HD.out.trans (word_yes hb))
        have HL : Hid (T.1 + 1 ≤ s.size) := Lib.hid (by have := get_lt (next_iff.1 hb).2; simp at this; omega)
        have HQ : Hid (RdAt (w2.setCell ⟨rb, 1, none⟩ (.int .i64 ((T.1 : Int) + 1))) rb s (T.1 + 1, false)) := Lib.hid (by have h := HR2.out.set1 (T.1 + 1); rw [(next_iff.1 hb).1] at h; exact h)
        have HF3 : Hid (Fr (· = rb) w (w2.setCell ⟨rb, 1, none⟩ (.int .i64 ((T.1 : Int) + 1)))) := Lib.hid (HF2.out.trans (fr_set 1 _))
        clear hb HD
        go_wp2
        go_roundw
        case rel => exact ⟨k + 1, (T.1 + 1, false), by omega, by go_num, HL.out, HQ, HF3, HW2⟩
        case measure => simp [intOf]; omega
      | false =>
        have HW2 := Lib.hid (HD.out.trans (word_no hb))
        have HQ : Hid (RdAt (w2.setCell ⟨rb, 2, none⟩ (.bool true)) rb s (T.1, true)) := Lib.hid (HR2.out.set2 true)
        have HF3 : Hid (Fr (· = rb) w (w2.setCell ⟨rb, 2, none⟩ (.bool true))) := Lib.hid (HF2.out.trans (fr_set 2 _))
        clear hb HD
        go_wp2
        exact bodyPost_ret (v := .tuple #[]) (by simp [results, Tryz.results77, go_sem]) rfl ⟨rfl, by rw [HW2.out]; exact HQ.out, HF3.out⟩
    · have HD : Hid (t.data.toList.drop k = []) := Lib.hid (by rw [List.drop_eq_nil_iff]; simp; omega)
      go_wp2
      go_end0
      exact ⟨rfl, by rw [HW.out, HD.out]; exact HRT.out, HF.out⟩
end Go.Proofs.YtlmaafmhadbiaaaGreatDoor.Pu
