/- The reader: fail, rest, next. -/
import Derived.Deep.QuietTactic
import Derived.BigQuiet
import Derived.IntWalk
import Derived.Test.YtdnedbcmgkilaaaGreatDoorChecked
import Derived.WalkKit
import Derived.Lib.Hide
import Derived.Test.YtdnedbcmgkilaaaGreatDoorZB

section

namespace Go.Proofs.YtdnedbcmgkilaaaGreatDoor
open Go.RowKit

/-- Block rb is the reader. -/
def RdAt (w : World) (rb : Nat) (s : BA) (o : Nat) (S : St) : Prop := w.heap[rb]? = some (.cells #[.string s, .int .i64 S.1, .int .i64 o, .int .i64 S.2] 109 (0, 0))
section
variable {w w' : World} {rb : Nat} {s : BA} {o : Nat} {S : St}
theorem RdAt.row (h : RdAt w rb s o S) : Row w rb 109 [.string s, .int .i64 S.1, .int .i64 o, .int .i64 S.2] := h
theorem RdAt.lt (h : RdAt w rb s o S) : rb < w.heap.size := (Array.getElem?_eq_some_iff.1 h).1
theorem RdAt.c0 (h : RdAt w rb s o S) : w.cell? ⟨rb, 0, none⟩ = some (.string s) := h.row.cell rfl
theorem RdAt.c1 (h : RdAt w rb s o S) : w.cell? ⟨rb, 1, none⟩ = some (.int .i64 S.1) := h.row.cell rfl
theorem RdAt.c2 (h : RdAt w rb s o S) : w.cell? ⟨rb, 2, none⟩ = some (.int .i64 o) := h.row.cell rfl
theorem RdAt.c3 (h : RdAt w rb s o S) : w.cell? ⟨rb, 3, none⟩ = some (.int .i64 S.2) := h.row.cell rfl
theorem RdAt.thaw (h : RdAt w rb s o S) (i : Nat) : w.frozen? ⟨rb, i, none⟩ = false := h.row.thaw i
theorem RdAt.keep (h : RdAt w rb s o S) (hk : w'.heap[rb]? = w.heap[rb]?) : RdAt w' rb s o S := hk.trans h
theorem RdAt.same (h : RdAt w rb s o S) (hk : Same w w') : RdAt w' rb s o S := h.keep (by rw [hk.heap])
theorem RdAt.below (h : RdAt w rb s o S) (hk : Below w.heap.size w w') : RdAt w' rb s o S := h.keep (hk.block rb h.lt)
theorem RdAt.alloc (h : RdAt w rb s o S) (ob : Obj) : RdAt (w.alloc ob) rb s o S := h.keep (Below.heap_alloc _ _ _ h.lt)
theorem RdAt.set1 (h : RdAt w rb s o S) (a : Nat) : RdAt (w.setCell ⟨rb, 1, none⟩ (.int .i64 a)) rb s o (a, S.2) := h.row.set 1 _
theorem RdAt.set2 (h : RdAt w rb s o S) (p : Nat) : RdAt (w.setCell ⟨rb, 2, none⟩ (.int .i64 p)) rb s p S := h.row.set 2 _
theorem RdAt.set3 (h : RdAt w rb s o S) (e : Nat) : RdAt (w.setCell ⟨rb, 3, none⟩ (.int .i64 e)) rb s o (S.1, e) := h.row.set 3 _
end
theorem fr_set {w : World} {rb : Nat} (i : Nat) (u : Value) : Fr (· = rb) w (w.setCell ⟨rb, i, none⟩ u) := Fr.setCell (X := (· = rb)) (Fr.refl _ w) (p := ⟨rb, i, none⟩) (.inr rfl) u
/-- What is still to be read. -/
def restF (s : BA) (S : St) : BA := if S.2 = 0 then s.extract S.1 s.size else ⟨#[]⟩
theorem rest_live {s : BA} {S : St} (h : S.2 = 0) : (restF s S).data.toList = s.data.toList.drop S.1 := by
  unfold restF; rw [if_pos h]; simp only [ByteArray.data_extract, Array.toList_extract]; rw [List.extract_eq_take_drop, List.take_of_length_le (by simp)]
theorem rest_stuck {s : BA} {S : St} (h : S.2 ≠ 0) : restF s S = ⟨#[]⟩ := by unfold restF; rw [if_neg h]

set_option maxHeartbeats 1600000 in
set_option maxRecDepth 100000 in
theorem fail_any (rb : Nat) (s : BA) (o : Nat) (S : St) (w : World) (_hs : s.size ≤ 2000) (hS : Wf s.data.toList S) (hR : RdAt w rb s o S) :
    Calls Tryz.prog 79 #[.pointer (some ⟨rb, 0, none⟩)] w fun e w' => e = .returned (.tuple #[]) ∧ RdAt w' rb s o (failF s.data.toList S) ∧ Fr (· = rb) w w' := by
  obtain ⟨a, st⟩ := S
  have c0 := hR.c0
  have c1 := hR.c1
  have c3 := hR.c3
  have z3 := hR.thaw 3
  simp only at c1 c3
  have HR := Lib.hid hR
  have hle := hS.1
  rw [len_list] at hle
  simp only at hle
  clear hR hS
  by_cases hst : st = 0
  · subst hst
    by_cases he : a = s.size
    · have HE : Hid (failF s.data.toList (a, 0) = (a, 10)) := Lib.hid (by unfold failF; simp [he])
      have HQ : Hid (RdAt (w.setCell ⟨rb, 3, none⟩ (.int .i64 10)) rb s o (a, 10)) := Lib.hid (HR.out.set3 10)
      have hB : ((a : Int) == (s.size : Int)) = true := by simp; omega
      clear he
      go_enter Tryz.func79, Tryz.ntmps79
      go_wp2
      go_quiet (fail)
      generalize hw0 : w.drewN nq = w2
      have hw2 : Same w w2 := by rw [← hw0]; exact (Same.refl _).drewN _
      have HR2 := Lib.hid (HR.out.same hw2)
      have HF2 : Hid (Fr (· = rb) w w2) := Lib.hid (Fr.of_same hw2)
      clear hw2 hw0 HQ c0 c1 c3 z3
      have z3 := HR2.out.thaw 3
      have c3 := HR2.out.c3
      go_wp2
      go_end0
      exact ⟨rfl, by rw [HE.out]; exact HR2.out.set3 10, HF2.out.trans (fr_set 3 _)⟩
    · have HE : Hid (failF s.data.toList (a, 0) = (a, 90)) := Lib.hid (by unfold failF; simp [he])
      have hB : ((a : Int) == (s.size : Int)) = false := by simp; omega
      clear he
      go_enter Tryz.func79, Tryz.ntmps79
      go_wp2
      go_quiet (fail)
      generalize hw0 : w.drewN nq = w2
      have hw2 : Same w w2 := by rw [← hw0]; exact (Same.refl _).drewN _
      have HR2 := Lib.hid (HR.out.same hw2)
      have HF2 : Hid (Fr (· = rb) w w2) := Lib.hid (Fr.of_same hw2)
      clear hw2 hw0 c0 c1 c3 z3
      have z3 := HR2.out.thaw 3
      have c3 := HR2.out.c3
      go_wp2
      go_end0
      exact ⟨rfl, by rw [HE.out]; exact HR2.out.set3 90, HF2.out.trans (fr_set 3 _)⟩
  · have HE : Hid (failF s.data.toList (a, st) = (a, st)) := Lib.hid (fail_stuck hst)
    have hB : ((st : Int) != (0 : Int)) = true := by simp; omega
    go_enter Tryz.func79, Tryz.ntmps79
    go_wp2
    go_end0
    exact ⟨rfl, by rw [HE.out]; exact HR.out, Fr.refl _ _⟩

set_option maxHeartbeats 1600000 in
set_option maxRecDepth 100000 in
theorem rest_any (rb : Nat) (s : BA) (o : Nat) (S : St) (w : World) (_hs : s.size ≤ 2000) (hS : Wf s.data.toList S) (hR : RdAt w rb s o S) :
    Calls Tryz.prog 114 #[.pointer (some ⟨rb, 0, none⟩)] w fun e w' => e = .returned (.string (restF s S)) ∧ Same w w' := by
  obtain ⟨a, st⟩ := S
  have c0 := hR.c0
  have c1 := hR.c1
  have c3 := hR.c3
  simp only at c1 c3
  have hle := hS.1
  rw [len_list] at hle
  simp only at hle
  clear hR hS
  by_cases hst : st = 0
  · subst hst
    have HE : Hid (restF s (a, 0) = s.extract a s.size) := Lib.hid rfl
    go_enter Tryz.func114, Tryz.ntmps114
    go_wp2
    go_quiet (fail)
    go_wp2
    go_ret
    exact ⟨by rw [HE.out]; rfl, (Same.refl _).drewN _⟩
  · have HE : Hid (restF s (a, st) = ⟨#[]⟩) := Lib.hid (rest_stuck hst)
    have hB : ((st : Int) != (0 : Int)) = true := by simp; omega
    go_enter Tryz.func114, Tryz.ntmps114
    go_wp2
    go_ret
    exact ⟨by rw [HE.out]; rfl, Same.refl _⟩

set_option maxHeartbeats 1600000 in
set_option maxRecDepth 100000 in
theorem next_any (rb : Nat) (s t : BA) (o : Nat) (S : St) (w : World) (hs : s.size ≤ 2000) (hS : Wf s.data.toList S) (ht : 0 < t.size) (hR : RdAt w rb s o S) :
    Calls Tryz.prog 115 #[.pointer (some ⟨rb, 0, none⟩), .string t] w fun e w' => e = .returned (.bool (nextF s.data.toList t.data.toList S)) ∧ Same w w' := by
  have HC := Lib.hid (rest_any rb s o S w hs hS hR)
  have HE : Hid (Lib.hasPrefix (restF s S).data.toList t.data.toList = nextF s.data.toList t.data.toList S) := Lib.hid (by
    unfold nextF
    by_cases h0 : S.2 = 0
    · rw [rest_live h0]; simp [h0, Lib.hasPrefix]
    · rw [rest_stuck h0]; simp only [h0, decide_false, Bool.false_and, Lib.hasPrefix]
      cases ht2 : t.data.toList with
      | nil => have := len_list t; rw [ht2] at this; simp at this; omega
      | cons c r => rfl)
  clear hR hS
  go_enter Tryz.func115, Tryz.ntmps115
  go_wp2_with fail
  refine HC.out.mono ?_
  rintro e w2 ⟨rfl, hw2⟩
  have HW := Lib.hid hw2
  clear hw2 HC
  go_wp2_with fail
  refine (Tryz.strings_HasPrefix _ _ _).mono ?_
  rintro e w3 ⟨rfl, rfl⟩
  go_wp2
  go_ret
  exact ⟨by rw [← HE.out]; rfl, HW.out⟩
end Go.Proofs.YtdnedbcmgkilaaaGreatDoor

end

/- The reader: oneOf, word, longest. -/
section

namespace Go.Proofs.YtdnedbcmgkilaaaGreatDoor
open Go.RowKit

theorem wf_le {s : BA} {S : St} (h : Wf s.data.toList S) : S.1 ≤ s.size := by have := h.1; rw [len_list] at this; exact this
theorem ge_wf {l : List UInt8} {S T : St} (h : Ge l S T) (hS : Wf l S) : Wf l T := h.2.1 hS
theorem rest_cons {s : BA} {S : St} {c : UInt8} (h0 : S.2 = 0) (hx : s.data.toList[S.1]? = some c) : ∃ r, restF s S = ⟨(c :: r).toArray⟩ ∧ (c :: r).length + S.1 = s.size ∧ c :: r = s.data.toList.drop S.1 := by
  obtain ⟨hi, he⟩ := List.getElem?_eq_some_iff.1 hx
  refine ⟨s.data.toList.drop (S.1 + 1), ?_, ?_, ?_⟩
  · have h := rest_live (s := s) h0
    rw [List.drop_eq_getElem_cons hi, he] at h
    rw [← h]
  · have := len_list s; simp at hi ⊢; omega
  · rw [List.drop_eq_getElem_cons hi, he]
theorem rest_none {s : BA} {S : St} (hx : S.2 = 0 → s.data.toList[S.1]? = none) : restF s S = ⟨#[]⟩ := by
  by_cases h0 : S.2 = 0
  · have h := rest_live (s := s) h0
    have := hx h0
    rw [List.getElem?_eq_none_iff] at this
    rw [List.drop_eq_nil_iff.2 this] at h
    cases hr : restF s S with
    | mk d => rw [hr] at h; simp at h; rw [h]
  · exact rest_stuck h0
theorem one_in {l m : List UInt8} {S : St} {c : UInt8} (h0 : S.2 = 0) (hx : l[S.1]? = some c) (hm : c ∈ m) : oneF l m S = ([c], (S.1 + 1, 0)) := by
  unfold oneF; rw [if_pos h0, hx]; simp [hm]
theorem one_out {l m : List UInt8} {S : St} (h : ∀ c, S.2 = 0 → l[S.1]? = some c → c ∉ m) : oneF l m S = ([], failF l S) := by
  unfold oneF
  split
  · rename_i h0
    split
    · rename_i c hc; rw [if_neg (h c h0 hc)]
    · rfl
  · rename_i h0; rw [fail_stuck h0]
theorem index_mem : ∀ (m : List UInt8) (c : UInt8), decide (0 ≤ Lib.indexByte m c) = decide (c ∈ m)
  | [], c => rfl
  | b :: l, c => by
    have ih := index_mem l c
    have hge := Lib.indexByte_ge l c
    rw [Lib.indexByte]
    by_cases hbc : b = c
    · subst hbc; simp
    · have hcb : ¬ c = b := fun e => hbc e.symm
      rw [if_neg (by simp [hbc])]
      simp only [decide_eq_decide] at ih ⊢
      rw [List.mem_cons]
      by_cases h1 : Lib.indexByte l c = -1
      · rw [if_pos (by simp [h1])]
        rw [h1] at ih
        constructor
        · intro h; omega
        · rintro (h | h)
          · exact absurd h hcb
          · have := ih.2 h; omega
      · rw [if_neg (by simp [h1])]
        constructor
        · intro h; exact .inr (ih.1 (by omega))
        · intro _; omega

set_option maxHeartbeats 1600000 in
set_option maxRecDepth 100000 in
theorem one_any (rb : Nat) (s m : BA) (o : Nat) (S : St) (w : World) (hs : s.size ≤ 2000) (hS : Wf s.data.toList S) (hR : RdAt w rb s o S) :
    Calls Tryz.prog 192 #[.pointer (some ⟨rb, 0, none⟩), .string m] w fun e w' => e = .returned (.string (ba (oneF s.data.toList m.data.toList S).1)) ∧ RdAt w' rb s o (oneF s.data.toList m.data.toList S).2 ∧ Fr (· = rb) w w' := by
  have HC := Lib.hid (rest_any rb s o S w hs hS hR)
  have HF := Lib.hid (fun w2 (h : RdAt w2 rb s o S) => fail_any rb s o S w2 hs hS h)
  have HR := Lib.hid hR
  have hle := wf_le hS
  clear hR
  by_cases hx : ∃ c, S.2 = 0 ∧ s.data.toList[S.1]? = some c
  · obtain ⟨c, h0, hx⟩ := hx
    obtain ⟨r, hr1, hr2, -⟩ := rest_cons h0 hx
    have hsz := size_cons c r
    have hex := extract01 c r
    have hcc : (c :: r).length = r.length + 1 := rfl
    have hne : ((⟨(c :: r).toArray⟩ : BA).toList.isEmpty) = false := by rw [ByteArray.toList_eq]; rfl
    rw [hr1] at HC
    have HI := Lib.hid (index_mem m.data.toList c)
    by_cases hm : c ∈ m.data.toList
    · have HE := Lib.hid (one_in h0 hx hm)
      rw [decide_eq_true hm] at HI
      obtain ⟨a, st⟩ := S
      simp only at h0 hr2 hle HE
      subst h0
      clear hx hm hr1
      go_enter Tryz.func192, Tryz.ntmps192
      go_wp2_with fail
      refine HC.out.mono ?_
      rintro e w2 ⟨rfl, hw2⟩
      have HR2 := Lib.hid (HR.out.same hw2)
      have HF2 : Hid (Fr (· = rb) w w2) := Lib.hid (Fr.of_same hw2)
      clear hw2 HC
      generalize (⟨(c :: r).toArray⟩ : BA) = R at *
      go_wp2_with fail
      refine (Tryz.strings_Contains_one _ _ _).mono ?_
      rintro e w3 ⟨rfl, rfl⟩
      rw [HI.out]
      have c1 := HR2.out.c1
      have z1 := HR2.out.thaw 1
      simp only at c1
      go_wp2
      go_ret
      rw [HE.out]
      exact ⟨rfl, HR2.out.set1 (a + 1), HF2.out.trans (fr_set 1 _)⟩
    · have HE := Lib.hid (one_out (l := s.data.toList) (m := m.data.toList) (S := S) (fun d _ hd => by rw [hx] at hd; injection hd with hd; rw [← hd]; exact hm))
      rw [decide_eq_false hm] at HI
      clear hx hm hr1
      go_enter Tryz.func192, Tryz.ntmps192
      go_wp2_with fail
      refine HC.out.mono ?_
      rintro e w2 ⟨rfl, hw2⟩
      have HR2 := Lib.hid (HR.out.same hw2)
      have HF2 : Hid (Fr (· = rb) w w2) := Lib.hid (Fr.of_same hw2)
      clear hw2 HC
      generalize (⟨(c :: r).toArray⟩ : BA) = R at *
      go_wp2_with fail
      refine (Tryz.strings_Contains_one _ _ _).mono ?_
      rintro e w3 ⟨rfl, rfl⟩
      rw [HI.out]
      go_wp2_with fail
      refine (HF.out _ HR2.out).mono ?_
      rintro e w4 ⟨rfl, hr4, hf4⟩
      have HR4 := Lib.hid hr4
      have HF4 := Lib.hid (HF2.out.trans hf4)
      clear hr4 hf4
      go_wp2
      go_ret
      rw [HE.out]
      exact ⟨rfl, HR4.out, HF4.out⟩
  · have hr1 : restF s S = ⟨#[]⟩ := rest_none (fun h0 => by
      cases hq : s.data.toList[S.1]? with
      | none => rfl
      | some c => exact absurd ⟨c, h0, hq⟩ hx)
    have HE := Lib.hid (one_out (l := s.data.toList) (m := m.data.toList) (S := S) (fun d h0 hd => absurd ⟨d, h0, hd⟩ hx))
    rw [hr1] at HC
    clear hr1 hx
    go_enter Tryz.func192, Tryz.ntmps192
    go_wp2_with fail
    refine HC.out.mono ?_
    rintro e w2 ⟨rfl, hw2⟩
    have HR2 := Lib.hid (HR.out.same hw2)
    have HF2 : Hid (Fr (· = rb) w w2) := Lib.hid (Fr.of_same hw2)
    clear hw2 HC
    go_wp2_with fail
    refine (HF.out _ HR2.out).mono ?_
    rintro e w4 ⟨rfl, hr4, hf4⟩
    have HR4 := Lib.hid hr4
    have HF4 := Lib.hid (HF2.out.trans hf4)
    clear hr4 hf4
    go_wp2
    go_ret
    rw [HE.out]
    exact ⟨rfl, HR4.out, HF4.out⟩


set_option maxHeartbeats 1600000 in
set_option maxRecDepth 100000 in
theorem word_any (rb : Nat) (s t : BA) (o : Nat) (S : St) (w : World) (hs : s.size ≤ 2000) (ht : t.size ≤ 100) (hS : Wf s.data.toList S) (hR : RdAt w rb s o S) :
    Calls Tryz.prog 155 #[.pointer (some ⟨rb, 0, none⟩), .string t] w fun e w' => e = .returned (.tuple #[]) ∧ RdAt w' rb s o (wordF s.data.toList t.data.toList S) ∧ Fr (· = rb) w w' := by
  have HR := Lib.hid hR
  have HS := Lib.hid hS
  clear hR hS
  go_enter Tryz.func155, Tryz.ntmps155
  go_wp2
  go_loopw [7] (fun i wr => ∃ (k : Nat) (T : St), k ≤ t.size ∧ i = .int .i64 k ∧ Hid (Wf s.data.toList T) ∧ Hid (RdAt wr rb s o T) ∧ Hid (Fr (· = rb) w wr) ∧ Hid (wordF s.data.toList t.data.toList S = wordF s.data.toList (t.data.toList.drop k) T)) (fun i _ => t.size - (intOf i).toNat)
  case atStart => exact ⟨0, S, by omega, rfl, HS, HR, Lib.hid (Fr.refl _ _), Lib.hid (by rw [List.drop_zero])⟩
  case round =>
    obtain ⟨k, T, hk, rfl, HT, HRT, HF, HW⟩ := hrel
    clear HR
    by_cases hlt : k < t.size
    · have hc := get_of t k hlt
      have HD := Lib.hid (HW.out.trans (by rw [drop_at hc, wordF]))
      have HN := Lib.hid (fun (m : BA) => one_any rb s m o T wr hs HT.out HRT.out)
      have HX : Hid ((ByteArray.extract t k (k + 1)).data.toList = [t[k]]) := Lib.hid (by rw [extract_one t k hlt])
      clear hc HW
      generalize t[k] = c at *
      go_wp2_with fail
      refine (HN.out _).mono ?_
      rintro e w2 ⟨rfl, hr2, hf2⟩
      rw [HX.out] at hr2
      have HR2 := Lib.hid hr2
      have HF2 := Lib.hid (HF.out.trans hf2)
      have HT2 := Lib.hid (ge_wf (ge_one s.data.toList [c] T) HT.out)
      clear hr2 hf2 HN HX
      go_wp2
      go_roundw
      case rel => exact ⟨k + 1, _, by omega, by go_num, HT2, HR2, HF2, HD⟩
      case measure => simp [intOf]; omega
    · have HD : Hid (t.data.toList.drop k = []) := Lib.hid (by rw [List.drop_eq_nil_iff]; simp; omega)
      go_wp2
      go_end0
      exact ⟨rfl, by rw [HW.out, HD.out]; exact HRT.out, HF.out⟩
end Go.Proofs.YtdnedbcmgkilaaaGreatDoor

end

/- The reader: longest, key, quoted. -/
section

namespace Go.Proofs.YtdnedbcmgkilaaaGreatDoor
open Go.RowKit

theorem extract0 (R : BA) (n : Nat) : ByteArray.extract R 0 n = ba (R.data.toList.take n) := by
  apply ByteArray.ext
  simp [ByteArray.data_extract, ← Array.toList_inj, List.extract_eq_take_drop]
theorem longN_go {p : List UInt8 → Bool} {r : List UInt8} {f k : Nat} (hk : k < r.length) (hf : r.length ≤ f) (hp : p (r.take (k + 1)) = true) : longN p r (f - k) k = longN p r (f - (k + 1)) (k + 1) := by
  obtain ⟨d, hd⟩ : ∃ d, f - k = d + 1 := ⟨f - k - 1, by omega⟩
  rw [hd, longN, if_pos ⟨hk, hp⟩, show f - (k + 1) = d by omega]
theorem longN_no {p : List UInt8 → Bool} {r : List UInt8} {f k : Nat} (h : ¬ (k < r.length ∧ p (r.take (k + 1)) = true)) : longN p r f k = k := by
  cases f with
  | zero => rw [longN]
  | succ f => rw [longN, if_neg h]
/-- The whole of longest, by what is still to be read. -/
theorem long_eq {s : BA} {p : List UInt8 → Bool} {S : St} {n : Nat} (h : longN p (restF s S).data.toList s.size 0 = n) : longF s.data.toList p S = ((restF s S).data.toList.take n, if n = 0 then failF s.data.toList S else (S.1 + n, 0)) ∧ (n ≠ 0 → S.2 = 0) := by
  by_cases h0 : S.2 = 0
  · rw [rest_live h0] at h ⊢
    unfold longF
    rw [if_pos h0, len_list, h]
    refine ⟨?_, fun _ => h0⟩
    by_cases hn : n = 0
    · rw [if_pos hn, if_pos hn, hn, List.take_zero]
    · rw [if_neg hn, if_neg hn]
  · rw [rest_stuck h0] at h ⊢
    have hn : n = 0 := by
      rw [← h]
      exact longN_no (fun q => by have := q.1; simp at this)
    subst hn
    rw [long_stuck h0, fail_stuck h0]
    exact ⟨by simp, fun q => absurd rfl q⟩
theorem rest_size {s : BA} {S : St} : (restF s S).size ≤ s.size := by
  rw [← len_list, ← len_list]
  by_cases h0 : S.2 = 0
  · rw [rest_live h0]; simp
  · rw [rest_stuck h0]; simp

set_option maxHeartbeats 1600000 in
set_option maxRecDepth 100000 in
theorem longName_any (rb : Nat) (s : BA) (o : Nat) (S : St) (w : World) (hs : s.size ≤ 2000) (hS : Wf s.data.toList S) (hR : RdAt w rb s o S) (hE : Env w rb) :
    Calls Tryz.prog 190 #[.pointer (some ⟨rb, 0, none⟩), .func (.func 119) #[] #[]] w fun e w' => e = .returned (.string (ba (longF s.data.toList nameB S).1)) ∧ RdAt w' rb s o (longF s.data.toList nameB S).2 ∧ Fr (· = rb) w w' := by
  have HC := Lib.hid (rest_any rb s o S w hs hS hR)
  have HP : Hid (∀ (t : BA) (w1 : World), t.size ≤ 2000 → Env w1 rb → Calls Tryz.prog 119 #[.string t] w1 fun e w' => e = .returned (.bool (nameB t.data.toList)) ∧ Below w1.heap.size w1 w') := Lib.hid (fun t w1 ht h => (name_any t w1 (by omega)).mono (fun e w2 ⟨he, hw⟩ => ⟨he, by rw [hw]; exact Below.refl _ _⟩))
  have HFL := Lib.hid (fun w2 (h : RdAt w2 rb s o S) => fail_any rb s o S w2 hs hS h)
  have HR := Lib.hid hR
  have HE := Lib.hid hE
  have hle := wf_le hS
  have hrs : (restF s S).size ≤ s.size := rest_size
  have HN := Lib.hid (fun n => long_eq (s := s) (p := nameB) (S := S) (n := n))
  clear hR hE
  go_enter Tryz.func190, Tryz.ntmps190
  go_wp2_with fail
  refine HC.out.mono ?_
  rintro e w2 ⟨rfl, hw2⟩
  have HR2 := Lib.hid (HR.out.same hw2)
  have HE2 := Lib.hid (HE.out.same hw2)
  have HF2 : Hid (Fr (· = rb) w w2) := Lib.hid (Fr.of_same hw2)
  clear hw2 HC HR HE
  generalize restF s S = R at *
  go_wp2
  go_loopw [6] (fun i wr => ∃ (k : Nat), k ≤ R.size ∧ i = .int .i64 k ∧ Hid (RdAt wr rb s o S) ∧ Hid (Env wr rb) ∧ Hid (Fr (· = rb) w wr) ∧ Hid (longN nameB R.data.toList s.size 0 = longN nameB R.data.toList (s.size - k) k)) (fun i _ => R.size - (intOf i).toNat)
  case atStart => exact ⟨0, by omega, rfl, HR2, HE2, HF2, Lib.hid rfl⟩
  case round =>
    obtain ⟨k, hk, rfl, HRT, HET, HF, HW⟩ := hrel
    clear HR2 HE2 HF2
    have HSTOP : Hid (¬ (k < R.data.toList.length ∧ nameB (R.data.toList.take (k + 1)) = true) → longN nameB R.data.toList s.size 0 = k) := Lib.hid (fun q => HW.out.trans (longN_no q))
    by_cases hlt : k < R.size
    · have hlt2 : (k : Int) < (R.size : Int) := by omega
      have HX : Hid ((ByteArray.extract R 0 (k + 1)).data.toList = R.data.toList.take (k + 1)) := Lib.hid (by rw [extract0])
      have HT := Lib.hid (HP.out (ByteArray.extract R 0 (k + 1)) wr (by rw [extract0]; show (List.take (k + 1) R.data.toList).toArray.size ≤ 2000; rw [List.size_toArray, List.length_take]; omega) HET.out)
      rw [HX.out] at HT
      cases hp : nameB (R.data.toList.take (k + 1)) with
      | true =>
        have HW2 := Lib.hid (HW.out.trans (longN_go (by rw [len_list]; exact hlt) (by rw [len_list]; exact hrs) hp))
        rw [hp] at HT
        clear hp HSTOP HX
        go_wp2_with fail
        refine HT.out.mono ?_
        rintro e w3 ⟨rfl, hb3⟩
        have HR3 := Lib.hid (HRT.out.below hb3)
        have HE3 := Lib.hid (HET.out.below hb3)
        have HF3 : Hid (Fr (· = rb) w w3) := Lib.hid (HF.out.trans (Fr.of_below hb3))
        clear hb3 HT
        go_wp2
        go_roundw
        case rel => exact ⟨k + 1, by omega, by go_num, HR3, HE3, HF3, HW2⟩
        case measure => simp [intOf]; omega
      | false =>
        have HK := Lib.hid (HN.out k (HSTOP.out (fun q => by rw [hp] at q; cases q.2)))
        rw [hp] at HT
        clear hp HSTOP HX
        go_wp2_with fail
        refine HT.out.mono ?_
        rintro e w3 ⟨rfl, hb3⟩
        have HR3 := Lib.hid (HRT.out.below hb3)
        have HF3 : Hid (Fr (· = rb) w w3) := Lib.hid (HF.out.trans (Fr.of_below hb3))
        clear hb3 HT
        by_cases hk0 : k = 0
        · have HK1 := Lib.hid HK.out.1
          rw [if_pos hk0] at HK1
          subst hk0
          clear HK
          go_wp2_with fail
          refine (HFL.out _ HR3.out).mono ?_
          rintro e w4 ⟨rfl, hr4, hf4⟩
          have HR4 := Lib.hid hr4
          have HF4 := Lib.hid (HF3.out.trans hf4)
          have HFS := Lib.hid (fail_fst s.data.toList S)
          clear hr4 hf4
          generalize failF s.data.toList S = T at *
          have c1 := HR4.out.c1
          have z1 := HR4.out.thaw 1
          rw [HFS.out] at c1
          go_wp2
          go_ret
          rw [HK1.out]
          have hq := HR4.out.set1 S.1
          have hT : (S.1, T.2) = T := by rw [← HFS.out]
          rw [hT] at hq
          exact ⟨rfl, hq, HF4.out.trans (fr_set 1 _)⟩
        · have HK1 := Lib.hid HK.out.1
          have HST := HK.out.2 hk0
          rw [if_neg hk0] at HK1
          have hB : ((k : Int) == (0 : Int)) = false := by simp; omega
          clear HK
          have c1 := HR3.out.c1
          have z1 := HR3.out.thaw 1
          have HX := Lib.hid (extract0 R k)
          go_wp2
          go_ret
          rw [HK1.out]
          have hq := HR3.out.set1 (S.1 + k)
          rw [HST] at hq
          exact ⟨by rw [← HX.out]; rfl, hq, HF3.out.trans (fr_set 1 _)⟩
    · have HK := Lib.hid (HN.out k (HSTOP.out (fun q => by have := q.1; rw [len_list] at this; omega)))
      have hlt2 : ¬ (k : Int) < (R.size : Int) := by omega
      have HR3 := HRT
      have HF3 := HF
      have w3 := wr
      clear HSTOP
      by_cases hk0 : k = 0
      · have HK1 := Lib.hid HK.out.1
        rw [if_pos hk0] at HK1
        subst hk0
        clear HK
        go_wp2_with fail
        refine (HFL.out _ HR3.out).mono ?_
        rintro e w4 ⟨rfl, hr4, hf4⟩
        have HR4 := Lib.hid hr4
        have HF4 := Lib.hid (HF3.out.trans hf4)
        have HFS := Lib.hid (fail_fst s.data.toList S)
        clear hr4 hf4
        generalize failF s.data.toList S = T at *
        have c1 := HR4.out.c1
        have z1 := HR4.out.thaw 1
        rw [HFS.out] at c1
        go_wp2
        go_ret
        rw [HK1.out]
        have hq := HR4.out.set1 S.1
        have hT : (S.1, T.2) = T := by rw [← HFS.out]
        rw [hT] at hq
        exact ⟨rfl, hq, HF4.out.trans (fr_set 1 _)⟩
      · have HK1 := Lib.hid HK.out.1
        have HST := HK.out.2 hk0
        rw [if_neg hk0] at HK1
        have hB : ((k : Int) == (0 : Int)) = false := by simp; omega
        clear HK
        have c1 := HR3.out.c1
        have z1 := HR3.out.thaw 1
        have HX := Lib.hid (extract0 R k)
        go_wp2
        go_ret
        rw [HK1.out]
        have hq := HR3.out.set1 (S.1 + k)
        rw [HST] at hq
        exact ⟨by rw [← HX.out]; rfl, hq, HF3.out.trans (fr_set 1 _)⟩

set_option maxHeartbeats 1600000 in
set_option maxRecDepth 100000 in
theorem longNum_any (rb : Nat) (s : BA) (o : Nat) (S : St) (w : World) (hs : s.size ≤ 2000) (hS : Wf s.data.toList S) (hR : RdAt w rb s o S) (hE : Env w rb) :
    Calls Tryz.prog 190 #[.pointer (some ⟨rb, 0, none⟩), .func (.func 220) #[] #[]] w fun e w' => e = .returned (.string (ba (longF s.data.toList numB S).1)) ∧ RdAt w' rb s o (longF s.data.toList numB S).2 ∧ Fr (· = rb) w w' := by
  have HC := Lib.hid (rest_any rb s o S w hs hS hR)
  have HP : Hid (∀ (t : BA) (w1 : World), t.size ≤ 2000 → Env w1 rb → Calls Tryz.prog 220 #[.string t] w1 fun e w' => e = .returned (.bool (numB t.data.toList)) ∧ Below w1.heap.size w1 w') := Lib.hid (fun t w1 ht h => number_any t w1 (by omega) h.env)
  have HFL := Lib.hid (fun w2 (h : RdAt w2 rb s o S) => fail_any rb s o S w2 hs hS h)
  have HR := Lib.hid hR
  have HE := Lib.hid hE
  have hle := wf_le hS
  have hrs : (restF s S).size ≤ s.size := rest_size
  have HN := Lib.hid (fun n => long_eq (s := s) (p := numB) (S := S) (n := n))
  clear hR hE
  go_enter Tryz.func190, Tryz.ntmps190
  go_wp2_with fail
  refine HC.out.mono ?_
  rintro e w2 ⟨rfl, hw2⟩
  have HR2 := Lib.hid (HR.out.same hw2)
  have HE2 := Lib.hid (HE.out.same hw2)
  have HF2 : Hid (Fr (· = rb) w w2) := Lib.hid (Fr.of_same hw2)
  clear hw2 HC HR HE
  generalize restF s S = R at *
  go_wp2
  go_loopw [6] (fun i wr => ∃ (k : Nat), k ≤ R.size ∧ i = .int .i64 k ∧ Hid (RdAt wr rb s o S) ∧ Hid (Env wr rb) ∧ Hid (Fr (· = rb) w wr) ∧ Hid (longN numB R.data.toList s.size 0 = longN numB R.data.toList (s.size - k) k)) (fun i _ => R.size - (intOf i).toNat)
  case atStart => exact ⟨0, by omega, rfl, HR2, HE2, HF2, Lib.hid rfl⟩
  case round =>
    obtain ⟨k, hk, rfl, HRT, HET, HF, HW⟩ := hrel
    clear HR2 HE2 HF2
    have HSTOP : Hid (¬ (k < R.data.toList.length ∧ numB (R.data.toList.take (k + 1)) = true) → longN numB R.data.toList s.size 0 = k) := Lib.hid (fun q => HW.out.trans (longN_no q))
    by_cases hlt : k < R.size
    · have hlt2 : (k : Int) < (R.size : Int) := by omega
      have HX : Hid ((ByteArray.extract R 0 (k + 1)).data.toList = R.data.toList.take (k + 1)) := Lib.hid (by rw [extract0])
      have HT := Lib.hid (HP.out (ByteArray.extract R 0 (k + 1)) wr (by rw [extract0]; show (List.take (k + 1) R.data.toList).toArray.size ≤ 2000; rw [List.size_toArray, List.length_take]; omega) HET.out)
      rw [HX.out] at HT
      cases hp : numB (R.data.toList.take (k + 1)) with
      | true =>
        have HW2 := Lib.hid (HW.out.trans (longN_go (by rw [len_list]; exact hlt) (by rw [len_list]; exact hrs) hp))
        rw [hp] at HT
        clear hp HSTOP HX
        go_wp2_with fail
        refine HT.out.mono ?_
        rintro e w3 ⟨rfl, hb3⟩
        have HR3 := Lib.hid (HRT.out.below hb3)
        have HE3 := Lib.hid (HET.out.below hb3)
        have HF3 : Hid (Fr (· = rb) w w3) := Lib.hid (HF.out.trans (Fr.of_below hb3))
        clear hb3 HT
        go_wp2
        go_roundw
        case rel => exact ⟨k + 1, by omega, by go_num, HR3, HE3, HF3, HW2⟩
        case measure => simp [intOf]; omega
      | false =>
        have HK := Lib.hid (HN.out k (HSTOP.out (fun q => by rw [hp] at q; cases q.2)))
        rw [hp] at HT
        clear hp HSTOP HX
        go_wp2_with fail
        refine HT.out.mono ?_
        rintro e w3 ⟨rfl, hb3⟩
        have HR3 := Lib.hid (HRT.out.below hb3)
        have HF3 : Hid (Fr (· = rb) w w3) := Lib.hid (HF.out.trans (Fr.of_below hb3))
        clear hb3 HT
        by_cases hk0 : k = 0
        · have HK1 := Lib.hid HK.out.1
          rw [if_pos hk0] at HK1
          subst hk0
          clear HK
          go_wp2_with fail
          refine (HFL.out _ HR3.out).mono ?_
          rintro e w4 ⟨rfl, hr4, hf4⟩
          have HR4 := Lib.hid hr4
          have HF4 := Lib.hid (HF3.out.trans hf4)
          have HFS := Lib.hid (fail_fst s.data.toList S)
          clear hr4 hf4
          generalize failF s.data.toList S = T at *
          have c1 := HR4.out.c1
          have z1 := HR4.out.thaw 1
          rw [HFS.out] at c1
          go_wp2
          go_ret
          rw [HK1.out]
          have hq := HR4.out.set1 S.1
          have hT : (S.1, T.2) = T := by rw [← HFS.out]
          rw [hT] at hq
          exact ⟨rfl, hq, HF4.out.trans (fr_set 1 _)⟩
        · have HK1 := Lib.hid HK.out.1
          have HST := HK.out.2 hk0
          rw [if_neg hk0] at HK1
          have hB : ((k : Int) == (0 : Int)) = false := by simp; omega
          clear HK
          have c1 := HR3.out.c1
          have z1 := HR3.out.thaw 1
          have HX := Lib.hid (extract0 R k)
          go_wp2
          go_ret
          rw [HK1.out]
          have hq := HR3.out.set1 (S.1 + k)
          rw [HST] at hq
          exact ⟨by rw [← HX.out]; rfl, hq, HF3.out.trans (fr_set 1 _)⟩
    · have HK := Lib.hid (HN.out k (HSTOP.out (fun q => by have := q.1; rw [len_list] at this; omega)))
      have hlt2 : ¬ (k : Int) < (R.size : Int) := by omega
      have HR3 := HRT
      have HF3 := HF
      have w3 := wr
      clear HSTOP
      by_cases hk0 : k = 0
      · have HK1 := Lib.hid HK.out.1
        rw [if_pos hk0] at HK1
        subst hk0
        clear HK
        go_wp2_with fail
        refine (HFL.out _ HR3.out).mono ?_
        rintro e w4 ⟨rfl, hr4, hf4⟩
        have HR4 := Lib.hid hr4
        have HF4 := Lib.hid (HF3.out.trans hf4)
        have HFS := Lib.hid (fail_fst s.data.toList S)
        clear hr4 hf4
        generalize failF s.data.toList S = T at *
        have c1 := HR4.out.c1
        have z1 := HR4.out.thaw 1
        rw [HFS.out] at c1
        go_wp2
        go_ret
        rw [HK1.out]
        have hq := HR4.out.set1 S.1
        have hT : (S.1, T.2) = T := by rw [← HFS.out]
        rw [hT] at hq
        exact ⟨rfl, hq, HF4.out.trans (fr_set 1 _)⟩
      · have HK1 := Lib.hid HK.out.1
        have HST := HK.out.2 hk0
        rw [if_neg hk0] at HK1
        have hB : ((k : Int) == (0 : Int)) = false := by simp; omega
        clear HK
        have c1 := HR3.out.c1
        have z1 := HR3.out.thaw 1
        have HX := Lib.hid (extract0 R k)
        go_wp2
        go_ret
        rw [HK1.out]
        have hq := HR3.out.set1 (S.1 + k)
        rw [HST] at hq
        exact ⟨by rw [← HX.out]; rfl, hq, HF3.out.trans (fr_set 1 _)⟩

end Go.Proofs.YtdnedbcmgkilaaaGreatDoor

end

/- strings.Builder at this program: copyCheck and WriteString. -/
section

namespace Go.Proofs.YtdnedbcmgkilaaaGreatDoor
open Go.RowKit

theorem Tryz.info47 : (Tryz.prog.info? 83).map (·.size) = some 2 := by kernel_rfl
theorem Tryz.lies47 : liesAt Tryz.prog Tryz.prog.depth 83 (2 / Tryz.prog.cellsOf 83) 0 83 1 = true := by kernel_rfl
theorem Tryz.info5 : (Tryz.prog.info? 5).map (fun i => (i.zero, i.size, i.bytes)) = some (some (.int .u8 0), 1, 1) := by kernel_rfl

set_option maxHeartbeats 1000000 in
set_option maxRecDepth 100000 in
theorem copyCheck_used9 (b : Nat) (w : World) (h0 : w.cell? ⟨b, 0, none⟩ = some (.pointer (some ⟨b, 0, none⟩))) :
    Calls Tryz.prog 98 #[.pointer (some ⟨b, 0, none⟩)] w fun e w' => e = .returned (.tuple #[]) ∧ w' = w := by
  obtain ⟨j, hj, _⟩ := Option.map_eq_some_iff.1 Tryz.info47
  go_enter Tryz.func98, Tryz.ntmps98
  go_wp2
  rw [Lib.run_neq_ptr_same w _ Tryz.underlying80 hj]
  go_wp2
  go_end0
  exact ⟨rfl, rfl⟩

set_option maxHeartbeats 1000000 in
set_option maxRecDepth 100000 in
theorem copyCheck_fresh9 (b : Nat) (w : World) (h0 : w.cell? ⟨b, 0, none⟩ = some (.pointer none)) (hsh : w.shape? b = some (83, 2)) (hfz : w.frozen? ⟨b, 0, none⟩ = false) :
    Calls Tryz.prog 98 #[.pointer (some ⟨b, 0, none⟩)] w fun e w' => e = .returned (.tuple #[]) ∧ w' = w.setCell ⟨b, 0, none⟩ (.pointer (some ⟨b, 0, none⟩)) := by
  obtain ⟨j, hj, hjs⟩ := Option.map_eq_some_iff.1 Tryz.info47
  go_enter Tryz.func98, Tryz.ntmps98
  go_wp2
  rw [Lib.run_to_unsafe w ⟨b, 0, none⟩ Tryz.underlying80 Tryz.underlying168 hj (by rw [hjs]; decide) hsh (Nat.zero_lt_succ 1)]
  simp only [Result.andThen]
  rw [Oper.upon_value]
  go_wp2
  rw [run_callFunc_extern Tryz.func143 (by kernel_rfl) (by kernel_rfl) (by kernel_rfl) (e := Extern.AbiNoEscape.same) (by kernel_rfl)]
  rw [Lib.run_noEscape]
  simp only [Result.andThen]
  rw [Oper.upon_value]
  go_wp2
  rw [Lib.run_from_unsafe w ⟨b, 0, none⟩ Tryz.underlying168 Tryz.underlying80 hj hsh Tryz.lies47]
  simp only [Result.andThen]
  rw [Oper.upon_value]
  go_wp2
  go_end0
  exact ⟨rfl, rfl⟩
theorem copyCheck_any9 (B b : Nat) (bs : List Value) (w : World) (h : Lib.IsBuilderF 83 5 B b bs w) :
    Calls Tryz.prog 98 #[.pointer (some ⟨b, 0, none⟩)] w fun e w' => e = .returned (.tuple #[]) ∧ (Lib.BuilderAtF 83 5 B b (.pointer (some ⟨b, 0, none⟩)) bs w' ∧ Below B w w' ∧ Lib.OthersKept 5 (some b) w w') := by
  rcases h with h | h
  · refine (copyCheck_fresh9 b w h.cell0 h.shape h.frozen0).mono ?_
    rintro e w' ⟨rfl, rfl⟩
    exact ⟨rfl, h.used _, (Below.refl B w).setCell (p := ⟨b, 0, none⟩) h.1 _, (Lib.OthersKept.refl _ _ w).setCell ⟨b, 0, none⟩ rfl _⟩
  · refine (copyCheck_used9 b w h.cell0).mono ?_
    rintro e w' ⟨rfl, rfl⟩
    exact ⟨rfl, h, Below.refl B _, Lib.OthersKept.refl _ _ _⟩

set_option maxHeartbeats 1000000 in
set_option maxRecDepth 100000 in
theorem writeString_any9 (B b : Nat) (bs : List Value) (s : ByteArray) (w : World) (h : Lib.IsBuilderF 83 5 B b bs w) (hlen : bs.length + s.size ≤ 140737488355328) (hBw : B ≤ w.heap.size) :
    Calls Tryz.prog 61 #[.pointer (some ⟨b, 0, none⟩), .string s] w fun e w' => e = .returned (.tuple #[.int .i64 s.size, .nilIface]) ∧ (Lib.BuilderAtF 83 5 B b (.pointer (some ⟨b, 0, none⟩)) (bs ++ Lib.strCells s) w' ∧ Below B w w' ∧ Lib.OthersKept 5 (some b) w w') := by
  obtain ⟨i0, hi, hz0, hz1, hz2⟩ := info_parts Tryz.info5
  have HC := Lib.hid (copyCheck_any9 B b bs w h)
  clear h
  go_enter Tryz.func61, Tryz.ntmps61
  go_wp2_with fail
  refine HC.out.mono ?_
  rintro e w1 ⟨rfl, h1, hb1, hk1⟩
  obtain ⟨hB, v, hbk, hown, hne⟩ := h1
  have c0 : w1.cell? ⟨b, 0, none⟩ = some (.pointer (some ⟨b, 0, none⟩)) := by rw [Lib.cell_of_heap hbk]; rfl
  have c1 : w1.cell? ⟨b, 1, none⟩ = some v := by rw [Lib.cell_of_heap hbk]; rfl
  have HK := Lib.hid hbk
  have HO := Lib.hid hown
  clear hbk hown
  go_wp2_with (at_builtin; refine Lib.wpList_append_own_stringF _ rfl _ _ 81 9 rfl B 5 i0 Tryz.underlying81 Tryz.underlying9 hi hz0 hz1 hz2 _ _ _ rfl HO.out s rfl ?c3 ?c4 ?c5 ?_)
  case c3 => unfold maxLen; omega
  case c4 => omega
  case c5 => have := hb1.size; omega
  intro v' w2 hown' hgrow _
  have hbk := HK.out
  have hown := HO.out
  have hlt : b < w1.heap.size := by
    rcases Nat.lt_or_ge b w1.heap.size with h' | h'
    · exact h'
    · simp [Array.getElem?_eq_none h'] at hbk
  have hb2 : w2.heap[b]? = some (.cells #[.pointer (some ⟨b, 0, none⟩), v] 83 (0, 0)) := by
    rw [hgrow.block b hlt (fun e => hne e.symm)]
    exact hbk
  have d0 : w2.cell? ⟨b, 0, none⟩ = some (.pointer (some ⟨b, 0, none⟩)) := by rw [Lib.cell_of_heap hb2]; rfl
  have d1 : w2.cell? ⟨b, 1, none⟩ = some v := by rw [Lib.cell_of_heap hb2]; rfl
  have f1 : w2.frozen? ⟨b, 1, none⟩ = false := Lib.frozen_of_heap hb2 1
  obtain ⟨ao, n', cap, rfl⟩ : ∃ ao n' cap, v' = .slice ao n' cap := by
    rcases hown'.2 with ⟨hv, _⟩ | ⟨g, cap, cur, fz, hv, _⟩
    · exact ⟨_, _, _, hv⟩
    · exact ⟨_, _, _, hv⟩
  have HB2 := Lib.hid hb2
  have HO2 := Lib.hid hown'
  clear hb2 hown' hbk hown
  go_wp2
  go_ret2
  refine ⟨rfl, ?_, ?_, (hk1.grown hgrow (Lib.ownsRowF_kind HO.out)).setCell ⟨b, 1, none⟩ rfl _⟩
  · exact Lib.BuilderAtF.put (T := 83) (e := 5) hB HB2.out (bs' := bs ++ Lib.strCells s) (by simpa [Lib.strCells_length] using HO2.out) (by decide)
  · exact (hb1.grown hgrow (by have := hb1.size; omega) (fun k hk => (HO.out.lt k hk).1)).setCell (p := ⟨b, 1, none⟩) hB _

set_option maxHeartbeats 1000000 in
set_option maxRecDepth 100000 in
theorem writeByte_any (B b : Nat) (bs : List Value) (c : Int) (w : World) (h : Lib.IsBuilderF 83 5 B b bs w) (hlen : bs.length + 1 ≤ 140737488355328) (hBw : B ≤ w.heap.size) :
    Calls Tryz.prog 194 #[.pointer (some ⟨b, 0, none⟩), .int .u8 c] w fun e w' => e = .returned .nilIface ∧ (Lib.BuilderAtF 83 5 B b (.pointer (some ⟨b, 0, none⟩)) (bs ++ [.int .u8 c]) w' ∧ Below B w w' ∧ Lib.OthersKept 5 (some b) w w') := by
  obtain ⟨i0, hi, hz0, hz1, hz2⟩ := info_parts Tryz.info5
  have HC := Lib.hid (copyCheck_any9 B b bs w h)
  clear h
  go_enter Tryz.func194, Tryz.ntmps194
  go_wp2_with fail
  refine HC.out.mono ?_
  rintro e w1 ⟨rfl, h1, hb1, hk1⟩
  obtain ⟨hB, v, hbk, hown, hne⟩ := h1
  have c0 : w1.cell? ⟨b, 0, none⟩ = some (.pointer (some ⟨b, 0, none⟩)) := by rw [Lib.cell_of_heap hbk]; rfl
  have c1 : w1.cell? ⟨b, 1, none⟩ = some v := by rw [Lib.cell_of_heap hbk]; rfl
  have HK := Lib.hid hbk
  have HO := Lib.hid hown
  clear hbk hown
  go_wp2_with (at_builtin; refine wpList_append_ownF _ rfl _ _ 81 rfl B 5 i0 (.int .u8 0) 1 1 Tryz.underlying81 hi hz0 hz1 hz2 rfl (by decide) _ _ _ rfl (HO.out.alloc _) ⟨w1.heap.size, 0, none⟩ 1 1 [.int .u8 c] rfl rfl ?c1 ?c2 ?c3 ?c4 ?c5 ?_)
  case c1 =>
    intro j u hj
    match j, hj with
    | 0, hj => simp at hj; subst hj; simp [Addr.add]
  case c2 => intro u hu; simp at hu; subst hu; rfl
  case c3 => unfold maxLen; omega
  case c4 => omega
  case c5 => have := hb1.size; simp; omega
  intro v' w2 hown' hgrow _
  have hbk := HK.out
  have hown := HO.out
  have hlt : b < w1.heap.size := by
    rcases Nat.lt_or_ge b w1.heap.size with h' | h'
    · exact h'
    · simp [Array.getElem?_eq_none h'] at hbk
  have hb2 : w2.heap[b]? = some (.cells #[.pointer (some ⟨b, 0, none⟩), v] 83 (0, 0)) := by
    rw [hgrow.block b (by simp; omega) (fun e => hne e.symm), Lib.alloc_old w1 _ b hlt]
    exact hbk
  have d0 : w2.cell? ⟨b, 0, none⟩ = some (.pointer (some ⟨b, 0, none⟩)) := by rw [Lib.cell_of_heap hb2]; rfl
  have d1 : w2.cell? ⟨b, 1, none⟩ = some v := by rw [Lib.cell_of_heap hb2]; rfl
  have f1 : w2.frozen? ⟨b, 1, none⟩ = false := Lib.frozen_of_heap hb2 1
  obtain ⟨g, cap, rfl⟩ : ∃ g cap, v' = .slice (some ⟨g, 0, none⟩) (bs.length + 1) cap := by
    rcases hown'.2 with ⟨_, h0⟩ | ⟨g, cap, cur, fz, hv, _⟩
    · omega
    · exact ⟨g, cap, hv⟩
  have HB2 := Lib.hid hb2
  have HO2 := Lib.hid hown'
  clear hb2 hown' hbk hown
  go_wp2
  go_ret
  refine ⟨rfl, ?_, ?_, ((hk1.alloc _).grown hgrow (Lib.ownsRowF_kind (HO.out.alloc _))).setCell ⟨b, 1, none⟩ rfl _⟩
  · exact Lib.BuilderAtF.put (T := 83) (e := 5) hB HB2.out (bs' := bs ++ [.int .u8 c]) (by simpa using HO2.out) (by decide)
  · exact ((hb1.alloc (by have := hb1.size; omega) _).grown hgrow (by have := hb1.size; simp; omega) (fun k hk => ((HO.out.alloc (.cells #[.int .u8 c] 5)).lt k hk).1)).setCell (p := ⟨b, 1, none⟩) hB _

end Go.Proofs.YtdnedbcmgkilaaaGreatDoor

end
