/- The reader: oneOf, word, longest. -/
import Derived.Test.YtapnieogfddjkaaDoorNm
namespace Go.Proofs.YtapnieogfddjkaaDoor
open Go.RowKit

theorem wf_le {s : BA} {S : St} (h : Wf s.data.toList S) : S.1 ≤ s.size := by have := h.1; rw [len_list] at this; exact this
theorem ge_wf {l : List UInt8} {S T : St} (h : Ge l S T) (hS : Wf l S) : Wf l T := h.2.1 hS
theorem rest_cons {s : BA} {S : St} {c : UInt8} (h0 : S.2 = 0) (hx : s.data.toList[S.1]? = some c) : ∃ r, restF s S = ⟨(c :: r).toArray⟩ ∧ (c :: r).length + S.1 = s.size ∧ c :: r = s.data.toList.drop S.1 := by
  obtain ⟨hi, he⟩ := List.getElem?_eq_some_iff.1 hx
  refine ⟨s.data.toList.drop (S.1 + 1), ?_, ?_, ?_⟩
  · have h := rest_live (s := s) h0
    rw [List.drop_eq_getElem_cons hi, he] at h
    rw [← h]
  · have := len_list s; simp at hi ⊢; omega
  · rw [List.drop_eq_getElem_cons hi, he]
theorem rest_none {s : BA} {S : St} (hx : S.2 = 0 → s.data.toList[S.1]? = none) : restF s S = ⟨#[]⟩ := by
  by_cases h0 : S.2 = 0
  · have h := rest_live (s := s) h0
    have := hx h0
    rw [List.getElem?_eq_none_iff] at this
    rw [List.drop_eq_nil_iff.2 this] at h
    cases hr : restF s S with
    | mk d => rw [hr] at h; simp at h; rw [h]
  · exact rest_stuck h0
theorem extract01 (c : UInt8) (r : List UInt8) : ByteArray.extract ⟨(c :: r).toArray⟩ 0 1 = ⟨#[c]⟩ := by
  apply ByteArray.ext
  simp [ByteArray.data_extract]
theorem size_cons (c : UInt8) (r : List UInt8) : ByteArray.size ⟨(c :: r).toArray⟩ = r.length + 1 := by simp [ByteArray.size]
theorem one_in {l m : List UInt8} {S : St} {c : UInt8} (h0 : S.2 = 0) (hx : l[S.1]? = some c) (hm : c ∈ m) : oneF l m S = ([c], (S.1 + 1, 0)) := by
  unfold oneF; rw [if_pos h0, hx]; simp [hm]
theorem one_out {l m : List UInt8} {S : St} (h : ∀ c, S.2 = 0 → l[S.1]? = some c → c ∉ m) : oneF l m S = ([], failF l S) := by
  unfold oneF
  split
  · rename_i h0
    split
    · rename_i c hc; rw [if_neg (h c h0 hc)]
    · rfl
  · rename_i h0; rw [fail_stuck h0]
theorem index_mem : ∀ (m : List UInt8) (c : UInt8), decide (0 ≤ Lib.indexByte m c) = decide (c ∈ m)
  | [], c => rfl
  | b :: l, c => by
    have ih := index_mem l c
    have hge := Lib.indexByte_ge l c
    rw [Lib.indexByte]
    by_cases hbc : b = c
    · subst hbc; simp
    · have hcb : ¬ c = b := fun e => hbc e.symm
      rw [if_neg (by simp [hbc])]
      simp only [decide_eq_decide] at ih ⊢
      rw [List.mem_cons]
      by_cases h1 : Lib.indexByte l c = -1
      · rw [if_pos (by simp [h1])]
        rw [h1] at ih
        constructor
        · intro h; omega
        · rintro (h | h)
          · exact absurd h hcb
          · have := ih.2 h; omega
      · rw [if_neg (by simp [h1])]
        constructor
        · intro h; exact .inr (ih.1 (by omega))
        · intro _; omega

set_option maxHeartbeats 1600000 in
set_option maxRecDepth 100000 in
theorem one_any (rb : Nat) (s m : BA) (o : Nat) (S : St) (w : World) (hs : s.size ≤ 2000) (hS : Wf s.data.toList S) (hR : RdAt w rb s o S) :
    Calls Tryd.prog 54 #[.pointer (some ⟨rb, 0, none⟩), .string m] w fun e w' => e = .returned (.string (ba (oneF s.data.toList m.data.toList S).1)) ∧ RdAt w' rb s o (oneF s.data.toList m.data.toList S).2 ∧ Fr (· = rb) w w' := by
  have HC := Lib.hid (rest_any rb s o S w hs hS hR)
  have HF := Lib.hid (fun w2 (h : RdAt w2 rb s o S) => fail_any rb s o S w2 hs hS h)
  have HR := Lib.hid hR
  have hle := wf_le hS
  clear hR
  by_cases hx : ∃ c, S.2 = 0 ∧ s.data.toList[S.1]? = some c
  · obtain ⟨c, h0, hx⟩ := hx
    obtain ⟨r, hr1, hr2, -⟩ := rest_cons h0 hx
    have hsz := size_cons c r
    have hex := extract01 c r
    have hcc : (c :: r).length = r.length + 1 := rfl
    have hne : ((⟨(c :: r).toArray⟩ : BA).toList.isEmpty) = false := by rw [ByteArray.toList_eq]; rfl
    rw [hr1] at HC
    have HI := Lib.hid (index_mem m.data.toList c)
    by_cases hm : c ∈ m.data.toList
    · have HE := Lib.hid (one_in h0 hx hm)
      rw [decide_eq_true hm] at HI
      obtain ⟨a, st⟩ := S
      simp only at h0 hr2 hle HE
      subst h0
      clear hx hm hr1
      go_enter Tryd.func54, Tryd.ntmps54
      go_wp2_with fail
      refine HC.out.mono ?_
      rintro e w2 ⟨rfl, hw2⟩
      have HR2 := Lib.hid (HR.out.same hw2)
      have HF2 : Hid (Fr (· = rb) w w2) := Lib.hid (Fr.of_same hw2)
      clear hw2 HC
      generalize (⟨(c :: r).toArray⟩ : BA) = R at *
      go_wp2_with fail
      refine (Tryd.strings_Contains_one _ _ _).mono ?_
      rintro e w3 ⟨rfl, rfl⟩
      rw [HI.out]
      have c1 := HR2.out.c1
      have z1 := HR2.out.thaw 1
      simp only at c1
      go_wp2
      go_ret
      rw [HE.out]
      exact ⟨rfl, HR2.out.set1 (a + 1), HF2.out.trans (fr_set 1 _)⟩
    · have HE := Lib.hid (one_out (l := s.data.toList) (m := m.data.toList) (S := S) (fun d _ hd => by rw [hx] at hd; injection hd with hd; rw [← hd]; exact hm))
      rw [decide_eq_false hm] at HI
      clear hx hm hr1
      go_enter Tryd.func54, Tryd.ntmps54
      go_wp2_with fail
      refine HC.out.mono ?_
      rintro e w2 ⟨rfl, hw2⟩
      have HR2 := Lib.hid (HR.out.same hw2)
      have HF2 : Hid (Fr (· = rb) w w2) := Lib.hid (Fr.of_same hw2)
      clear hw2 HC
      generalize (⟨(c :: r).toArray⟩ : BA) = R at *
      go_wp2_with fail
      refine (Tryd.strings_Contains_one _ _ _).mono ?_
      rintro e w3 ⟨rfl, rfl⟩
      rw [HI.out]
      go_wp2_with fail
      refine (HF.out _ HR2.out).mono ?_
      rintro e w4 ⟨rfl, hr4, hf4⟩
      have HR4 := Lib.hid hr4
      have HF4 := Lib.hid (HF2.out.trans hf4)
      clear hr4 hf4
      go_wp2
      go_ret
      rw [HE.out]
      exact ⟨rfl, HR4.out, HF4.out⟩
  · have hr1 : restF s S = ⟨#[]⟩ := rest_none (fun h0 => by
      cases hq : s.data.toList[S.1]? with
      | none => rfl
      | some c => exact absurd ⟨c, h0, hq⟩ hx)
    have HE := Lib.hid (one_out (l := s.data.toList) (m := m.data.toList) (S := S) (fun d h0 hd => absurd ⟨d, h0, hd⟩ hx))
    rw [hr1] at HC
    clear hr1 hx
    go_enter Tryd.func54, Tryd.ntmps54
    go_wp2_with fail
    refine HC.out.mono ?_
    rintro e w2 ⟨rfl, hw2⟩
    have HR2 := Lib.hid (HR.out.same hw2)
    have HF2 : Hid (Fr (· = rb) w w2) := Lib.hid (Fr.of_same hw2)
    clear hw2 HC
    go_wp2_with fail
    refine (HF.out _ HR2.out).mono ?_
    rintro e w4 ⟨rfl, hr4, hf4⟩
    have HR4 := Lib.hid hr4
    have HF4 := Lib.hid (HF2.out.trans hf4)
    clear hr4 hf4
    go_wp2
    go_ret
    rw [HE.out]
    exact ⟨rfl, HR4.out, HF4.out⟩

theorem drop_at {l : List UInt8} {k : Nat} {c : UInt8} (h : l[k]? = some c) : l.drop k = c :: l.drop (k + 1) := by
  obtain ⟨hi, rfl⟩ := List.getElem?_eq_some_iff.1 h
  exact List.drop_eq_getElem_cons hi
theorem extract_one (t : BA) (k : Nat) (h : k < t.size) : (ByteArray.extract t k (k + 1)).data.toList = [t[k]] := by
  have h1 := get_of t k h
  have h2 : (ByteArray.extract t k (k + 1)).data.toList = (t.data.toList.drop k).take (k + 1 - k) := by simp [ByteArray.data_extract]
  rw [h2, show k + 1 - k = 1 by omega, List.take_one, List.head?_drop, h1]; rfl

set_option maxHeartbeats 1600000 in
set_option maxRecDepth 100000 in
theorem word_any (rb : Nat) (s t : BA) (o : Nat) (S : St) (w : World) (hs : s.size ≤ 2000) (ht : t.size ≤ 100) (hS : Wf s.data.toList S) (hR : RdAt w rb s o S) :
    Calls Tryd.prog 39 #[.pointer (some ⟨rb, 0, none⟩), .string t] w fun e w' => e = .returned (.tuple #[]) ∧ RdAt w' rb s o (wordF s.data.toList t.data.toList S) ∧ Fr (· = rb) w w' := by
  have HR := Lib.hid hR
  have HS := Lib.hid hS
  clear hR hS
  go_enter Tryd.func39, Tryd.ntmps39
  go_wp2
  go_loopw [7] (fun i wr => ∃ (k : Nat) (T : St), k ≤ t.size ∧ i = .int .i64 k ∧ Hid (Wf s.data.toList T) ∧ Hid (RdAt wr rb s o T) ∧ Hid (Fr (· = rb) w wr) ∧ Hid (wordF s.data.toList t.data.toList S = wordF s.data.toList (t.data.toList.drop k) T)) (fun i _ => t.size - (intOf i).toNat)
  case atStart => exact ⟨0, S, by omega, rfl, HS, HR, Lib.hid (Fr.refl _ _), Lib.hid (by rw [List.drop_zero])⟩
  case round =>
    obtain ⟨k, T, hk, rfl, HT, HRT, HF, HW⟩ := hrel
    clear HR
    by_cases hlt : k < t.size
    · have hc := get_of t k hlt
      have HD := Lib.hid (HW.out.trans (by rw [drop_at hc, wordF]))
      have HN := Lib.hid (fun (m : BA) => one_any rb s m o T wr hs HT.out HRT.out)
      have HX : Hid ((ByteArray.extract t k (k + 1)).data.toList = [t[k]]) := Lib.hid (by rw [extract_one t k hlt])
      clear hc HW
      generalize t[k] = c at *
      go_wp2_with fail
      refine (HN.out _).mono ?_
      rintro e w2 ⟨rfl, hr2, hf2⟩
      rw [HX.out] at hr2
      have HR2 := Lib.hid hr2
      have HF2 := Lib.hid (HF.out.trans hf2)
      have HT2 := Lib.hid (ge_wf (ge_one s.data.toList [c] T) HT.out)
      clear hr2 hf2 HN HX
      go_wp2
      go_roundw
      case rel => exact ⟨k + 1, _, by omega, by go_num, HT2, HR2, HF2, HD⟩
      case measure => simp [intOf]; omega
    · have HD : Hid (t.data.toList.drop k = []) := Lib.hid (by rw [List.drop_eq_nil_iff]; simp; omega)
      go_wp2
      go_end0
      exact ⟨rfl, by rw [HW.out, HD.out]; exact HRT.out, HF.out⟩
end Go.Proofs.YtapnieogfddjkaaDoor
