/- The reader: key, quoted, text. -/
import Derived.Test.YtapnieogfddjkaaDoorLg
import Derived.Test.YtapnieogfddjkaaDoorBuild
namespace Go.Proofs.YtapnieogfddjkaaDoor
open Go.RowKit

theorem ba_app (a b : List UInt8) : (ba a : BA) ++ ba b = ba (a ++ b) := by
  apply ByteArray.ext
  simp [ByteArray.data_append]
theorem key_yes {l : List UInt8} {S : St} (h : nextF l [61] S = true) : keyF l S = ([61] ++ (longF l numB (wordF l [61] S)).1, (longF l numB (wordF l [61] S)).2) := by unfold keyF; rw [if_pos h]
theorem key_no {l : List UInt8} {S : St} (h : nextF l [61] S = false) : keyF l S = longF l nameB S := by unfold keyF; rw [if_neg (by rw [h]; simp)]
theorem long_size {l : List UInt8} {p : List UInt8 → Bool} {S : St} : (longF l p S).1.length ≤ l.length := by
  unfold longF
  split
  · split
    · simp
    · simp only [List.length_take, List.length_drop]; omega
  · simp

set_option maxHeartbeats 1600000 in
set_option maxRecDepth 100000 in
theorem key_any (rb : Nat) (s : BA) (o : Nat) (S : St) (w : World) (hs : s.size ≤ 2000) (hS : Wf s.data.toList S) (hR : RdAt w rb s o S) (hE : Env w rb) :
    Calls Tryd.prog 68 #[.pointer (some ⟨rb, 0, none⟩)] w fun e w' => e = .returned (.string (ba (keyF s.data.toList S).1)) ∧ RdAt w' rb s o (keyF s.data.toList S).2 ∧ Fr (· = rb) w w' := by
  have HC := Lib.hid (next_any rb s ⟨#[61]⟩ o S w hs hS (by decide) hR)
  have HR := Lib.hid hR
  have HE := Lib.hid hE
  clear hR hE
  cases hb : nextF s.data.toList [61] S with
  | true =>
    have HK := Lib.hid (key_yes hb)
    try rw [show ((⟨#[61]⟩ : BA).data.toList) = [61] from rfl, hb] at HC
    clear hb
    go_enter Tryd.func68, Tryd.ntmps68
    go_wp2_with fail
    refine HC.out.mono ?_
    rintro e w2 ⟨rfl, hw2⟩
    have HE2 := Lib.hid (HE.out.same hw2)
    have HF2 : Hid (Fr (· = rb) w w2) := Lib.hid (Fr.of_same hw2)
    have HWD := Lib.hid (word_any rb s ⟨#[61]⟩ o S w2 hs (by decide) hS (HR.out.same hw2))
    clear hw2 HC HR HE
    go_wp2_with fail
    refine HWD.out.mono ?_
    rintro e w3 ⟨rfl, hr3, hf3⟩
    have HS3 := ge_wf (ge_word s.data.toList [61] S) hS
    have HE3 := Lib.hid (HE2.out.fr hf3)
    have HF3 := Lib.hid (HF2.out.trans hf3)
    have HL := Lib.hid (longNum_any rb s o _ w3 hs HS3 hr3 HE3.out)
    clear hr3 hf3 HWD
    try rw [show ((⟨#[61]⟩ : BA).data.toList) = [61] from rfl] at HL
    have hsz : (ba (longF s.data.toList numB (wordF s.data.toList [61] S)).1).size ≤ 2000 := by
      show (longF s.data.toList numB (wordF s.data.toList [61] S)).1.toArray.size ≤ 2000
      rw [List.size_toArray]
      have := long_size (l := s.data.toList) (p := numB) (S := wordF s.data.toList [61] S)
      rw [len_list] at this; omega
    go_wp2_with fail
    refine HL.out.mono ?_
    rintro e w4 ⟨rfl, hr4, hf4⟩
    have HR4 := Lib.hid hr4
    have HF4 := Lib.hid (HF3.out.trans hf4)
    clear hr4 hf4 HL
    have HA := Lib.hid (ba_app [61] (longF s.data.toList numB (wordF s.data.toList [61] S)).1)
    generalize (longF s.data.toList numB (wordF s.data.toList [61] S)) = q at *
    obtain ⟨q1, q2⟩ := q
    simp only at HR4 HA hsz HK ⊢
    generalize ba q1 = Q at *
    go_wp2
    go_ret
    exact ⟨by rw [HK.out]; simp only; rw [← HA.out]; rfl, by rw [HK.out]; exact HR4.out, HF4.out⟩
  | false =>
    have HK := Lib.hid (key_no hb)
    try rw [show ((⟨#[61]⟩ : BA).data.toList) = [61] from rfl, hb] at HC
    clear hb
    go_enter Tryd.func68, Tryd.ntmps68
    go_wp2_with fail
    refine HC.out.mono ?_
    rintro e w2 ⟨rfl, hw2⟩
    have HF2 : Hid (Fr (· = rb) w w2) := Lib.hid (Fr.of_same hw2)
    have HL := Lib.hid (longName_any rb s o S w2 hs hS (HR.out.same hw2) (HE.out.same hw2))
    clear hw2 HC HR HE
    go_wp2_with fail
    refine HL.out.mono ?_
    rintro e w4 ⟨rfl, hr4, hf4⟩
    have HR4 := Lib.hid hr4
    have HF4 := Lib.hid (HF2.out.trans hf4)
    clear hr4 hf4 HL
    go_wp2
    go_ret
    rw [HK.out]
    exact ⟨rfl, HR4.out, HF4.out⟩

theorem quot_yes {l : List UInt8} {S : St} (h : (oneF l [39, 123, 125, 35] (wordF l [39] S)).1 = [39]) : quotF l S = oneF l [39, 123, 125, 35] (wordF l [39] S) := by unfold quotF; rw [if_pos h]
theorem quot_no {l : List UInt8} {S : St} (h : (oneF l [39, 123, 125, 35] (wordF l [39] S)).1 ≠ [39]) : quotF l S = ((oneF l [39, 123, 125, 35] (wordF l [39] S)).1, wordF l [39] (oneF l [39, 123, 125, 35] (wordF l [39] S)).2) := by unfold quotF; rw [if_neg h]
theorem ba_eq39 {q : List UInt8} (h : q = [39]) : ((ba q).toList == (⟨#[39]⟩ : BA).toList) = true := by subst h; simp
theorem ba_ne39 {q : List UInt8} (h : q ≠ [39]) : ((ba q).toList == [39]) = false := by
  rw [beq_eq_false_iff_ne, ByteArray.toList_eq]; exact h

set_option maxHeartbeats 1600000 in
set_option maxRecDepth 100000 in
theorem quoted_any (rb : Nat) (s : BA) (o : Nat) (S : St) (w : World) (hs : s.size ≤ 2000) (hS : Wf s.data.toList S) (hR : RdAt w rb s o S) :
    Calls Tryd.prog 55 #[.pointer (some ⟨rb, 0, none⟩)] w fun e w' => e = .returned (.string (ba (quotF s.data.toList S).1)) ∧ RdAt w' rb s o (quotF s.data.toList S).2 ∧ Fr (· = rb) w w' := by
  have HC := Lib.hid (word_any rb s ⟨#[39]⟩ o S w hs (by decide) hS hR)
  have HS1 := Lib.hid (ge_wf (ge_word s.data.toList [39] S) hS)
  have HY := Lib.hid (quot_yes (l := s.data.toList) (S := S))
  have HNO := Lib.hid (quot_no (l := s.data.toList) (S := S))
  clear hR
  go_enter Tryd.func55, Tryd.ntmps55
  go_wp2_with fail
  refine HC.out.mono ?_
  rintro e w1 ⟨rfl, hr1, hf1⟩
  try rw [show ((⟨#[39]⟩ : BA).data.toList) = [39] from rfl] at hr1
  have HF1 := Lib.hid hf1
  have HO := Lib.hid (one_any rb s ⟨#[39, 123, 125, 35]⟩ o _ w1 hs HS1.out hr1)
  try rw [show ((⟨#[39, 123, 125, 35]⟩ : BA).data.toList) = [39, 123, 125, 35] from rfl] at HO
  have HS2 := Lib.hid (ge_wf (ge_one s.data.toList [39, 123, 125, 35] _) HS1.out)
  clear hr1 hf1 HC
  generalize oneF s.data.toList [39, 123, 125, 35] (wordF s.data.toList [39] S) = q at *
  obtain ⟨q1, q2⟩ := q
  simp only at HO HS2 HY HNO
  go_wp2_with fail
  refine HO.out.mono ?_
  rintro e w2 ⟨rfl, hr2, hf2⟩
  have HR2 := Lib.hid hr2
  have HF2 := Lib.hid (HF1.out.trans hf2)
  clear hr2 hf2 HO
  by_cases hq : q1 = [39]
  · have HE := Lib.hid (HY.out hq)
    subst hq
    clear HY HNO
    go_wp2
    go_ret
    rw [HE.out]
    exact ⟨rfl, HR2.out, HF2.out⟩
  · have HE := Lib.hid (HNO.out hq)
    have hB := ba_ne39 hq
    have HWD := Lib.hid (word_any rb s ⟨#[39]⟩ o _ w2 hs (by decide) HS2.out HR2.out)
    try rw [show ((⟨#[39]⟩ : BA).data.toList) = [39] from rfl] at HWD
    clear hq HY HNO
    obtain ⟨Q, HQ⟩ : ∃ Q, Hid (ba q1 = Q) := ⟨_, Lib.hid rfl⟩
    rw [HQ.out] at hB ⊢
    go_wp2_with fail
    refine HWD.out.mono ?_
    rintro e w3 ⟨rfl, hr3, hf3⟩
    have HR3 := Lib.hid hr3
    have HF3 := Lib.hid (HF2.out.trans hf3)
    clear hr3 hf3
    go_wp2
    go_ret
    rw [HE.out]
    exact ⟨by simp only; rw [HQ.out]; rfl, HR3.out, HF3.out⟩
end Go.Proofs.YtapnieogfddjkaaDoor
