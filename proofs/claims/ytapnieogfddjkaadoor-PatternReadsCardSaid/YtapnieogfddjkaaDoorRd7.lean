/- The reader: a branch. -/
import Derived.Test.YtapnieogfddjkaaDoorRd6
namespace Go.Proofs.YtapnieogfddjkaaDoor
open Go.RowKit

theorem branch_eq {l : List UInt8} {pf : St → List Pt × St} {o : Nat} {S K R : St} {ky : List UInt8} (h1 : keyF l S = (ky, K)) (h2 : deepF l o (wordF l [32] K) = R) :
    branchG l pf o S = (.mk (ba ky) (pf (wordF l [123] R)).1, wordF l [125] (pf (wordF l [123] R)).2) := by
  unfold branchG; simp only; rw [h1]; simp only; rw [h2]
theorem deep_yes {l : List UInt8} {o : Nat} {S : St} (h : nextF l [123] S = true) (ho : o = 32) : deepF l o S = (S.1, 12) := by unfold deepF; rw [if_pos ⟨h, ho⟩]
theorem deep_no1 {l : List UInt8} {o : Nat} {S : St} (h : nextF l [123] S = false) : deepF l o S = S := by unfold deepF; rw [if_neg (fun e => by rw [h] at e; cases e.1)]
theorem deep_no2 {l : List UInt8} {o : Nat} {S : St} (h : o ≠ 32) : deepF l o S = S := by unfold deepF; rw [if_neg (fun e => h e.2)]

set_option maxHeartbeats 3200000 in
set_option maxRecDepth 100000 in
theorem branch_any (f : Nat) (HP : PartsOK f) (h : Bool) (o rb : Nat) (s : BA) (S : St) (w : World) (hs : s.size ≤ 2000) (ho : o + 1 + f ≤ 4000) (hS : Wf s.data.toList S) (hf : s.size - S.1 < f + 1) (hR : RdAt w rb s o S) (hE : Env w rb) :
    Calls Tryd.prog 62 #[.pointer (some ⟨rb, 0, none⟩), .bool h] w (CasePost rb s o w (branchG s.data.toList (fun S => partsL s.data.toList f h (o + 1) [] S) o S)) := by
  have hlr := hR.lt
  obtain ⟨p, HPO⟩ : ∃ p, Hid (p = o + 1) := ⟨_, Lib.hid rfl⟩
  rw [← HPO.out]
  have hpi : ((o : Int) + 1) = (p : Int) := by have := HPO.out; omega
  have hpo : ((p : Int) - 1) = (o : Int) := by omega
  have HPF : Hid (p + f ≤ 4000) := Lib.hid (by have := HPO.out; omega)
  have hoo : o ≤ 4000 := by omega
  have hpp : p ≤ 4000 := by have := HPF.out; omega
  have HQ0 : Hid (Row (w.alloc (.cells #[.string ⟨#[]⟩, .slice none 0 0] 44)) w.heap.size 44 [.string ⟨#[]⟩, .slice none 0 0]) := Lib.hid (row_new w #[.string ⟨#[]⟩, .slice none 0 0] 44)
  have HR0 : Hid (RdAt (w.alloc (.cells #[.string ⟨#[]⟩, .slice none 0 0] 44)) rb s o S) := Lib.hid (hR.alloc _)
  have HE0 : Hid (Env (w.alloc (.cells #[.string ⟨#[]⟩, .slice none 0 0] 44)) rb) := Lib.hid (hE.below (below1 _ _))
  have HF0 : Hid (Fr (· = rb) w (w.alloc (.cells #[.string ⟨#[]⟩, .slice none 0 0] 44))) := Lib.hid ((Fr.refl _ _).alloc _)
  have HKY := Lib.hid (key_any rb s o S _ hs hS HR0.out HE0.out)
  have HGK := Lib.hid (ge_key s.data.toList S)
  have HS := Lib.hid hS
  clear hR hE hS ho
  obtain ⟨A, HA⟩ : ∃ A, Hid (keyF s.data.toList S = A) := ⟨_, Lib.hid rfl⟩
  rw [HA.out] at HKY HGK
  obtain ⟨ky, K⟩ := A
  simp only at HKY HGK
  go_enter Tryd.func62, Tryd.ntmps62
  go_wp2_with fail
  generalize w.alloc (.cells #[.string ⟨#[]⟩, .slice none 0 0] 44) = w1 at *
  refine HKY.out.mono ?_
  rintro e w2 ⟨rfl, hr2, hf2⟩
  have HQ2 := Lib.hid (HQ0.out.fr hf2 (by omega))
  have HE2 := Lib.hid (HE0.out.fr hf2)
  have HF2 := Lib.hid (HF0.out.trans hf2)
  have HSK := Lib.hid (ge_wf HGK.out HS.out)
  have hgk := HGK.out.1
  have HWD : Hid (Calls Tryd.prog 39 #[.pointer (some ⟨rb, 0, none⟩), .string ⟨#[32]⟩] w2 fun e w' => e = .returned (.tuple #[]) ∧ RdAt w' rb s o (wordF s.data.toList [32] K) ∧ Fr (· = rb) w2 w') := Lib.hid (word_any rb s ⟨#[32]⟩ o K w2 hs (by decide) HSK.out hr2)
  have HGW := Lib.hid (ge_word s.data.toList [32] K)
  obtain ⟨U, HU⟩ : ∃ U, Hid (wordF s.data.toList [32] K = U) := ⟨_, Lib.hid rfl⟩
  rw [HU.out] at HWD HGW
  clear hr2 hf2 HKY HQ0 HE0 HF0 HR0
  go_wp2_with fail
  refine HWD.out.mono ?_
  rintro e w3 ⟨rfl, hr3, hf3⟩
  have HR3 := Lib.hid hr3
  have HQ3 := Lib.hid (HQ2.out.fr hf3 (by omega))
  have HE3 := Lib.hid (HE2.out.fr hf3)
  have HF3 := Lib.hid (HF2.out.trans hf3)
  have HSU := Lib.hid (ge_wf HGW.out HSK.out)
  have hgu := HGW.out.1
  have HN1 : Hid (Calls Tryd.prog 23 #[.pointer (some ⟨rb, 0, none⟩), .string ⟨#[123]⟩] w3 fun e w' => e = .returned (.bool (nextF s.data.toList [123] U)) ∧ Same w3 w') := Lib.hid (next_any rb s ⟨#[123]⟩ o U w3 hs HSU.out (by decide) hr3)
  clear hr3 hf3 HWD HQ2 HE2 HF2
  cases hb1 : nextF s.data.toList [123] U with
  | true =>
    rw [hb1] at HN1
    by_cases h32 : o = 32
    · have hB : ((o : Int) == (32 : Int)) = true := by rw [beq_iff_eq]; omega
      obtain ⟨R, HRR⟩ : ∃ R : St, Hid (R = (U.1, 12)) := ⟨_, Lib.hid rfl⟩
      have HK := Lib.hid (branch_eq (o := o) (pf := fun S => partsL s.data.toList f h p [] S) (R := R) HA.out (by rw [HU.out, deep_yes hb1 h32, HRR.out]))
      have HSR : Hid (Wf s.data.toList R) := Lib.hid (by
        rw [HRR.out]
        have hlt := get_lt (next_iff.1 hb1).2
        exact ⟨by show U.1 ≤ _; omega, .inr (.inr ⟨.inr rfl, hlt⟩)⟩)
      have hgr : S.1 ≤ R.1 := by rw [HRR.out]; show S.1 ≤ U.1; omega
      clear hb1 h32
      go_wp2_with fail
      refine HN1.out.mono ?_
      rintro e w4 ⟨rfl, hw4⟩
      have HR4 := Lib.hid (HR3.out.same hw4)
      have HQ4 := Lib.hid (hw4.row HQ3.out)
      have HE4 := Lib.hid (HE3.out.same hw4)
      have HF4 := Lib.hid (HF3.out.trans (Fr.of_same hw4))
      clear hw4 HN1 HR3 HQ3 HE3 HF3
      have HR5 : Hid (RdAt (w4.setCell ⟨rb, 3, none⟩ (.int .i64 12)) rb s o R) := Lib.hid (by rw [HRR.out]; exact HR4.out.set3 12)
      have HQ5 : Hid (Row (w4.setCell ⟨rb, 3, none⟩ (.int .i64 12)) w.heap.size 44 [.string ⟨#[]⟩, .slice none 0 0]) := Lib.hid (HQ4.out.fr (fr_set 3 _) (by omega))
      have HE5 : Hid (Env (w4.setCell ⟨rb, 3, none⟩ (.int .i64 12)) rb) := Lib.hid (HE4.out.fr (fr_set 3 _))
      have HF5 : Hid (Fr (· = rb) w (w4.setCell ⟨rb, 3, none⟩ (.int .i64 12))) := Lib.hid (HF4.out.trans (fr_set 3 _))
      have c2 := HR4.out.c2
      have z3 := HR4.out.thaw 3
      have c3 := HR4.out.c3
      go_wp2_with fail
      generalize w4.setCell ⟨rb, 3, none⟩ (.int .i64 12) = w5 at *
      clear c2 z3 c3 HR4 HQ4 HE4 HF4
      have HWD : Hid (Calls Tryd.prog 39 #[.pointer (some ⟨rb, 0, none⟩), .string ⟨#[123]⟩] w5 fun e w' => e = .returned (.tuple #[]) ∧ RdAt w' rb s o (wordF s.data.toList [123] R) ∧ Fr (· = rb) w5 w') := Lib.hid (word_any rb s ⟨#[123]⟩ o R w5 hs (by decide) HSR.out HR5.out)
      have HGR := Lib.hid (ge_word s.data.toList [123] R)
      have HAD : Hid ((wordF s.data.toList [123] R).2 = 0 → R.1 + 1 ≤ (wordF s.data.toList [123] R).1) := Lib.hid word_adv
      obtain ⟨T, HT⟩ : ∃ T, Hid (wordF s.data.toList [123] R = T) := ⟨_, Lib.hid rfl⟩
      rw [HT.out] at HWD HGR HAD HK
      clear HR5
      go_wp2_with fail
      refine HWD.out.mono ?_
      rintro e w6 ⟨rfl, hr6, hf6⟩
      have HR6 := Lib.hid hr6
      have HQ6 := Lib.hid (HQ5.out.fr hf6 (by omega))
      have HE6 := Lib.hid (HE5.out.fr hf6)
      have HF6 := Lib.hid (HF5.out.trans hf6)
      have HST := Lib.hid (ge_wf HGR.out HSR.out)
      have hleT := wf_le HST.out
      clear hr6 hf6 HWD HQ5 HE5 HF5
      have HCP := Lib.hid (HP h p rb s T (w6.setCell ⟨rb, 2, none⟩ (.int .i64 p)) hs HPF.out HST.out (fun e => by have := HAD.out e; omega) (HR6.out.set2 p) (HE6.out.fr (fr_set 2 _)))
      have HGP := Lib.hid (ge_parts s.data.toList f h p [] T)
      have HQ7 : Hid (Row (w6.setCell ⟨rb, 2, none⟩ (.int .i64 p)) w.heap.size 44 [.string ⟨#[]⟩, .slice none 0 0]) := Lib.hid (HQ6.out.fr (fr_set 2 _) (by omega))
      have HF7 : Hid (Fr (· = rb) w (w6.setCell ⟨rb, 2, none⟩ (.int .i64 p))) := Lib.hid (HF6.out.trans (fr_set 2 _))
      have z2 := HR6.out.thaw 2
      have c2 := HR6.out.c2
      clear HQ6 HE6 HF6 HR6
      generalize partsL s.data.toList f h p [] T = r at *
      obtain ⟨kids, V⟩ := r
      simp only at HGP HK
      go_wp2_with fail
      generalize w6.setCell ⟨rb, 2, none⟩ (.int .i64 p) = w7 at *
      refine HCP.out.mono ?_
      rintro e w8 ⟨a, cap, n, rfl, hsl, hr8, hf8⟩
      simp only at hsl hr8
      have HSV := Lib.hid (ge_wf HGP.out HST.out)
      have HSL := Lib.hid hsl
      have HZ : Hid (w.heap.size < w7.heap.size) := Lib.hid HQ7.out.lt
      have HQ8 := Lib.hid (HQ7.out.fr hf8 (by omega))
      have HF8 := Lib.hid (HF7.out.trans hf8)
      have HR9 : Hid (RdAt (w8.setCell ⟨rb, 2, none⟩ (.int .i64 o)) rb s o V) := Lib.hid (hr8.set2 o)
      have HWD2 : Hid (Calls Tryd.prog 39 #[.pointer (some ⟨rb, 0, none⟩), .string ⟨#[125]⟩] (w8.setCell ⟨rb, 2, none⟩ (.int .i64 o)) fun e w' => e = .returned (.tuple #[]) ∧ RdAt w' rb s o (wordF s.data.toList [125] V) ∧ Fr (· = rb) (w8.setCell ⟨rb, 2, none⟩ (.int .i64 o)) w') := Lib.hid (word_any rb s ⟨#[125]⟩ o V _ hs (by decide) HSV.out HR9.out)
      clear z2 c2
      have z2 := hr8.thaw 2
      have c2 := hr8.c2
      obtain ⟨ln, HLN⟩ : ∃ ln, Hid (ln = kids.length) := ⟨_, Lib.hid rfl⟩
      rw [← HLN.out] at HSL ⊢
      have hz7 : w7.heap.size ≤ w8.heap.size := hf8.size
      clear hsl hr8 hf8 HCP HQ7 HF7 HR9
      go_wp2_with fail
      refine HWD2.out.mono ?_
      rintro e w9 ⟨rfl, hr9, hf9⟩
      have HX := Lib.hid ((fr_set (w := w8) (rb := rb) 2 (.int .i64 o)).trans hf9)
      have HR9 := Lib.hid hr9
      have HQ9 := Lib.hid (HQ8.out.fr HX.out (by omega))
      have HF9 := Lib.hid (HF8.out.trans HX.out)
      clear hr9 hf9 HWD2 HQ8 HF8 z2 c2
      have q0 := HQ9.out.cell (i := 0) rfl
      have q1 := HQ9.out.cell (i := 1) rfl
      have y0 := HQ9.out.thaw 0
      have y1 := HQ9.out.thaw 1
      go_wp2
      have Q7 := HQ9.out.put2 (.string (ba ky)) (.slice a ln cap)
      have B7 := But.put2 w.heap.size w9 (.string (ba ky)) (.slice a ln cap)
      generalize (w9.setCell ⟨w.heap.size, 0, none⟩ (.string (ba ky))).setCell ⟨w.heap.size, 1, none⟩ (.slice a ln cap) = wa at *
      have e0 := Q7.cell (i := 0) rfl
      have e1 := Q7.cell (i := 1) rfl
      have hz := HZ.out
      exact bodyPost_ret (v := .agg #[.string (ba ky), .slice a ln cap]) (by simp [results, Tryd.results62, go_sem, e0, e1]) rfl (by
        rw [HK.out]
        exact ⟨_, n, rfl, HSL.out.fsh (fun b hb hlt => (B7.block b (by omega)).trans (HX.out.block b hlt (by omega))) (by omega) (by rw [B7.size]; exact HX.out.size), HR9.out.but B7 (by omega), But.fr HF9.out B7 (Nat.le_refl _)⟩)
    · have hB : ((o : Int) == (32 : Int)) = false := by rw [beq_eq_false_iff_ne]; omega
      obtain ⟨R, HRR⟩ : ∃ R : St, Hid (R = U) := ⟨_, Lib.hid rfl⟩
      have HK := Lib.hid (branch_eq (o := o) (pf := fun S => partsL s.data.toList f h p [] S) (R := R) HA.out (by rw [HU.out, deep_no2 h32, HRR.out]))
      have HSR : Hid (Wf s.data.toList R) := Lib.hid (by rw [HRR.out]; exact HSU.out)
      have hgr : S.1 ≤ R.1 := by rw [HRR.out]; omega
      clear hb1 h32
      go_wp2_with fail
      refine HN1.out.mono ?_
      rintro e w5 ⟨rfl, hw4⟩
      have HR5 : Hid (RdAt w5 rb s o R) := Lib.hid (by rw [HRR.out]; exact HR3.out.same hw4)
      have HQ5 := Lib.hid (hw4.row HQ3.out)
      have HE5 := Lib.hid (HE3.out.same hw4)
      have HF5 := Lib.hid (HF3.out.trans (Fr.of_same hw4))
      have c2 := HR5.out.c2
      clear hw4 HN1 HR3 HQ3 HE3 HF3
      have HWD : Hid (Calls Tryd.prog 39 #[.pointer (some ⟨rb, 0, none⟩), .string ⟨#[123]⟩] w5 fun e w' => e = .returned (.tuple #[]) ∧ RdAt w' rb s o (wordF s.data.toList [123] R) ∧ Fr (· = rb) w5 w') := Lib.hid (word_any rb s ⟨#[123]⟩ o R w5 hs (by decide) HSR.out HR5.out)
      have HGR := Lib.hid (ge_word s.data.toList [123] R)
      have HAD : Hid ((wordF s.data.toList [123] R).2 = 0 → R.1 + 1 ≤ (wordF s.data.toList [123] R).1) := Lib.hid word_adv
      obtain ⟨T, HT⟩ : ∃ T, Hid (wordF s.data.toList [123] R = T) := ⟨_, Lib.hid rfl⟩
      rw [HT.out] at HWD HGR HAD HK
      clear HR5
      go_wp2_with fail
      refine HWD.out.mono ?_
      rintro e w6 ⟨rfl, hr6, hf6⟩
      have HR6 := Lib.hid hr6
      have HQ6 := Lib.hid (HQ5.out.fr hf6 (by omega))
      have HE6 := Lib.hid (HE5.out.fr hf6)
      have HF6 := Lib.hid (HF5.out.trans hf6)
      have HST := Lib.hid (ge_wf HGR.out HSR.out)
      have hleT := wf_le HST.out
      clear hr6 hf6 HWD HQ5 HE5 HF5
      have HCP := Lib.hid (HP h p rb s T (w6.setCell ⟨rb, 2, none⟩ (.int .i64 p)) hs HPF.out HST.out (fun e => by have := HAD.out e; omega) (HR6.out.set2 p) (HE6.out.fr (fr_set 2 _)))
      have HGP := Lib.hid (ge_parts s.data.toList f h p [] T)
      have HQ7 : Hid (Row (w6.setCell ⟨rb, 2, none⟩ (.int .i64 p)) w.heap.size 44 [.string ⟨#[]⟩, .slice none 0 0]) := Lib.hid (HQ6.out.fr (fr_set 2 _) (by omega))
      have HF7 : Hid (Fr (· = rb) w (w6.setCell ⟨rb, 2, none⟩ (.int .i64 p))) := Lib.hid (HF6.out.trans (fr_set 2 _))
      have z2 := HR6.out.thaw 2
      have c2 := HR6.out.c2
      clear HQ6 HE6 HF6 HR6
      generalize partsL s.data.toList f h p [] T = r at *
      obtain ⟨kids, V⟩ := r
      simp only at HGP HK
      go_wp2_with fail
      generalize w6.setCell ⟨rb, 2, none⟩ (.int .i64 p) = w7 at *
      refine HCP.out.mono ?_
      rintro e w8 ⟨a, cap, n, rfl, hsl, hr8, hf8⟩
      simp only at hsl hr8
      have HSV := Lib.hid (ge_wf HGP.out HST.out)
      have HSL := Lib.hid hsl
      have HZ : Hid (w.heap.size < w7.heap.size) := Lib.hid HQ7.out.lt
      have HQ8 := Lib.hid (HQ7.out.fr hf8 (by omega))
      have HF8 := Lib.hid (HF7.out.trans hf8)
      have HR9 : Hid (RdAt (w8.setCell ⟨rb, 2, none⟩ (.int .i64 o)) rb s o V) := Lib.hid (hr8.set2 o)
      have HWD2 : Hid (Calls Tryd.prog 39 #[.pointer (some ⟨rb, 0, none⟩), .string ⟨#[125]⟩] (w8.setCell ⟨rb, 2, none⟩ (.int .i64 o)) fun e w' => e = .returned (.tuple #[]) ∧ RdAt w' rb s o (wordF s.data.toList [125] V) ∧ Fr (· = rb) (w8.setCell ⟨rb, 2, none⟩ (.int .i64 o)) w') := Lib.hid (word_any rb s ⟨#[125]⟩ o V _ hs (by decide) HSV.out HR9.out)
      clear z2 c2
      have z2 := hr8.thaw 2
      have c2 := hr8.c2
      obtain ⟨ln, HLN⟩ : ∃ ln, Hid (ln = kids.length) := ⟨_, Lib.hid rfl⟩
      rw [← HLN.out] at HSL ⊢
      have hz7 : w7.heap.size ≤ w8.heap.size := hf8.size
      clear hsl hr8 hf8 HCP HQ7 HF7 HR9
      go_wp2_with fail
      refine HWD2.out.mono ?_
      rintro e w9 ⟨rfl, hr9, hf9⟩
      have HX := Lib.hid ((fr_set (w := w8) (rb := rb) 2 (.int .i64 o)).trans hf9)
      have HR9 := Lib.hid hr9
      have HQ9 := Lib.hid (HQ8.out.fr HX.out (by omega))
      have HF9 := Lib.hid (HF8.out.trans HX.out)
      clear hr9 hf9 HWD2 HQ8 HF8 z2 c2
      have q0 := HQ9.out.cell (i := 0) rfl
      have q1 := HQ9.out.cell (i := 1) rfl
      have y0 := HQ9.out.thaw 0
      have y1 := HQ9.out.thaw 1
      go_wp2
      have Q7 := HQ9.out.put2 (.string (ba ky)) (.slice a ln cap)
      have B7 := But.put2 w.heap.size w9 (.string (ba ky)) (.slice a ln cap)
      generalize (w9.setCell ⟨w.heap.size, 0, none⟩ (.string (ba ky))).setCell ⟨w.heap.size, 1, none⟩ (.slice a ln cap) = wa at *
      have e0 := Q7.cell (i := 0) rfl
      have e1 := Q7.cell (i := 1) rfl
      have hz := HZ.out
      exact bodyPost_ret (v := .agg #[.string (ba ky), .slice a ln cap]) (by simp [results, Tryd.results62, go_sem, e0, e1]) rfl (by
        rw [HK.out]
        exact ⟨_, n, rfl, HSL.out.fsh (fun b hb hlt => (B7.block b (by omega)).trans (HX.out.block b hlt (by omega))) (by omega) (by rw [B7.size]; exact HX.out.size), HR9.out.but B7 (by omega), But.fr HF9.out B7 (Nat.le_refl _)⟩)
  | false =>
    rw [hb1] at HN1
    obtain ⟨R, HRR⟩ : ∃ R : St, Hid (R = U) := ⟨_, Lib.hid rfl⟩
    have HK := Lib.hid (branch_eq (o := o) (pf := fun S => partsL s.data.toList f h p [] S) (R := R) HA.out (by rw [HU.out, deep_no1 hb1, HRR.out]))
    have HSR : Hid (Wf s.data.toList R) := Lib.hid (by rw [HRR.out]; exact HSU.out)
    have hgr : S.1 ≤ R.1 := by rw [HRR.out]; omega
    clear hb1
    go_wp2_with fail
    refine HN1.out.mono ?_
    rintro e w5 ⟨rfl, hw4⟩
    have HR5 : Hid (RdAt w5 rb s o R) := Lib.hid (by rw [HRR.out]; exact HR3.out.same hw4)
    have HQ5 := Lib.hid (hw4.row HQ3.out)
    have HE5 := Lib.hid (HE3.out.same hw4)
    have HF5 := Lib.hid (HF3.out.trans (Fr.of_same hw4))
    clear hw4 HN1 HR3 HQ3 HE3 HF3
    have HWD : Hid (Calls Tryd.prog 39 #[.pointer (some ⟨rb, 0, none⟩), .string ⟨#[123]⟩] w5 fun e w' => e = .returned (.tuple #[]) ∧ RdAt w' rb s o (wordF s.data.toList [123] R) ∧ Fr (· = rb) w5 w') := Lib.hid (word_any rb s ⟨#[123]⟩ o R w5 hs (by decide) HSR.out HR5.out)
    have HGR := Lib.hid (ge_word s.data.toList [123] R)
    have HAD : Hid ((wordF s.data.toList [123] R).2 = 0 → R.1 + 1 ≤ (wordF s.data.toList [123] R).1) := Lib.hid word_adv
    obtain ⟨T, HT⟩ : ∃ T, Hid (wordF s.data.toList [123] R = T) := ⟨_, Lib.hid rfl⟩
    rw [HT.out] at HWD HGR HAD HK
    clear HR5
    go_wp2_with fail
    refine HWD.out.mono ?_
    rintro e w6 ⟨rfl, hr6, hf6⟩
    have HR6 := Lib.hid hr6
    have HQ6 := Lib.hid (HQ5.out.fr hf6 (by omega))
    have HE6 := Lib.hid (HE5.out.fr hf6)
    have HF6 := Lib.hid (HF5.out.trans hf6)
    have HST := Lib.hid (ge_wf HGR.out HSR.out)
    have hleT := wf_le HST.out
    clear hr6 hf6 HWD HQ5 HE5 HF5
    have HCP := Lib.hid (HP h p rb s T (w6.setCell ⟨rb, 2, none⟩ (.int .i64 p)) hs HPF.out HST.out (fun e => by have := HAD.out e; omega) (HR6.out.set2 p) (HE6.out.fr (fr_set 2 _)))
    have HGP := Lib.hid (ge_parts s.data.toList f h p [] T)
    have HQ7 : Hid (Row (w6.setCell ⟨rb, 2, none⟩ (.int .i64 p)) w.heap.size 44 [.string ⟨#[]⟩, .slice none 0 0]) := Lib.hid (HQ6.out.fr (fr_set 2 _) (by omega))
    have HF7 : Hid (Fr (· = rb) w (w6.setCell ⟨rb, 2, none⟩ (.int .i64 p))) := Lib.hid (HF6.out.trans (fr_set 2 _))
    have z2 := HR6.out.thaw 2
    have c2 := HR6.out.c2
    clear HQ6 HE6 HF6 HR6
    generalize partsL s.data.toList f h p [] T = r at *
    obtain ⟨kids, V⟩ := r
    simp only at HGP HK
    go_wp2_with fail
    generalize w6.setCell ⟨rb, 2, none⟩ (.int .i64 p) = w7 at *
    refine HCP.out.mono ?_
    rintro e w8 ⟨a, cap, n, rfl, hsl, hr8, hf8⟩
    simp only at hsl hr8
    have HSV := Lib.hid (ge_wf HGP.out HST.out)
    have HSL := Lib.hid hsl
    have HZ : Hid (w.heap.size < w7.heap.size) := Lib.hid HQ7.out.lt
    have HQ8 := Lib.hid (HQ7.out.fr hf8 (by omega))
    have HF8 := Lib.hid (HF7.out.trans hf8)
    have HR9 : Hid (RdAt (w8.setCell ⟨rb, 2, none⟩ (.int .i64 o)) rb s o V) := Lib.hid (hr8.set2 o)
    have HWD2 : Hid (Calls Tryd.prog 39 #[.pointer (some ⟨rb, 0, none⟩), .string ⟨#[125]⟩] (w8.setCell ⟨rb, 2, none⟩ (.int .i64 o)) fun e w' => e = .returned (.tuple #[]) ∧ RdAt w' rb s o (wordF s.data.toList [125] V) ∧ Fr (· = rb) (w8.setCell ⟨rb, 2, none⟩ (.int .i64 o)) w') := Lib.hid (word_any rb s ⟨#[125]⟩ o V _ hs (by decide) HSV.out HR9.out)
    clear z2 c2
    have z2 := hr8.thaw 2
    have c2 := hr8.c2
    obtain ⟨ln, HLN⟩ : ∃ ln, Hid (ln = kids.length) := ⟨_, Lib.hid rfl⟩
    rw [← HLN.out] at HSL ⊢
    have hz7 : w7.heap.size ≤ w8.heap.size := hf8.size
    clear hsl hr8 hf8 HCP HQ7 HF7 HR9
    go_wp2_with fail
    refine HWD2.out.mono ?_
    rintro e w9 ⟨rfl, hr9, hf9⟩
    have HX := Lib.hid ((fr_set (w := w8) (rb := rb) 2 (.int .i64 o)).trans hf9)
    have HR9 := Lib.hid hr9
    have HQ9 := Lib.hid (HQ8.out.fr HX.out (by omega))
    have HF9 := Lib.hid (HF8.out.trans HX.out)
    clear hr9 hf9 HWD2 HQ8 HF8 z2 c2
    have q0 := HQ9.out.cell (i := 0) rfl
    have q1 := HQ9.out.cell (i := 1) rfl
    have y0 := HQ9.out.thaw 0
    have y1 := HQ9.out.thaw 1
    go_wp2
    have Q7 := HQ9.out.put2 (.string (ba ky)) (.slice a ln cap)
    have B7 := But.put2 w.heap.size w9 (.string (ba ky)) (.slice a ln cap)
    generalize (w9.setCell ⟨w.heap.size, 0, none⟩ (.string (ba ky))).setCell ⟨w.heap.size, 1, none⟩ (.slice a ln cap) = wa at *
    have e0 := Q7.cell (i := 0) rfl
    have e1 := Q7.cell (i := 1) rfl
    have hz := HZ.out
    exact bodyPost_ret (v := .agg #[.string (ba ky), .slice a ln cap]) (by simp [results, Tryd.results62, go_sem, e0, e1]) rfl (by
      rw [HK.out]
      exact ⟨_, n, rfl, HSL.out.fsh (fun b hb hlt => (B7.block b (by omega)).trans (HX.out.block b hlt (by omega))) (by omega) (by rw [B7.size]; exact HX.out.size), HR9.out.but B7 (by omega), But.fr HF9.out B7 (Nat.le_refl _)⟩)
end Go.Proofs.YtapnieogfddjkaaDoor
