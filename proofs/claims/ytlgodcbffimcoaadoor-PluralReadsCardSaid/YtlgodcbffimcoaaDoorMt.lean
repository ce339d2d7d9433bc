/- The table's rules, by arithmetic. -/
import Derived.Test.YtlgodcbffimcoaaDoorCg
namespace Go.Proofs.YtlgodcbffimcoaaDoor
open Go.RowKit

theorem it_0 : Lib.itoa 0 = [48] := by simp [Lib.itoa, Lib.decDigits]
theorem it_1 : Lib.itoa 1 = [49] := by simp [Lib.itoa, Lib.decDigits]
theorem it_2 : Lib.itoa 2 = [50] := by simp [Lib.itoa, Lib.decDigits]
theorem it_3 : Lib.itoa 3 = [51] := by simp [Lib.itoa, Lib.decDigits]
theorem it_4 : Lib.itoa 4 = [52] := by simp [Lib.itoa, Lib.decDigits]
theorem it_5 : Lib.itoa 5 = [53] := by simp [Lib.itoa, Lib.decDigits]
theorem it_6 : Lib.itoa 6 = [54] := by simp [Lib.itoa, Lib.decDigits]
theorem it_9 : Lib.itoa 9 = [57] := by simp [Lib.itoa, Lib.decDigits]
theorem it_10 : Lib.itoa 10 = [49, 48] := by simp [Lib.itoa, Lib.decDigits]
theorem it_11 : Lib.itoa 11 = [49, 49] := by simp [Lib.itoa, Lib.decDigits]
theorem it_12 : Lib.itoa 12 = [49, 50] := by simp [Lib.itoa, Lib.decDigits]
theorem it_14 : Lib.itoa 14 = [49, 52] := by simp [Lib.itoa, Lib.decDigits]
theorem it_99 : Lib.itoa 99 = [57, 57] := by simp [Lib.itoa, Lib.decDigits]
theorem it_100 : Lib.itoa 100 = [49, 48, 48] := by simp [Lib.itoa, Lib.decDigits]
/-- i = 1 -/
abbrev t0 : List UInt8 := [105, 32, 61, 32, 49]
abbrev t0R : Rule := [[⟨0, false, [⟨1, 1⟩]⟩]]
theorem t0_read : ruleF t0 (0, false) = (t0R, (5, false)) := by kernel_rfl
theorem t0_tx : txRule t0R = t0 := by simp [txRule, txRow, joinF, txR, txS, it_1]
theorem t0_rg : rgRule t0R = true := by decide
theorem t0_p : (parseF t0).1 = t0R := by
  have h := parse_ok (l := t0) (by decide) (by rw [t0_read]) (by rw [t0_read]; exact t0_rg) (by rw [t0_read]; exact t0_tx)
  rw [h, t0_read]
theorem t0_h (n i : Int) (hi : absF n = i) : hB (parseF t0).1 n = decide ((((1 ≤ i ∧ i ≤ 1)))) := by
  rw [t0_p, hB, t0_rg, Bool.true_and, hi, Bool.eq_iff_iff]
  simp [hoRule, hoRow, hoR, inS]
/-- i = 0,1 -/
abbrev t1 : List UInt8 := [105, 32, 61, 32, 48, 44, 49]
abbrev t1R : Rule := [[⟨0, false, [⟨0, 0⟩, ⟨1, 1⟩]⟩]]
theorem t1_read : ruleF t1 (0, false) = (t1R, (7, false)) := by kernel_rfl
theorem t1_tx : txRule t1R = t1 := by simp [txRule, txRow, joinF, txR, txS, it_0, it_1]
theorem t1_rg : rgRule t1R = true := by decide
theorem t1_p : (parseF t1).1 = t1R := by
  have h := parse_ok (l := t1) (by decide) (by rw [t1_read]) (by rw [t1_read]; exact t1_rg) (by rw [t1_read]; exact t1_tx)
  rw [h, t1_read]
theorem t1_h (n i : Int) (hi : absF n = i) : hB (parseF t1).1 n = decide ((((0 ≤ i ∧ i ≤ 0) ∨ (1 ≤ i ∧ i ≤ 1)))) := by
  rw [t1_p, hB, t1_rg, Bool.true_and, hi, Bool.eq_iff_iff]
  simp [hoRule, hoRow, hoR, inS]
/-- i % 10 = 1 and i % 100 != 11 -/
abbrev t2 : List UInt8 := [105, 32, 37, 32, 49, 48, 32, 61, 32, 49, 32, 97, 110, 100, 32, 105, 32, 37, 32, 49, 48, 48, 32, 33, 61, 32, 49, 49]
abbrev t2R : Rule := [[⟨10, false, [⟨1, 1⟩]⟩, ⟨100, true, [⟨11, 11⟩]⟩]]
theorem t2_read : ruleF t2 (0, false) = (t2R, (28, false)) := by kernel_rfl
theorem t2_tx : txRule t2R = t2 := by simp [txRule, txRow, joinF, txR, txS, it_1, it_10, it_11, it_100]
theorem t2_rg : rgRule t2R = true := by decide
theorem t2_p : (parseF t2).1 = t2R := by
  have h := parse_ok (l := t2) (by decide) (by rw [t2_read]) (by rw [t2_read]; exact t2_rg) (by rw [t2_read]; exact t2_tx)
  rw [h, t2_read]
theorem t2_h (n i : Int) (hi : absF n = i) : hB (parseF t2).1 n = decide ((((1 ≤ (i % 10) ∧ (i % 10) ≤ 1)) ∧ ¬ ((11 ≤ (i % 100) ∧ (i % 100) ≤ 11)))) := by
  rw [t2_p, hB, t2_rg, Bool.true_and, hi, Bool.eq_iff_iff]
  simp [hoRule, hoRow, hoR, inS]
/-- i % 10 = 2..4 and i % 100 != 12..14 -/
abbrev t3 : List UInt8 := [105, 32, 37, 32, 49, 48, 32, 61, 32, 50, 46, 46, 52, 32, 97, 110, 100, 32, 105, 32, 37, 32, 49, 48, 48, 32, 33, 61, 32, 49, 50, 46, 46, 49, 52]
abbrev t3R : Rule := [[⟨10, false, [⟨2, 4⟩]⟩, ⟨100, true, [⟨12, 14⟩]⟩]]
theorem t3_read : ruleF t3 (0, false) = (t3R, (35, false)) := by kernel_rfl
theorem t3_tx : txRule t3R = t3 := by simp [txRule, txRow, joinF, txR, txS, it_2, it_4, it_10, it_12, it_14, it_100]
theorem t3_rg : rgRule t3R = true := by decide
theorem t3_p : (parseF t3).1 = t3R := by
  have h := parse_ok (l := t3) (by decide) (by rw [t3_read]) (by rw [t3_read]; exact t3_rg) (by rw [t3_read]; exact t3_tx)
  rw [h, t3_read]
theorem t3_h (n i : Int) (hi : absF n = i) : hB (parseF t3).1 n = decide ((((2 ≤ (i % 10) ∧ (i % 10) ≤ 4)) ∧ ¬ ((12 ≤ (i % 100) ∧ (i % 100) ≤ 14)))) := by
  rw [t3_p, hB, t3_rg, Bool.true_and, hi, Bool.eq_iff_iff]
  simp [hoRule, hoRow, hoR, inS]
/-- i % 10 = 0,5..9 or i % 100 = 11..14 -/
abbrev t4 : List UInt8 := [105, 32, 37, 32, 49, 48, 32, 61, 32, 48, 44, 53, 46, 46, 57, 32, 111, 114, 32, 105, 32, 37, 32, 49, 48, 48, 32, 61, 32, 49, 49, 46, 46, 49, 52]
abbrev t4R : Rule := [[⟨10, false, [⟨0, 0⟩, ⟨5, 9⟩]⟩], [⟨100, false, [⟨11, 14⟩]⟩]]
theorem t4_read : ruleF t4 (0, false) = (t4R, (35, false)) := by kernel_rfl
theorem t4_tx : txRule t4R = t4 := by simp [txRule, txRow, joinF, txR, txS, it_0, it_5, it_9, it_10, it_11, it_14, it_100]
theorem t4_rg : rgRule t4R = true := by decide
theorem t4_p : (parseF t4).1 = t4R := by
  have h := parse_ok (l := t4) (by decide) (by rw [t4_read]) (by rw [t4_read]; exact t4_rg) (by rw [t4_read]; exact t4_tx)
  rw [h, t4_read]
theorem t4_h (n i : Int) (hi : absF n = i) : hB (parseF t4).1 n = decide ((((0 ≤ (i % 10) ∧ (i % 10) ≤ 0) ∨ (5 ≤ (i % 10) ∧ (i % 10) ≤ 9))) ∨ (((11 ≤ (i % 100) ∧ (i % 100) ≤ 14)))) := by
  rw [t4_p, hB, t4_rg, Bool.true_and, hi, Bool.eq_iff_iff]
  simp [hoRule, hoRow, hoR, inS]
/-- i % 10 = 0,1,5..9 or i % 100 = 12..14 -/
abbrev t5 : List UInt8 := [105, 32, 37, 32, 49, 48, 32, 61, 32, 48, 44, 49, 44, 53, 46, 46, 57, 32, 111, 114, 32, 105, 32, 37, 32, 49, 48, 48, 32, 61, 32, 49, 50, 46, 46, 49, 52]
abbrev t5R : Rule := [[⟨10, false, [⟨0, 0⟩, ⟨1, 1⟩, ⟨5, 9⟩]⟩], [⟨100, false, [⟨12, 14⟩]⟩]]
theorem t5_read : ruleF t5 (0, false) = (t5R, (37, false)) := by kernel_rfl
theorem t5_tx : txRule t5R = t5 := by simp [txRule, txRow, joinF, txR, txS, it_0, it_1, it_5, it_9, it_10, it_12, it_14, it_100]
theorem t5_rg : rgRule t5R = true := by decide
theorem t5_p : (parseF t5).1 = t5R := by
  have h := parse_ok (l := t5) (by decide) (by rw [t5_read]) (by rw [t5_read]; exact t5_rg) (by rw [t5_read]; exact t5_tx)
  rw [h, t5_read]
theorem t5_h (n i : Int) (hi : absF n = i) : hB (parseF t5).1 n = decide ((((0 ≤ (i % 10) ∧ (i % 10) ≤ 0) ∨ (1 ≤ (i % 10) ∧ (i % 10) ≤ 1) ∨ (5 ≤ (i % 10) ∧ (i % 10) ≤ 9))) ∨ (((12 ≤ (i % 100) ∧ (i % 100) ≤ 14)))) := by
  rw [t5_p, hB, t5_rg, Bool.true_and, hi, Bool.eq_iff_iff]
  simp [hoRule, hoRow, hoR, inS]
/-- i = 2..4 -/
abbrev t6 : List UInt8 := [105, 32, 61, 32, 50, 46, 46, 52]
abbrev t6R : Rule := [[⟨0, false, [⟨2, 4⟩]⟩]]
theorem t6_read : ruleF t6 (0, false) = (t6R, (8, false)) := by kernel_rfl
theorem t6_tx : txRule t6R = t6 := by simp [txRule, txRow, joinF, txR, txS, it_2, it_4]
theorem t6_rg : rgRule t6R = true := by decide
theorem t6_p : (parseF t6).1 = t6R := by
  have h := parse_ok (l := t6) (by decide) (by rw [t6_read]) (by rw [t6_read]; exact t6_rg) (by rw [t6_read]; exact t6_tx)
  rw [h, t6_read]
theorem t6_h (n i : Int) (hi : absF n = i) : hB (parseF t6).1 n = decide ((((2 ≤ i ∧ i ≤ 4)))) := by
  rw [t6_p, hB, t6_rg, Bool.true_and, hi, Bool.eq_iff_iff]
  simp [hoRule, hoRow, hoR, inS]
/-- i = 0 -/
abbrev t7 : List UInt8 := [105, 32, 61, 32, 48]
abbrev t7R : Rule := [[⟨0, false, [⟨0, 0⟩]⟩]]
theorem t7_read : ruleF t7 (0, false) = (t7R, (5, false)) := by kernel_rfl
theorem t7_tx : txRule t7R = t7 := by simp [txRule, txRow, joinF, txR, txS, it_0]
theorem t7_rg : rgRule t7R = true := by decide
theorem t7_p : (parseF t7).1 = t7R := by
  have h := parse_ok (l := t7) (by decide) (by rw [t7_read]) (by rw [t7_read]; exact t7_rg) (by rw [t7_read]; exact t7_tx)
  rw [h, t7_read]
theorem t7_h (n i : Int) (hi : absF n = i) : hB (parseF t7).1 n = decide ((((0 ≤ i ∧ i ≤ 0)))) := by
  rw [t7_p, hB, t7_rg, Bool.true_and, hi, Bool.eq_iff_iff]
  simp [hoRule, hoRow, hoR, inS]
/-- i = 2 -/
abbrev t8 : List UInt8 := [105, 32, 61, 32, 50]
abbrev t8R : Rule := [[⟨0, false, [⟨2, 2⟩]⟩]]
theorem t8_read : ruleF t8 (0, false) = (t8R, (5, false)) := by kernel_rfl
theorem t8_tx : txRule t8R = t8 := by simp [txRule, txRow, joinF, txR, txS, it_2]
theorem t8_rg : rgRule t8R = true := by decide
theorem t8_p : (parseF t8).1 = t8R := by
  have h := parse_ok (l := t8) (by decide) (by rw [t8_read]) (by rw [t8_read]; exact t8_rg) (by rw [t8_read]; exact t8_tx)
  rw [h, t8_read]
theorem t8_h (n i : Int) (hi : absF n = i) : hB (parseF t8).1 n = decide ((((2 ≤ i ∧ i ≤ 2)))) := by
  rw [t8_p, hB, t8_rg, Bool.true_and, hi, Bool.eq_iff_iff]
  simp [hoRule, hoRow, hoR, inS]
/-- i % 100 = 3..10 -/
abbrev t9 : List UInt8 := [105, 32, 37, 32, 49, 48, 48, 32, 61, 32, 51, 46, 46, 49, 48]
abbrev t9R : Rule := [[⟨100, false, [⟨3, 10⟩]⟩]]
theorem t9_read : ruleF t9 (0, false) = (t9R, (15, false)) := by kernel_rfl
theorem t9_tx : txRule t9R = t9 := by simp [txRule, txRow, joinF, txR, txS, it_3, it_10, it_100]
theorem t9_rg : rgRule t9R = true := by decide
theorem t9_p : (parseF t9).1 = t9R := by
  have h := parse_ok (l := t9) (by decide) (by rw [t9_read]) (by rw [t9_read]; exact t9_rg) (by rw [t9_read]; exact t9_tx)
  rw [h, t9_read]
theorem t9_h (n i : Int) (hi : absF n = i) : hB (parseF t9).1 n = decide ((((3 ≤ (i % 100) ∧ (i % 100) ≤ 10)))) := by
  rw [t9_p, hB, t9_rg, Bool.true_and, hi, Bool.eq_iff_iff]
  simp [hoRule, hoRow, hoR, inS]
/-- i % 100 = 11..99 -/
abbrev t10 : List UInt8 := [105, 32, 37, 32, 49, 48, 48, 32, 61, 32, 49, 49, 46, 46, 57, 57]
abbrev t10R : Rule := [[⟨100, false, [⟨11, 99⟩]⟩]]
theorem t10_read : ruleF t10 (0, false) = (t10R, (16, false)) := by kernel_rfl
theorem t10_tx : txRule t10R = t10 := by simp [txRule, txRow, joinF, txR, txS, it_11, it_99, it_100]
theorem t10_rg : rgRule t10R = true := by decide
theorem t10_p : (parseF t10).1 = t10R := by
  have h := parse_ok (l := t10) (by decide) (by rw [t10_read]) (by rw [t10_read]; exact t10_rg) (by rw [t10_read]; exact t10_tx)
  rw [h, t10_read]
theorem t10_h (n i : Int) (hi : absF n = i) : hB (parseF t10).1 n = decide ((((11 ≤ (i % 100) ∧ (i % 100) ≤ 99)))) := by
  rw [t10_p, hB, t10_rg, Bool.true_and, hi, Bool.eq_iff_iff]
  simp [hoRule, hoRow, hoR, inS]
/-- i % 100 = 1 -/
abbrev t11 : List UInt8 := [105, 32, 37, 32, 49, 48, 48, 32, 61, 32, 49]
abbrev t11R : Rule := [[⟨100, false, [⟨1, 1⟩]⟩]]
theorem t11_read : ruleF t11 (0, false) = (t11R, (11, false)) := by kernel_rfl
theorem t11_tx : txRule t11R = t11 := by simp [txRule, txRow, joinF, txR, txS, it_1, it_100]
theorem t11_rg : rgRule t11R = true := by decide
theorem t11_p : (parseF t11).1 = t11R := by
  have h := parse_ok (l := t11) (by decide) (by rw [t11_read]) (by rw [t11_read]; exact t11_rg) (by rw [t11_read]; exact t11_tx)
  rw [h, t11_read]
theorem t11_h (n i : Int) (hi : absF n = i) : hB (parseF t11).1 n = decide ((((1 ≤ (i % 100) ∧ (i % 100) ≤ 1)))) := by
  rw [t11_p, hB, t11_rg, Bool.true_and, hi, Bool.eq_iff_iff]
  simp [hoRule, hoRow, hoR, inS]
/-- i % 100 = 2 -/
abbrev t12 : List UInt8 := [105, 32, 37, 32, 49, 48, 48, 32, 61, 32, 50]
abbrev t12R : Rule := [[⟨100, false, [⟨2, 2⟩]⟩]]
theorem t12_read : ruleF t12 (0, false) = (t12R, (11, false)) := by kernel_rfl
theorem t12_tx : txRule t12R = t12 := by simp [txRule, txRow, joinF, txR, txS, it_2, it_100]
theorem t12_rg : rgRule t12R = true := by decide
theorem t12_p : (parseF t12).1 = t12R := by
  have h := parse_ok (l := t12) (by decide) (by rw [t12_read]) (by rw [t12_read]; exact t12_rg) (by rw [t12_read]; exact t12_tx)
  rw [h, t12_read]
theorem t12_h (n i : Int) (hi : absF n = i) : hB (parseF t12).1 n = decide ((((2 ≤ (i % 100) ∧ (i % 100) ≤ 2)))) := by
  rw [t12_p, hB, t12_rg, Bool.true_and, hi, Bool.eq_iff_iff]
  simp [hoRule, hoRow, hoR, inS]
/-- i % 100 = 3,4 -/
abbrev t13 : List UInt8 := [105, 32, 37, 32, 49, 48, 48, 32, 61, 32, 51, 44, 52]
abbrev t13R : Rule := [[⟨100, false, [⟨3, 3⟩, ⟨4, 4⟩]⟩]]
theorem t13_read : ruleF t13 (0, false) = (t13R, (13, false)) := by kernel_rfl
theorem t13_tx : txRule t13R = t13 := by simp [txRule, txRow, joinF, txR, txS, it_3, it_4, it_100]
theorem t13_rg : rgRule t13R = true := by decide
theorem t13_p : (parseF t13).1 = t13R := by
  have h := parse_ok (l := t13) (by decide) (by rw [t13_read]) (by rw [t13_read]; exact t13_rg) (by rw [t13_read]; exact t13_tx)
  rw [h, t13_read]
theorem t13_h (n i : Int) (hi : absF n = i) : hB (parseF t13).1 n = decide ((((3 ≤ (i % 100) ∧ (i % 100) ≤ 3) ∨ (4 ≤ (i % 100) ∧ (i % 100) ≤ 4)))) := by
  rw [t13_p, hB, t13_rg, Bool.true_and, hi, Bool.eq_iff_iff]
  simp [hoRule, hoRow, hoR, inS]
/-- i = 3 -/
abbrev t14 : List UInt8 := [105, 32, 61, 32, 51]
abbrev t14R : Rule := [[⟨0, false, [⟨3, 3⟩]⟩]]
theorem t14_read : ruleF t14 (0, false) = (t14R, (5, false)) := by kernel_rfl
theorem t14_tx : txRule t14R = t14 := by simp [txRule, txRow, joinF, txR, txS, it_3]
theorem t14_rg : rgRule t14R = true := by decide
theorem t14_p : (parseF t14).1 = t14R := by
  have h := parse_ok (l := t14) (by decide) (by rw [t14_read]) (by rw [t14_read]; exact t14_rg) (by rw [t14_read]; exact t14_tx)
  rw [h, t14_read]
theorem t14_h (n i : Int) (hi : absF n = i) : hB (parseF t14).1 n = decide ((((3 ≤ i ∧ i ≤ 3)))) := by
  rw [t14_p, hB, t14_rg, Bool.true_and, hi, Bool.eq_iff_iff]
  simp [hoRule, hoRow, hoR, inS]
/-- i = 6 -/
abbrev t15 : List UInt8 := [105, 32, 61, 32, 54]
abbrev t15R : Rule := [[⟨0, false, [⟨6, 6⟩]⟩]]
theorem t15_read : ruleF t15 (0, false) = (t15R, (5, false)) := by kernel_rfl
theorem t15_tx : txRule t15R = t15 := by simp [txRule, txRow, joinF, txR, txS, it_6]
theorem t15_rg : rgRule t15R = true := by decide
theorem t15_p : (parseF t15).1 = t15R := by
  have h := parse_ok (l := t15) (by decide) (by rw [t15_read]) (by rw [t15_read]; exact t15_rg) (by rw [t15_read]; exact t15_tx)
  rw [h, t15_read]
theorem t15_h (n i : Int) (hi : absF n = i) : hB (parseF t15).1 n = decide ((((6 ≤ i ∧ i ≤ 6)))) := by
  rw [t15_p, hB, t15_rg, Bool.true_and, hi, Bool.eq_iff_iff]
  simp [hoRule, hoRow, hoR, inS]
end Go.Proofs.YtlgodcbffimcoaaDoor
