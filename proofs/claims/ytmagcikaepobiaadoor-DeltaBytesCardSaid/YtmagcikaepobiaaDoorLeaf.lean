/- The leaves of package code: isDigit, begin, decimal: what each call answers. -/
import Derived.Test.YtmagcikaepobiaaDoorPlain
import Derived.Test.YtmagcikaepobiaaDoorChecked
import Derived.Deep.QuietTactic
import Derived.BigQuiet
import Derived.Lib.Hide
namespace Go.Proofs.YtmagcikaepobiaaDoor
open Go.RowKit

theorem ret_int {k : IntKind} {a b : Int} (h : a = b) : Ending.returned (.int k a) = .returned (.int k b) := by rw [h]
theorem ret_bool {a b : Bool} (h : a = b) : Ending.returned (.bool a) = .returned (.bool b) := by rw [h]

theorem isDigit_any (c : UInt8) (w : World) : Calls Tryd.prog 49 #[.int .u8 c.toNat] w fun e w' => e = .returned (.bool (isDig c)) ∧ w = w' := by
  by_cases h1 : 48 ≤ c.toNat <;> by_cases h2 : c.toNat ≤ 57
  all_goals
    go_enter Tryd.func49, Tryd.ntmps49
    go_wp2
    all_goals
      go_ret
      refine ⟨ret_bool ?_, rfl⟩
      simp [isDig, h1, h2] <;> omega

theorem get_of (s : ByteArray) (i : Nat) (h : i < s.size) : s.data.toList[i]? = some s[i] := by
  rw [Array.getElem?_toList, Array.getElem?_eq_getElem (by simpa using h)]; rfl
theorem get_no (s : ByteArray) (i : Nat) (h : ¬ i < s.size) : s.data.toList[i]? = none := by
  rw [Array.getElem?_toList, Array.getElem?_eq_none (by simpa using h)]

theorem u8_ne (c : UInt8) (n : Nat) (hn : n < 256) : (c != UInt8.ofNat n) = decide (c.toNat ≠ n) := by
  rw [Bool.eq_iff_iff]
  simp only [bne_iff_ne, decide_eq_true_eq, ne_eq, ← UInt8.toNat_inj]
  rw [UInt8.toNat_ofNat_of_lt' (by simpa using hn)]
theorem u8_eq (c : UInt8) (n : Nat) (hn : n < 256) : (c == UInt8.ofNat n) = decide (c.toNat = n) := by
  rw [Bool.eq_iff_iff]
  simp only [beq_iff_eq, decide_eq_true_eq, ← UInt8.toNat_inj]
  rw [UInt8.toNat_ofNat_of_lt' (by simpa using hn)]

theorem beginF_eq {l : List UInt8} {i level count : Nat} {c : UInt8} (h : l[i]? = some c) :
    beginF l i level count = if c.toNat ≠ 105 ∧ c.toNat ≠ 108 ∧ isDig c = false then 11 else if 30 < level then 12 else if 4000 < count then 2 else 0 := by
  unfold beginF
  rw [h]
  have e1 := u8_ne c 105 (by omega)
  have e2 := u8_ne c 108 (by omega)
  simp only [show (105 : UInt8) = UInt8.ofNat 105 from rfl, show (108 : UInt8) = UInt8.ofNat 108 from rfl, e1, e2]
  simp [and_assoc]

theorem begin_any (s : ByteArray) (i level count : Nat) (w : World) (_ : s.size ≤ 140737488351232) (hi : i ≤ s.size) (hl : level ≤ 1000000) (hc : count ≤ 1000000) :
    Calls Tryd.prog 34 #[.string s, .int .i64 i, .int .i64 level, .int .i64 count] w fun e w' => e = .returned (.int .i64 (beginF s.data.toList i level count)) ∧ w = w' := by
  by_cases hlt : i < s.size
  · have hb : Hid (beginF s.data.toList i level count = _) := Lib.hid (beginF_eq (level := level) (count := count) (get_of s i hlt))
    cases hd : isDig s[i]
    all_goals
      go_enter Tryd.func34, Tryd.ntmps34
      go_wp2_with (go_at_call 49; refine (isDigit_any _ _).mono ?_; rintro e w' ⟨rfl, rfl⟩)
      all_goals
        go_ret
        refine ⟨ret_int ?_, rfl⟩
        rw [hb.out, hd]
        clear hb
        simp only [reduceCtorEq, and_false, and_true, if_false]
        repeat' split
        all_goals first | rfl | (exfalso; omega) | (exfalso; simp only [bne_eq_false_iff_eq] at *; omega)
  · have hb : Hid (beginF s.data.toList i level count = 10) := Lib.hid (by unfold beginF; rw [get_no s i hlt])
    go_enter Tryd.func34, Tryd.ntmps34
    go_wp2
    go_ret
    exact ⟨ret_int (by rw [hb.out]; rfl), rfl⟩
end Go.Proofs.YtmagcikaepobiaaDoor
