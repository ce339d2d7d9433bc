/- The plain mathematics of package code: trees of values, their bytes, and the reader's answer as a function of the bytes. -/
import Derived.WalkKit
import Derived.Test.YtdnedbcmgkilaaaGreatDoorChecked
import Derived.Deep.QuietTactic
import Derived.BigQuiet
import Derived.Lib.Hide

section

namespace Go.Proofs.YtdnedbcmgkilaaaGreatDoor.Co
inductive Tree where
  | num (n : Int)
  | text (bs : List UInt8)
  | list (ts : List Tree)
def isDig (c : UInt8) : Bool := decide (48 ≤ c.toNat) && decide (c.toNat ≤ 57)
def decF (most : Nat) (e : UInt8) : List UInt8 → Nat → Nat → Bool → Nat × Nat × Nat
  | [], i, _, _ => (0, 10, i)
  | c :: r, i, n, first =>
    if (c == e && !first) = true then (n, 0, i + 1)
    else if (!isDig c || (n == 0 && !first)) = true then (0, 11, i)
    else if (most - (c.toNat - 48)) / 10 < n then (0, 11, i)
    else decF most e r (i + 1) (n * 10 + (c.toNat - 48)) false
inductive Res where
  | ok (t : Tree) (next : Nat)
  | bad (e i : Nat)
def numF (s : List UInt8) (i : Nat) : Res :=
  if s[i]? = some 45 then
    if s[i + 1]? = some 48 then .bad 11 (i + 1)
    else match decF 9223372036854775808 101 (s.drop (i + 1)) (i + 1) 0 true with
      | (n, 0, k) => .ok (.num (-(n : Int))) k
      | (_, e, k) => .bad e k
  else match decF 9223372036854775807 101 (s.drop i) i 0 true with
    | (n, 0, k) => .ok (.num n) k
    | (_, e, k) => .bad e k
def textF (s : List UInt8) (i : Nat) : Res :=
  match decF 131072 58 (s.drop i) i 0 true with
  | (n, 0, k) => if s.length < k + n then .bad 10 s.length else .ok (.text ((s.drop k).take n)) (k + n)
  | (_, e, k) => .bad e k
def beginF (s : List UInt8) (i level count : Nat) : Nat :=
  match s[i]? with
  | none => 10
  | some c => if (c != 105 && c != 108 && !isDig c) = true then 11 else if 30 < level then 12 else if 4000 < count then 2 else 0
mutual
def rdV (s : List UInt8) : Nat → Nat → Nat → Nat → Res × Nat
  | 0, _, _, count => (.bad 1 0, count)
  | f + 1, i, level, count =>
    if beginF s i level (count + 1) = 0 then
      if s[i]? = some 105 then (numF s (i + 1), count + 1)
      else if s[i]? = some 108 then rdL s f (i + 1) level (count + 1) []
      else (textF s i, count + 1)
    else (.bad (beginF s i level (count + 1)) i, count + 1)
def rdL (s : List UInt8) : Nat → Nat → Nat → Nat → List Tree → Res × Nat
  | 0, _, _, count, _ => (.bad 1 0, count)
  | f + 1, i, level, count, acc =>
    if s[i]? = some 101 then (.ok (.list acc) (i + 1), count)
    else match rdV s f i (level + 1) count with
      | (.ok t k, c) => rdL s f k level c (acc ++ [t])
      | (.bad e k, c) => (.bad e k, c)
end
end Go.Proofs.YtdnedbcmgkilaaaGreatDoor.Co

end

section

namespace Go.Proofs.YtdnedbcmgkilaaaGreatDoor.Co
open Go.RowKit
theorem ret_int {k : IntKind} {a b : Int} (h : a = b) : Ending.returned (.int k a) = .returned (.int k b) := by rw [h]
theorem ret_bool {a b : Bool} (h : a = b) : Ending.returned (.bool a) = .returned (.bool b) := by rw [h]
theorem isDigit_any (c : UInt8) (w : World) : Calls Tryz.prog 104 #[.int .u8 c.toNat] w fun e w' => e = .returned (.bool (isDig c)) ∧ w = w' := by
  by_cases h1 : 48 ≤ c.toNat <;> by_cases h2 : c.toNat ≤ 57
  all_goals
    go_enter Tryz.func104, Tryz.ntmps104
    go_wp2
    all_goals
      go_ret
      refine ⟨ret_bool ?_, rfl⟩
      simp [isDig, h1, h2] <;> omega
theorem get_of (s : ByteArray) (i : Nat) (h : i < s.size) : s.data.toList[i]? = some s[i] := by
  rw [Array.getElem?_toList, Array.getElem?_eq_getElem (by simpa using h)]; rfl
theorem get_no (s : ByteArray) (i : Nat) (h : ¬ i < s.size) : s.data.toList[i]? = none := by
  rw [Array.getElem?_toList, Array.getElem?_eq_none (by simpa using h)]
theorem u8_ne (c : UInt8) (n : Nat) (hn : n < 256) : (c != UInt8.ofNat n) = decide (c.toNat ≠ n) := by
  rw [Bool.eq_iff_iff]
  simp only [bne_iff_ne, decide_eq_true_eq, ne_eq, ← UInt8.toNat_inj]
  rw [UInt8.toNat_ofNat_of_lt' (by simpa using hn)]
theorem beginF_eq {l : List UInt8} {i level count : Nat} {c : UInt8} (h : l[i]? = some c) :
    beginF l i level count = if c.toNat ≠ 105 ∧ c.toNat ≠ 108 ∧ isDig c = false then 11 else if 30 < level then 12 else if 4000 < count then 2 else 0 := by
  unfold beginF
  rw [h]
  have e1 := u8_ne c 105 (by omega)
  have e2 := u8_ne c 108 (by omega)
  simp only [show (105 : UInt8) = UInt8.ofNat 105 from rfl, show (108 : UInt8) = UInt8.ofNat 108 from rfl, e1, e2]
  simp [and_assoc]
theorem begin_any (s : ByteArray) (i level count : Nat) (w : World) (_ : s.size ≤ 140737488351232) (hi : i ≤ s.size) (hl : level ≤ 1000000) (hc : count ≤ 1000000) :
    Calls Tryz.prog 69 #[.string s, .int .i64 i, .int .i64 level, .int .i64 count] w fun e w' => e = .returned (.int .i64 (beginF s.data.toList i level count)) ∧ w = w' := by
  by_cases hlt : i < s.size
  · have hb : Hid (beginF s.data.toList i level count = _) := Lib.hid (beginF_eq (level := level) (count := count) (get_of s i hlt))
    cases hd : isDig s[i]
    all_goals
      go_enter Tryz.func69, Tryz.ntmps69
      go_wp2_with (go_at_call 104; refine (isDigit_any _ _).mono ?_; rintro e w' ⟨rfl, rfl⟩)
      all_goals
        go_ret
        refine ⟨ret_int ?_, rfl⟩
        rw [hb.out, hd]
        clear hb
        simp only [reduceCtorEq, and_false, and_true, if_false]
        repeat' split
        all_goals first | rfl | (exfalso; omega) | (exfalso; simp only [bne_eq_false_iff_eq] at *; omega)
  · have hb : Hid (beginF s.data.toList i level count = 10) := Lib.hid (by unfold beginF; rw [get_no s i hlt])
    go_enter Tryz.func69, Tryz.ntmps69
    go_wp2
    go_ret
    exact ⟨ret_int (by rw [hb.out]; rfl), rfl⟩
end Go.Proofs.YtdnedbcmgkilaaaGreatDoor.Co

end
