/- The plain mathematics of package code: trees of values, their bytes, and the reader's answer as a function of the bytes. -/
import Derived.WalkKit
import Derived.Test.YtdnedbcmgkilaaaGreatDoorChecked
import Derived.Deep.QuietTactic
import Derived.BigQuiet
import Derived.Lib.Hide
import Derived.Deep.Light
import Derived.WalkSpells
import Derived.Deep.AppendLies
import Derived.Laws.OwnMore

section

namespace Go.Proofs.YtdnedbcmgkilaaaGreatDoor.Co

/-- A value: an integer, a text, a list. -/
inductive Tree where
  | num (n : Int)
  | text (bs : List UInt8)
  | list (ts : List Tree)

def isDig (c : UInt8) : Bool := decide (48 ≤ c.toNat) && decide (c.toNat ≤ 57)

/-- The digits of a number up to 'most', ended by the byte 'e'; the rest of the text, the place, what was read so far, whether the next byte is the first one. -/
def decF (most : Nat) (e : UInt8) : List UInt8 → Nat → Nat → Bool → Nat × Nat × Nat
  | [], i, _, _ => (0, 10, i)
  | c :: r, i, n, first =>
    if (c == e && !first) = true then (n, 0, i + 1)
    else if (!isDig c || (n == 0 && !first)) = true then (0, 11, i)
    else if (most - (c.toNat - 48)) / 10 < n then (0, 11, i)
    else decF most e r (i + 1) (n * 10 + (c.toNat - 48)) false

inductive Res where
  | ok (t : Tree) (next : Nat)
  | bad (e i : Nat)

def numF (s : List UInt8) (i : Nat) : Res :=
  if s[i]? = some 45 then
    if s[i + 1]? = some 48 then .bad 11 (i + 1)
    else match decF 9223372036854775808 101 (s.drop (i + 1)) (i + 1) 0 true with
      | (n, 0, k) => .ok (.num (-(n : Int))) k
      | (_, e, k) => .bad e k
  else match decF 9223372036854775807 101 (s.drop i) i 0 true with
    | (n, 0, k) => .ok (.num n) k
    | (_, e, k) => .bad e k

def textF (s : List UInt8) (i : Nat) : Res :=
  match decF 131072 58 (s.drop i) i 0 true with
  | (n, 0, k) => if s.length < k + n then .bad 10 s.length else .ok (.text ((s.drop k).take n)) (k + n)
  | (_, e, k) => .bad e k

/-- Whether the count-th value, on that level, may begin at a place: 0, or why not. -/
def beginF (s : List UInt8) (i level count : Nat) : Nat :=
  match s[i]? with
  | none => 10
  | some c => if (c != 105 && c != 108 && !isDig c) = true then 11 else if 30 < level then 12 else if 4000 < count then 2 else 0

mutual
def rdV (s : List UInt8) : Nat → Nat → Nat → Nat → Res × Nat
  | 0, _, _, count => (.bad 1 0, count)
  | f + 1, i, level, count =>
    if beginF s i level (count + 1) = 0 then
      if s[i]? = some 105 then (numF s (i + 1), count + 1)
      else if s[i]? = some 108 then rdL s f (i + 1) level (count + 1) []
      else (textF s i, count + 1)
    else (.bad (beginF s i level (count + 1)) i, count + 1)
def rdL (s : List UInt8) : Nat → Nat → Nat → Nat → List Tree → Res × Nat
  | 0, _, _, count, _ => (.bad 1 0, count)
  | f + 1, i, level, count, acc =>
    if s[i]? = some 101 then (.ok (.list acc) (i + 1), count)
    else match rdV s f i (level + 1) count with
      | (.ok t k, c) => rdL s f k level c (acc ++ [t])
      | (.bad e k, c) => (.bad e k, c)
end

end Go.Proofs.YtdnedbcmgkilaaaGreatDoor.Co

end

/- The leaves of package code: isDigit, begin, decimal: what each call answers. -/
section

namespace Go.Proofs.YtdnedbcmgkilaaaGreatDoor.Co
open Go.RowKit

theorem ret_int {k : IntKind} {a b : Int} (h : a = b) : Ending.returned (.int k a) = .returned (.int k b) := by rw [h]
theorem ret_bool {a b : Bool} (h : a = b) : Ending.returned (.bool a) = .returned (.bool b) := by rw [h]

theorem isDigit_any (c : UInt8) (w : World) : Calls Tryz.prog 104 #[.int .u8 c.toNat] w fun e w' => e = .returned (.bool (isDig c)) ∧ w = w' := by
  by_cases h1 : 48 ≤ c.toNat <;> by_cases h2 : c.toNat ≤ 57
  all_goals
    go_enter Tryz.func104, Tryz.ntmps104
    go_wp2
    all_goals
      go_ret
      refine ⟨ret_bool ?_, rfl⟩
      simp [isDig, h1, h2] <;> omega

theorem get_of (s : ByteArray) (i : Nat) (h : i < s.size) : s.data.toList[i]? = some s[i] := by
  rw [Array.getElem?_toList, Array.getElem?_eq_getElem (by simpa using h)]; rfl
theorem get_no (s : ByteArray) (i : Nat) (h : ¬ i < s.size) : s.data.toList[i]? = none := by
  rw [Array.getElem?_toList, Array.getElem?_eq_none (by simpa using h)]

theorem u8_ne (c : UInt8) (n : Nat) (hn : n < 256) : (c != UInt8.ofNat n) = decide (c.toNat ≠ n) := by
  rw [Bool.eq_iff_iff]
  simp only [bne_iff_ne, decide_eq_true_eq, ne_eq, ← UInt8.toNat_inj]
  rw [UInt8.toNat_ofNat_of_lt' (by simpa using hn)]
theorem u8_eq (c : UInt8) (n : Nat) (hn : n < 256) : (c == UInt8.ofNat n) = decide (c.toNat = n) := by
  rw [Bool.eq_iff_iff]
  simp only [beq_iff_eq, decide_eq_true_eq, ← UInt8.toNat_inj]
  rw [UInt8.toNat_ofNat_of_lt' (by simpa using hn)]

theorem beginF_eq {l : List UInt8} {i level count : Nat} {c : UInt8} (h : l[i]? = some c) :
    beginF l i level count = if c.toNat ≠ 105 ∧ c.toNat ≠ 108 ∧ isDig c = false then 11 else if 30 < level then 12 else if 4000 < count then 2 else 0 := by
  unfold beginF
  rw [h]
  have e1 := u8_ne c 105 (by omega)
  have e2 := u8_ne c 108 (by omega)
  simp only [show (105 : UInt8) = UInt8.ofNat 105 from rfl, show (108 : UInt8) = UInt8.ofNat 108 from rfl, e1, e2]
  simp [and_assoc]

theorem begin_any (s : ByteArray) (i level count : Nat) (w : World) (_ : s.size ≤ 140737488351232) (hi : i ≤ s.size) (hl : level ≤ 1000000) (hc : count ≤ 1000000) :
    Calls Tryz.prog 69 #[.string s, .int .i64 i, .int .i64 level, .int .i64 count] w fun e w' => e = .returned (.int .i64 (beginF s.data.toList i level count)) ∧ w = w' := by
  by_cases hlt : i < s.size
  · have hb : Hid (beginF s.data.toList i level count = _) := Lib.hid (beginF_eq (level := level) (count := count) (get_of s i hlt))
    cases hd : isDig s[i]
    all_goals
      go_enter Tryz.func69, Tryz.ntmps69
      go_wp2_with (go_at_call 104; refine (isDigit_any _ _).mono ?_; rintro e w' ⟨rfl, rfl⟩)
      all_goals
        go_ret
        refine ⟨ret_int ?_, rfl⟩
        rw [hb.out, hd]
        clear hb
        simp only [reduceCtorEq, and_false, and_true, if_false]
        repeat' split
        all_goals first | rfl | (exfalso; omega) | (exfalso; simp only [bne_eq_false_iff_eq] at *; omega)
  · have hb : Hid (beginF s.data.toList i level count = 10) := Lib.hid (by unfold beginF; rw [get_no s i hlt])
    go_enter Tryz.func69, Tryz.ntmps69
    go_wp2
    go_ret
    exact ⟨ret_int (by rw [hb.out]; rfl), rfl⟩
end Go.Proofs.YtdnedbcmgkilaaaGreatDoor.Co

end

/- Package code's decimal: what the call answers. -/
section

namespace Go.Proofs.YtdnedbcmgkilaaaGreatDoor.Co
open Go.RowKit

theorem isDig_bd {c : UInt8} (h : isDig c = true) : 48 ≤ c.toNat ∧ c.toNat ≤ 57 := by
  simpa [isDig] using h
theorem drop_of (s : ByteArray) (k : Nat) (h : k < s.size) : s.data.toList.drop k = s[k] :: s.data.toList.drop (k + 1) := by
  rw [List.drop_eq_getElem_cons (by simpa using h)]; rfl
theorem drop_no (s : ByteArray) (k : Nat) (h : ¬ k < s.size) : s.data.toList.drop k = [] := by
  rw [List.drop_eq_nil_iff]; simp; omega
theorem decF_nil (most : Nat) (e : UInt8) (i n : Nat) (first : Bool) : decF most e [] i n first = (0, 10, i) := by rw [decF]
theorem decF_cons (most : Nat) (e c : UInt8) (r : List UInt8) (i n : Nat) (first : Bool) : decF most e (c :: r) i n first =
    if c.toNat = e.toNat ∧ first = false then (n, 0, i + 1)
    else if isDig c = false ∨ n = 0 ∧ first = false then (0, 11, i)
    else if (most - (c.toNat - 48)) / 10 < n then (0, 11, i)
    else decF most e r (i + 1) (n * 10 + (c.toNat - 48)) false := by
  rw [decF]
  have e1 : (c == e) = decide (c.toNat = e.toNat) := by
    rw [Bool.eq_iff_iff]; simp only [beq_iff_eq, decide_eq_true_eq, ← UInt8.toNat_inj]
  simp [e1]

def Tup3 (n : Nat × Nat × Nat) : Ending := .returned (.tuple #[.int .u64 n.1, .int .i64 n.2.1, .int .i64 n.2.2])

theorem tup3_of {n : Nat × Nat × Nat} {a b c : Nat} (h : n = (a, b, c)) : Ending.returned (.tuple #[.int .u64 a, .int .i64 b, .int .i64 c]) = Tup3 n := by rw [h]; rfl

set_option maxHeartbeats 1600000 in
theorem decimal_any (s : ByteArray) (i most : Nat) (e : UInt8) (en : Int) (he : en = e.toNat) (w : World) (hs : s.size ≤ 140737488351232) (hi : i ≤ s.size) (hm0 : 10 ≤ most) (hm : most ≤ 9223372036854775808) :
    Calls Tryz.prog 105 #[.string s, .int .i64 i, .int .u64 most, .int .u8 en] w fun x w' => x = Tup3 (decF most e (s.data.toList.drop i) i 0 true) ∧ w = w' := by
  subst he
  go_enter Tryz.func105, Tryz.ntmps105
  go_wp2
  go_loop [11, 12] (fun n j => ∃ k N : Nat, i ≤ k ∧ k ≤ s.size ∧ N ≤ most ∧ j = .int .i64 k ∧ n = .int .u64 N ∧ Hid (decF most e (s.data.toList.drop i) i 0 true = decF most e (s.data.toList.drop k) k N (decide (k = i))))
    (fun _ j => s.size - (intOf j).toNat)
  case atStart => exact ⟨i, 0, by omega, hi, by omega, rfl, rfl, Lib.hid (by simp)⟩
  case round =>
    obtain ⟨k, N, hik, hk, hN, rfl, rfl, H⟩ := hrel
    by_cases hlt : k < s.size
    · have H2 := Lib.hid (H.out.trans (by rw [drop_of s k hlt, decF_cons]))
      clear H
      have hcb : s[k].toNat < 256 := s[k].toNat_lt
      -- an end: the answer is known
      -- a round: the relation again
      rcases Nat.lt_or_ge i k with hki | hki
      · have hB1 : ((k : Int) == (i : Int)) = false := by simp; omega
        have hF : Hid (decide (k = i) = false) := Lib.hid (by simp; omega)
        rcases Bool.eq_false_or_eq_true (((s[k].toNat : Nat) : Int) == (e.toNat : Int)) with hB2 | hB2
        · have H3 : Hid (decF most e (s.data.toList.drop i) i 0 true = (N, 0, k + 1)) := Lib.hid (H2.out.trans (if_pos ⟨by simp at hB2; omega, hF.out⟩))
          clear H2
          go_wp2_with (go_at_call 104; refine (isDigit_any _ _).mono ?_; rintro e w' ⟨rfl, rfl⟩)
          all_goals (go_ret3; exact ⟨tup3_of H3.out, rfl⟩)
        · have H3 := Lib.hid (H2.out.trans (if_neg (fun h => by have := h.1; simp at hB2; omega)))
          clear H2
          cases hd : isDig s[k]
          · have H4 : Hid (decF most e (s.data.toList.drop i) i 0 true = (0, 11, k)) := Lib.hid (H3.out.trans (if_pos (.inl hd)))
            clear H3
            go_wp2_with (go_at_call 104; refine (isDigit_any _ _).mono ?_; rintro e w' ⟨rfl, rfl⟩)
            all_goals (go_ret3; exact ⟨tup3_of H4.out, rfl⟩)
          · have hd1 := (isDig_bd hd).1
            have hd2 := (isDig_bd hd).2
            rcases Nat.eq_zero_or_pos N with hN0 | hN0
            · have H4 : Hid (decF most e (s.data.toList.drop i) i 0 true = (0, 11, k)) := Lib.hid (H3.out.trans (if_pos (.inr ⟨hN0, hF.out⟩)))
              clear H3
              subst hN0
              go_wp2_with (go_at_call 104; refine (isDigit_any _ _).mono ?_; rintro e w' ⟨rfl, rfl⟩)
              all_goals (go_ret3; exact ⟨tup3_of H4.out, rfl⟩)
            · have H4 := Lib.hid (H3.out.trans (if_neg (fun h => by rcases h with h | h; (rw [hd] at h; cases h); omega)))
              clear H3
              have hB3 : ((N : Int) == 0) = false := by simp; omega
              by_cases hov : ((most : Int) - ((s[k].toNat : Int) - 48)) / 10 < (N : Int)
              · have H5 : Hid (decF most e (s.data.toList.drop i) i 0 true = (0, 11, k)) := Lib.hid (H4.out.trans (if_pos (by omega)))
                clear H4
                go_wp2_with (go_at_call 104; refine (isDigit_any _ _).mono ?_; rintro e w' ⟨rfl, rfl⟩)
                all_goals (go_ret3; exact ⟨tup3_of H5.out, rfl⟩)
              · have H5 := Lib.hid (H4.out.trans (if_neg (by omega)))
                clear H4
                go_wp2_with (go_at_call 104; refine (isDigit_any _ _).mono ?_; rintro e w' ⟨rfl, rfl⟩)
                all_goals
                  go_round
                  case rel => exact ⟨k + 1, N * 10 + (s[k].toNat - 48), by omega, by omega, by omega, by go_num, by go_num, Lib.hid (by rw [H5.out, show decide (k + 1 = i) = false from by simp; omega])⟩
                  case measure => simp [intOf]; omega
      · have hkeq : Hid (k = i) := Lib.hid (by omega)
        have hB1 : ((k : Int) == (i : Int)) = true := by simp; omega
        have hF : Hid (decide (k = i) = true) := Lib.hid (by simp; omega)
        have H3 := Lib.hid (H2.out.trans (if_neg (fun h => by have := h.2; rw [hF.out] at this; cases this)))
        clear H2
        rcases Bool.eq_false_or_eq_true (((s[k].toNat : Nat) : Int) == (e.toNat : Int)) with hB2 | hB2
        all_goals
          cases hd : isDig s[k]
          · have H4 : Hid (decF most e (s.data.toList.drop i) i 0 true = (0, 11, k)) := Lib.hid (H3.out.trans (if_pos (.inl hd)))
            clear H3
            go_wp2_with (go_at_call 104; refine (isDigit_any _ _).mono ?_; rintro e w' ⟨rfl, rfl⟩)
            all_goals (go_ret3; exact ⟨tup3_of H4.out, rfl⟩)
          · have hd1 := (isDig_bd hd).1
            have hd2 := (isDig_bd hd).2
            have H4 := Lib.hid (H3.out.trans (if_neg (fun h => by rcases h with h | h; (rw [hd] at h; cases h); (have := h.2; rw [hF.out] at this; cases this))))
            clear H3
            by_cases hov : ((most : Int) - ((s[k].toNat : Int) - 48)) / 10 < (N : Int)
            · have H5 : Hid (decF most e (s.data.toList.drop i) i 0 true = (0, 11, k)) := Lib.hid (H4.out.trans (if_pos (by omega)))
              clear H4
              go_wp2_with (go_at_call 104; refine (isDigit_any _ _).mono ?_; rintro e w' ⟨rfl, rfl⟩)
              all_goals (go_ret3; exact ⟨tup3_of H5.out, rfl⟩)
            · have H5 := Lib.hid (H4.out.trans (if_neg (by omega)))
              clear H4
              go_wp2_with (go_at_call 104; refine (isDigit_any _ _).mono ?_; rintro e w' ⟨rfl, rfl⟩)
              all_goals
                go_round
                case rel => exact ⟨k + 1, N * 10 + (s[k].toNat - 48), by omega, by omega, by omega, by go_num, by go_num, Lib.hid (by rw [H5.out, show decide (k + 1 = i) = false from by simp; omega])⟩
                case measure => simp [intOf]; omega
    · have H2 : Hid (decF most e (s.data.toList.drop i) i 0 true = (0, 10, s.size)) := Lib.hid (H.out.trans (by rw [drop_no s k hlt, decF_nil, show k = s.size from by omega]))
      clear H
      go_wp2
      go_ret3
      exact ⟨tup3_of H2.out, rfl⟩
end Go.Proofs.YtdnedbcmgkilaaaGreatDoor.Co

end

/- Package code's number and text: what the calls answer. -/
section

namespace Go.Proofs.YtdnedbcmgkilaaaGreatDoor.Co
open Go.RowKit

theorem decF_bd (most : Nat) (e : UInt8) (hm : 10 ≤ most) : ∀ (l : List UInt8) (i n : Nat) (first : Bool), n ≤ most →
    (decF most e l i n first).1 ≤ most ∧ i ≤ (decF most e l i n first).2.2 ∧ (decF most e l i n first).2.2 ≤ i + l.length ∧ (decF most e l i n first).2.1 ≤ 11 ∧ ((decF most e l i n first).2.1 = 0 → i + 1 ≤ (decF most e l i n first).2.2)
  | [], i, n, first, h => by rw [decF_nil]; simp
  | c :: r, i, n, first, h => by
    rw [decF_cons]
    split
    · simp; omega
    · split
      · simp
      · split
        · simp
        · rename_i h1 h2 h3
          have hd : isDig c = true := by
            cases hx : isDig c
            · exact absurd (.inl hx) h2
            · rfl
          have hb := isDig_bd hd
          have := decF_bd most e hm r (i + 1) (n * 10 + (c.toNat - 48)) false (by omega)
          simp only [List.length_cons]
          omega

abbrev zeroV : Value := .agg #[.int .i64 0, .int .i64 0, .string ⟨#[]⟩, .slice none 0 0]
abbrev numV (n : Int) : Value := .agg #[.int .i64 1, .int .i64 n, .string ⟨#[]⟩, .slice none 0 0]
abbrev textV (b : ByteArray) : Value := .agg #[.int .i64 2, .int .i64 0, .string b, .slice none 0 0]
def RetLeaf (r : Res) : Ending :=
  match r with
  | .ok (.num n) k => .returned (.tuple #[numV n, .int .i64 0, .int .i64 k])
  | .ok (.text bs) k => .returned (.tuple #[textV ⟨bs.toArray⟩, .int .i64 0, .int .i64 k])
  | .ok (.list _) k => .returned (.tuple #[zeroV, .int .i64 0, .int .i64 k])
  | .bad e k => .returned (.tuple #[zeroV, .int .i64 e, .int .i64 k])

theorem some45 (s : ByteArray) (i : Nat) (n : UInt8) (h : i < s.size) : s.data.toList[i]? = some n ↔ s[i].toNat = n.toNat := by
  rw [get_of s i h, Option.some_inj, ← UInt8.toNat_inj]

theorem numF_ok {s : List UInt8} {i n k : Nat} (h : s[i]? ≠ some 45) (hd : decF 9223372036854775807 101 (s.drop i) i 0 true = (n, 0, k)) : numF s i = .ok (.num n) k := by
  unfold numF; rw [if_neg h, hd]; rfl
theorem numF_bad {s : List UInt8} {i n k e : Nat} (h : s[i]? ≠ some 45) (hd : decF 9223372036854775807 101 (s.drop i) i 0 true = (n, e, k)) (he : e ≠ 0) : numF s i = .bad e k := by
  unfold numF; rw [if_neg h, hd]
  cases e with
  | zero => exact absurd rfl he
  | succ e => rfl
theorem numF_zero {s : List UInt8} {i : Nat} (h : s[i]? = some 45) (h0 : s[i + 1]? = some 48) : numF s i = .bad 11 (i + 1) := by
  unfold numF; rw [if_pos h, if_pos h0]
theorem numF_nok {s : List UInt8} {i n k : Nat} (h : s[i]? = some 45) (h0 : s[i + 1]? ≠ some 48) (hd : decF 9223372036854775808 101 (s.drop (i + 1)) (i + 1) 0 true = (n, 0, k)) : numF s i = .ok (.num (-(n : Int))) k := by
  unfold numF; rw [if_pos h, if_neg h0, hd]; rfl
theorem numF_nbad {s : List UInt8} {i n k e : Nat} (h : s[i]? = some 45) (h0 : s[i + 1]? ≠ some 48) (hd : decF 9223372036854775808 101 (s.drop (i + 1)) (i + 1) 0 true = (n, e, k)) (he : e ≠ 0) : numF s i = .bad e k := by
  unfold numF; rw [if_pos h, if_neg h0, hd]
  cases e with
  | zero => exact absurd rfl he
  | succ e => rfl

theorem wrap_neg (n : Nat) (h : n ≤ 9223372036854775808) : wrap64 (IntKind.u64.wrap (-(n : Int))) = -(n : Int) := by
  have e : IntKind.u64.wrap (-(n : Int)) = -(n : Int) % 18446744073709551616 := by
    simp [IntKind.wrap, IntKind.bits, IntKind.signed]
  rw [e]
  unfold wrap64
  omega

theorem below1 (w : World) (o : Obj) : Below w.heap.size w (w.alloc o) := (Below.refl _ _).alloc (Nat.le_refl _) o

theorem number_plain (s : ByteArray) (i : Nat) (w : World) (hs : s.size ≤ 140737488351232) (hi : i ≤ s.size) (hm : s.data.toList[i]? ≠ some 45) :
    Calls Tryz.prog 70 #[.string s, .int .i64 i] w fun x w' => x = RetLeaf (numF s.data.toList i) ∧ Below w.heap.size w w' := by
  obtain ⟨⟨n, er, k⟩, hd⟩ : ∃ x, decF 9223372036854775807 101 (s.data.toList.drop i) i 0 true = x := ⟨_, rfl⟩
  have hbd := decF_bd 9223372036854775807 101 (by omega) (s.data.toList.drop i) i 0 true (by omega)
  have hc := Lib.hid (fun w => decimal_any s i 9223372036854775807 101 101 rfl w hs hi (by omega) (by omega))
  rw [hd] at hbd
  simp only at hbd
  obtain ⟨hb1, hb2, hb3, -, -⟩ := hbd
  rw [List.length_drop] at hb3
  have hsz : s.data.toList.length = s.size := by simp
  have hkk : k ≤ s.size := by omega
  clear hsz hb3
  by_cases her : er = 0
  · subst her
    have HX := Lib.hid (numF_ok hm hd)
    have HD := Lib.hid hd
    clear hd
    by_cases hlt : i < s.size
    · have hB : (((s[i].toNat : Nat) : Int) == 45) = false := by
        have := fun h => hm ((some45 s i 45 hlt).2 h)
        simp at this ⊢; omega
      go_enter Tryz.func70, Tryz.ntmps70
      go_wp2_with (go_at_call 105; refine (hc.out _).mono ?_; rintro e w' ⟨rfl, rfl⟩; rw [HD.out]; simp only [Tup3])
      refine bodyPost_ret (v := .tuple #[numV n, .int .i64 0, .int .i64 k]) (by simp [results, Tryz.results70, go_sem]) rfl ⟨by rw [HX.out]; rfl, below1 _ _⟩
    · go_enter Tryz.func70, Tryz.ntmps70
      go_wp2_with (go_at_call 105; refine (hc.out _).mono ?_; rintro e w' ⟨rfl, rfl⟩; rw [HD.out]; simp only [Tup3])
      refine bodyPost_ret (v := .tuple #[numV n, .int .i64 0, .int .i64 k]) (by simp [results, Tryz.results70, go_sem]) rfl ⟨by rw [HX.out]; rfl, below1 _ _⟩
  · have HX := Lib.hid (numF_bad hm hd her)
    have HD := Lib.hid hd
    clear hd
    have hE : ((er : Int) != 0) = true := by simp; omega
    by_cases hlt : i < s.size
    · have hB : (((s[i].toNat : Nat) : Int) == 45) = false := by
        have := fun h => hm ((some45 s i 45 hlt).2 h)
        simp at this ⊢; omega
      go_enter Tryz.func70, Tryz.ntmps70
      go_wp2_with (go_at_call 105; refine (hc.out _).mono ?_; rintro e w' ⟨rfl, rfl⟩; rw [HD.out]; simp only [Tup3])
      refine bodyPost_ret (v := .tuple #[zeroV, .int .i64 er, .int .i64 k]) (by simp [results, Tryz.results70, go_sem]) rfl ⟨by rw [HX.out]; rfl, below1 _ _⟩
    · go_enter Tryz.func70, Tryz.ntmps70
      go_wp2_with (go_at_call 105; refine (hc.out _).mono ?_; rintro e w' ⟨rfl, rfl⟩; rw [HD.out]; simp only [Tup3])
      refine bodyPost_ret (v := .tuple #[zeroV, .int .i64 er, .int .i64 k]) (by simp [results, Tryz.results70, go_sem]) rfl ⟨by rw [HX.out]; rfl, below1 _ _⟩

theorem number_minus (s : ByteArray) (i : Nat) (w : World) (hs : s.size ≤ 140737488351232) (hlt : i < s.size) (hm : s.data.toList[i]? = some 45) :
    Calls Tryz.prog 70 #[.string s, .int .i64 i] w fun x w' => x = RetLeaf (numF s.data.toList i) ∧ Below w.heap.size w w' := by
  have hB : (((s[i].toNat : Nat) : Int) == 45) = true := by
    have := (some45 s i 45 hlt).1 hm
    simp at this ⊢; omega
  by_cases h0 : s.data.toList[i + 1]? = some 48
  · have hlt2 : i + 1 < s.size := by
      rcases Nat.lt_or_ge (i + 1) s.size with h | h
      · exact h
      · rw [get_no s (i + 1) (by omega)] at h0; cases h0
    have hB2 : (((s[i + 1].toNat : Nat) : Int) == 48) = true := by
      have := (some45 s (i + 1) 48 hlt2).1 h0
      simp at this ⊢; omega
    have HX := Lib.hid (numF_zero hm h0)
    clear h0 hm
    go_enter Tryz.func70, Tryz.ntmps70
    go_wp2
    refine bodyPost_ret (v := .tuple #[zeroV, .int .i64 11, .int .i64 (i + 1)]) (by simp [results, Tryz.results70, go_sem]) rfl ⟨by rw [HX.out]; rfl, below1 _ _⟩
  · obtain ⟨⟨n, er, k⟩, hd⟩ : ∃ x, decF 9223372036854775808 101 (s.data.toList.drop (i + 1)) (i + 1) 0 true = x := ⟨_, rfl⟩
    have hbd := decF_bd 9223372036854775808 101 (by omega) (s.data.toList.drop (i + 1)) (i + 1) 0 true (by omega)
    have hc : Hid (∀ w, Calls Tryz.prog 105 #[.string s, .int .i64 ((i : Int) + 1), .int .u64 9223372036854775808, .int .u8 101] w fun x w' => x = Tup3 (decF 9223372036854775808 101 (s.data.toList.drop (i + 1)) (i + 1) 0 true) ∧ w = w') :=
      Lib.hid (fun w => decimal_any s (i + 1) 9223372036854775808 101 101 rfl w hs (by omega) (by omega) (by omega))
    rw [hd] at hbd
    simp only at hbd
    obtain ⟨hb1, hb2, hb3, -, -⟩ := hbd
    rw [List.length_drop] at hb3
    have hsz : s.data.toList.length = s.size := by simp
    have hkk : k ≤ s.size := by omega
    clear hsz hb3
    by_cases her : er = 0
    · subst her
      have HX := Lib.hid (numF_nok hm h0 hd)
      have HD := Lib.hid hd
      clear hd hm
      by_cases hlt2 : i + 1 < s.size
      · have hB2 : (((s[i + 1].toNat : Nat) : Int) == 48) = false := by
          have := fun h => h0 ((some45 s (i + 1) 48 hlt2).2 h)
          simp at this ⊢; omega
        clear h0
        go_enter Tryz.func70, Tryz.ntmps70
        go_wp2_with (go_at_call 105; refine (hc.out _).mono ?_; rintro e w' ⟨rfl, rfl⟩; rw [HD.out]; simp only [Tup3])
        rw [wrap_neg n hb1]
        refine bodyPost_ret (v := .tuple #[numV (-(n : Int)), .int .i64 0, .int .i64 k]) (by simp [results, Tryz.results70, go_sem]) rfl ⟨by rw [HX.out]; rfl, below1 _ _⟩
      · clear h0
        go_enter Tryz.func70, Tryz.ntmps70
        go_wp2_with (go_at_call 105; refine (hc.out _).mono ?_; rintro e w' ⟨rfl, rfl⟩; rw [HD.out]; simp only [Tup3])
        rw [wrap_neg n hb1]
        refine bodyPost_ret (v := .tuple #[numV (-(n : Int)), .int .i64 0, .int .i64 k]) (by simp [results, Tryz.results70, go_sem]) rfl ⟨by rw [HX.out]; rfl, below1 _ _⟩
    · have HX := Lib.hid (numF_nbad hm h0 hd her)
      have HD := Lib.hid hd
      clear hd hm
      have hE : ((er : Int) != 0) = true := by simp; omega
      by_cases hlt2 : i + 1 < s.size
      · have hB2 : (((s[i + 1].toNat : Nat) : Int) == 48) = false := by
          have := fun h => h0 ((some45 s (i + 1) 48 hlt2).2 h)
          simp at this ⊢; omega
        clear h0
        go_enter Tryz.func70, Tryz.ntmps70
        go_wp2_with (go_at_call 105; refine (hc.out _).mono ?_; rintro e w' ⟨rfl, rfl⟩; rw [HD.out]; simp only [Tup3])
        refine bodyPost_ret (v := .tuple #[zeroV, .int .i64 er, .int .i64 k]) (by simp [results, Tryz.results70, go_sem]) rfl ⟨by rw [HX.out]; rfl, below1 _ _⟩
      · clear h0
        go_enter Tryz.func70, Tryz.ntmps70
        go_wp2_with (go_at_call 105; refine (hc.out _).mono ?_; rintro e w' ⟨rfl, rfl⟩; rw [HD.out]; simp only [Tup3])
        refine bodyPost_ret (v := .tuple #[zeroV, .int .i64 er, .int .i64 k]) (by simp [results, Tryz.results70, go_sem]) rfl ⟨by rw [HX.out]; rfl, below1 _ _⟩

theorem number_any (s : ByteArray) (i : Nat) (w : World) (hs : s.size ≤ 140737488351232) (hi : i ≤ s.size) :
    Calls Tryz.prog 70 #[.string s, .int .i64 i] w fun x w' => x = RetLeaf (numF s.data.toList i) ∧ Below w.heap.size w w' := by
  by_cases hm : s.data.toList[i]? = some 45
  · refine number_minus s i w hs ?_ hm
    rcases Nat.lt_or_ge i s.size with h | h
    · exact h
    · rw [get_no s i (by omega)] at hm; cases hm
  · exact number_plain s i w hs hi hm

theorem extract_of (s : ByteArray) (k n : Nat) (_h : k + n ≤ s.size) : s.extract k (k + n) = ⟨((s.data.toList.drop k).take n).toArray⟩ := by
  apply ByteArray.ext
  rw [ByteArray.data_extract]
  apply Array.ext'
  simp [Array.toList_extract, List.extract_eq_take_drop]

theorem textF_ok {s : List UInt8} {i n k : Nat} (hd : decF 131072 58 (s.drop i) i 0 true = (n, 0, k)) (h : k + n ≤ s.length) : textF s i = .ok (.text ((s.drop k).take n)) (k + n) := by
  unfold textF; rw [hd]; show (if _ then _ else _) = _; rw [if_neg (by omega)]
theorem textF_end {s : List UInt8} {i n k : Nat} (hd : decF 131072 58 (s.drop i) i 0 true = (n, 0, k)) (h : s.length < k + n) : textF s i = .bad 10 s.length := by
  unfold textF; rw [hd]; show (if _ then _ else _) = _; rw [if_pos h]
theorem textF_bad {s : List UInt8} {i n k e : Nat} (hd : decF 131072 58 (s.drop i) i 0 true = (n, e, k)) (he : e ≠ 0) : textF s i = .bad e k := by
  unfold textF; rw [hd]
  cases e with
  | zero => exact absurd rfl he
  | succ e => rfl

set_option maxHeartbeats 800000 in
set_option maxRecDepth 100000 in
theorem text_any (s : ByteArray) (i : Nat) (w : World) (hs : s.size ≤ 140737488351232) (hi : i ≤ s.size) :
    Calls Tryz.prog 73 #[.string s, .int .i64 i] w fun x w' => x = RetLeaf (textF s.data.toList i) ∧ Below w.heap.size w w' := by
  obtain ⟨⟨n, er, k⟩, hd⟩ : ∃ x, decF 131072 58 (s.data.toList.drop i) i 0 true = x := ⟨_, rfl⟩
  have hbd := decF_bd 131072 58 (by omega) (s.data.toList.drop i) i 0 true (by omega)
  have hc := Lib.hid (fun w => decimal_any s i 131072 58 58 rfl w hs hi (by omega) (by omega))
  rw [hd] at hbd
  simp only at hbd
  obtain ⟨hb1, hb2, hb3, -, -⟩ := hbd
  rw [List.length_drop] at hb3
  have hsz : s.data.toList.length = s.size := by simp
  have hkk : k ≤ s.size := by omega
  clear hb3
  by_cases her : er = 0
  · subst her
    by_cases hfit : k + n ≤ s.size
    · have HX := Lib.hid (textF_ok hd (by omega))
      have HD := Lib.hid hd
      have HE := Lib.hid (extract_of s k n hfit)
      clear hd hsz
      go_enter Tryz.func73, Tryz.ntmps73
      have hkn : (k : Int) ≤ (k : Int) + (n : Int) := by omega
      go_wp2_with (go_at_call 105; refine (hc.out _).mono ?_; rintro e w' ⟨rfl, rfl⟩; rw [HD.out]; simp only [Tup3])
      refine bodyPost_ret (v := .tuple #[textV (s.extract k (k + n)), .int .i64 0, .int .i64 (k + n)]) (by simp [results, Tryz.results73, go_sem]) rfl ⟨?_, below1 _ _⟩
      rw [HX.out]
      show _ = Ending.returned (.tuple #[textV ⟨((s.data.toList.drop k).take n).toArray⟩, .int .i64 0, .int .i64 ((k + n : Nat) : Int)])
      rw [← HE.out]
      rfl
    · have HX := Lib.hid (textF_end hd (by omega))
      have HD := Lib.hid hd
      have HS := Lib.hid hsz
      clear hd hsz
      go_enter Tryz.func73, Tryz.ntmps73
      go_wp2_with (go_at_call 105; refine (hc.out _).mono ?_; rintro e w' ⟨rfl, rfl⟩; rw [HD.out]; simp only [Tup3])
      refine bodyPost_ret (v := .tuple #[zeroV, .int .i64 10, .int .i64 s.size]) (by simp [results, Tryz.results73, go_sem]) rfl ⟨by rw [HX.out, HS.out]; rfl, below1 _ _⟩
  · have HX := Lib.hid (textF_bad hd her)
    have HD := Lib.hid hd
    clear hd hsz
    have hE : ((er : Int) != 0) = true := by simp; omega
    go_enter Tryz.func73, Tryz.ntmps73
    go_wp2_with (go_at_call 105; refine (hc.out _).mono ?_; rintro e w' ⟨rfl, rfl⟩; rw [HD.out]; simp only [Tup3])
    refine bodyPost_ret (v := .tuple #[zeroV, .int .i64 er, .int .i64 k]) (by simp [results, Tryz.results73, go_sem]) rfl ⟨by rw [HX.out]; rfl, below1 _ _⟩

end Go.Proofs.YtdnedbcmgkilaaaGreatDoor.Co

end

/- How a value of package api lies in memory: a tree of rows of four cells each; what keeps it. -/
section

namespace Go.Proofs.YtdnedbcmgkilaaaGreatDoor.Co
open Go.RowKit

/-- All blocks of w but those in X stand in w' as they stood. -/
structure Fr (X : Nat → Prop) (w w' : World) : Prop where
  os : w'.os = w.os
  tape : w'.tape = w.tape
  output : w'.output = w.output
  size : w.heap.size ≤ w'.heap.size
  block : ∀ k, k < w.heap.size → ¬ X k → w'.heap[k]? = w.heap[k]?

section
variable {X Y : Nat → Prop} {a w w' : World}
theorem Fr.refl (X : Nat → Prop) (w : World) : Fr X w w := ⟨rfl, rfl, rfl, Nat.le_refl _, fun _ _ _ => rfl⟩
theorem Fr.trans (h : Fr X a w) (k : Fr X w w') : Fr X a w' :=
  ⟨k.os.trans h.os, k.tape.trans h.tape, k.output.trans h.output, Nat.le_trans h.size k.size, fun i hi hx => (k.block i (Nat.lt_of_lt_of_le hi h.size) hx).trans (h.block i hi hx)⟩
theorem Fr.mono (h : Fr X w w') (hxy : ∀ k, k < w.heap.size → X k → Y k) : Fr Y w w' := ⟨h.os, h.tape, h.output, h.size, fun k hk hy => h.block k hk (fun hx => hy (hxy k hk hx))⟩
theorem Fr.alloc (h : Fr X a w) (o : Obj) : Fr X a (w.alloc o) :=
  h.trans ⟨rfl, rfl, rfl, by simp, fun k hk _ => Below.heap_alloc _ _ _ hk⟩
theorem Fr.setCell (h : Fr X a w) {p : Addr} (hp : a.heap.size ≤ p.block ∨ X p.block) (u : Value) : Fr X a (w.setCell p u) :=
  ⟨h.os, h.tape, h.output, by simpa [World.setCell] using h.size, fun k hk hx => (Below.heap_setCell _ _ _ _ (fun e => by subst e; rcases hp with hp | hp; omega; exact hx hp)).trans (h.block k hk hx)⟩
theorem Fr.drew (h : Fr X a w) : Fr X a w.drew := ⟨h.os, h.tape, h.output, h.size, h.block⟩
theorem Fr.of_below (hb : Below w.heap.size w w') : Fr X w w' := ⟨hb.os, hb.tape, hb.output, hb.size, fun k hk _ => hb.block k hk⟩
theorem Fr.below {B : Nat} (h : Fr (fun k => B ≤ k) w w') (hB : B ≤ w.heap.size) : Below B w w' :=
  ⟨h.os, h.tape, h.output, h.size, fun k hk => h.block k (by omega) (by omega)⟩
theorem Fr.grown (h : Fr X a w) {row : Option Nat} (hg : w.grownBy w' row) (hr : ∀ g, row = some g → a.heap.size ≤ g ∨ X g) : Fr X a w' :=
  ⟨hg.os.trans h.os, hg.tape.trans h.tape, hg.output.trans h.output, Nat.le_trans h.size hg.size, fun k hk hx => (hg.block k (Nat.lt_of_lt_of_le hk h.size) (fun e => by rcases hr k e.symm with h1 | h1; omega; exact hx h1)).trans (h.block k hk hx)⟩
theorem Fr.cell (h : Fr X w w') {p : Addr} (hp : p.block < w.heap.size) (hx : ¬ X p.block) : w'.cell? p = w.cell? p := World.cell?_of_block (h.block _ hp hx)
end

abbrev listV (L : Value) : Value := .agg #[.int .i64 3, .int .i64 0, .string ⟨#[]⟩, L]

mutual
/-- The value v is the tree, its rows being blocks in S. -/
def Rep (w : World) (S : Nat → Prop) : Tree → Value → Prop
  | .num n, v => v = numV n
  | .text bs, v => v = textV ⟨bs.toArray⟩
  | .list ts, v => ∃ L xs, v = listV L ∧ w.ownsRow 0 60 4 L ts.length xs ∧ (∀ g, L.ownBlock = some g → S g) ∧ RepAll w S ts xs
def RepAll (w : World) (S : Nat → Prop) : List Tree → List Value → Prop
  | [], xs => xs = []
  | t :: ts, xs => ∃ c0 c1 c2 c3 rest, xs = c0 :: c1 :: c2 :: c3 :: rest ∧ Rep w S t (.agg #[c0, c1, c2, c3]) ∧ RepAll w S ts rest
end

theorem ownsRow_keep {w w' : World} {base : Nat} {e : TypeId} {size : Nat} {v : Value} {n : Nat} {xs : List Value} (h : w.ownsRow base e size v n xs) (hk : ∀ g, v.ownBlock = some g → w'.heap[g]? = w.heap[g]?) : w'.ownsRow base e size v n xs := by
  refine ⟨h.1, ?_⟩
  rcases h.2 with h0 | ⟨g, cap, cur, hv, hb, hh, hr⟩
  · exact .inl h0
  · exact .inr ⟨g, cap, cur, hv, hb, (hk g (by rw [hv]; rfl)).trans hh, hr⟩

mutual
theorem Rep.keep {w w' : World} {S S' : Nat → Prop} (hk : ∀ g, S g → w'.heap[g]? = w.heap[g]?) (hS : ∀ g, S g → S' g) : ∀ (t : Tree) (v : Value), Rep w S t v → Rep w' S' t v
  | .num n, v, h => by rw [Rep] at h ⊢; exact h
  | .text bs, v, h => by rw [Rep] at h ⊢; exact h
  | .list ts, v, h => by
    rw [Rep] at h ⊢
    obtain ⟨L, xs, hv, ho, hg, hr⟩ := h
    exact ⟨L, xs, hv, ownsRow_keep ho (fun g e => hk g (hg g e)), fun g e => hS g (hg g e), RepAll.keep hk hS ts xs hr⟩
theorem RepAll.keep {w w' : World} {S S' : Nat → Prop} (hk : ∀ g, S g → w'.heap[g]? = w.heap[g]?) (hS : ∀ g, S g → S' g) : ∀ (ts : List Tree) (xs : List Value), RepAll w S ts xs → RepAll w' S' ts xs
  | [], xs, h => by rw [RepAll] at h ⊢; exact h
  | t :: ts, xs, h => by
    rw [RepAll] at h ⊢
    obtain ⟨c0, c1, c2, c3, rest, hx, ht, hr⟩ := h
    exact ⟨c0, c1, c2, c3, rest, hx, Rep.keep hk hS t _ ht, RepAll.keep hk hS ts rest hr⟩
end

theorem RepAll.snoc {w : World} {S : Nat → Prop} {t : Tree} {c0 c1 c2 c3 : Value} (ht : Rep w S t (.agg #[c0, c1, c2, c3])) : ∀ (ts : List Tree) (xs : List Value), RepAll w S ts xs → RepAll w S (ts ++ [t]) (xs ++ [c0, c1, c2, c3])
  | [], xs, h => by
    rw [RepAll] at h; subst h
    show RepAll w S [t] [c0, c1, c2, c3]
    rw [RepAll]
    exact ⟨c0, c1, c2, c3, [], rfl, ht, by rw [RepAll]⟩
  | u :: ts, xs, h => by
    rw [RepAll] at h
    obtain ⟨d0, d1, d2, d3, rest, rfl, hu, hr⟩ := h
    show RepAll w S (u :: (ts ++ [t])) _
    rw [RepAll]
    exact ⟨d0, d1, d2, d3, rest ++ [c0, c1, c2, c3], rfl, hu, RepAll.snoc ht ts rest hr⟩

/-- Every value that is a tree is four cells: two integers, a string, a slice. -/
theorem Rep.cells {w : World} {S : Nat → Prop} : ∀ (t : Tree) (v : Value), Rep w S t v → ∃ (kd n : Int) (b : ByteArray) (a : Option Addr) (len cap : Nat), v = .agg #[.int .i64 kd, .int .i64 n, .string b, .slice a len cap]
  | .num n, v, h => by rw [Rep] at h; subst h; exact ⟨_, _, _, _, _, _, rfl⟩
  | .text bs, v, h => by rw [Rep] at h; subst h; exact ⟨_, _, _, _, _, _, rfl⟩
  | .list ts, v, h => by
    rw [Rep] at h
    obtain ⟨L, xs, rfl, ho, -, -⟩ := h
    rcases ho.2 with ⟨rfl, -⟩ | ⟨g, cap, cur, rfl, -⟩ <;> exact ⟨_, _, _, _, _, _, rfl⟩

/-- w' is w, but for what block h holds. -/
structure But (h : Nat) (w w' : World) : Prop where
  os : w'.os = w.os
  tape : w'.tape = w.tape
  output : w'.output = w.output
  size : w'.heap.size = w.heap.size
  block : ∀ k, k ≠ h → w'.heap[k]? = w.heap[k]?

theorem But.refl (h : Nat) (w : World) : But h w w := ⟨rfl, rfl, rfl, rfl, fun _ _ => rfl⟩
theorem But.set {h : Nat} {w w' : World} (hb : But h w w') (i : Nat) (u : Value) : But h w (w'.setCell ⟨h, i, none⟩ u) :=
  ⟨hb.os, hb.tape, hb.output, by simpa [World.setCell] using hb.size, fun k hk => (Below.heap_setCell _ _ _ _ hk).trans (hb.block k hk)⟩
theorem But.put4 (h : Nat) (w : World) (a b c d : Value) : But h w ((((w.setCell ⟨h, 0, none⟩ a).setCell ⟨h, 1, none⟩ b).setCell ⟨h, 2, none⟩ c).setCell ⟨h, 3, none⟩ d) :=
  ((((But.refl h w).set 0 a).set 1 b).set 2 c).set 3 d
theorem heap_set {w : World} {h : Nat} {cs : Array Value} {t : TypeId} (hb : w.heap[h]? = some (.cells cs t (0, 0))) (i : Nat) (u : Value) : (w.setCell ⟨h, i, none⟩ u).heap[h]? = some (.cells (cs.setIfInBounds i u) t (0, 0)) := by
  simp [World.setCell, Array.getElem?_modify, hb]
theorem heap_put4 {w : World} {h : Nat} {x0 x1 x2 x3 : Value} {t : TypeId} (hb : w.heap[h]? = some (.cells #[x0, x1, x2, x3] t (0, 0))) (a b c d : Value) :
    ((((w.setCell ⟨h, 0, none⟩ a).setCell ⟨h, 1, none⟩ b).setCell ⟨h, 2, none⟩ c).setCell ⟨h, 3, none⟩ d).heap[h]? = some (.cells #[a, b, c, d] t (0, 0)) :=
  heap_set (heap_set (heap_set (heap_set hb 0 a) 1 b) 2 c) 3 d

end Go.Proofs.YtdnedbcmgkilaaaGreatDoor.Co

end
