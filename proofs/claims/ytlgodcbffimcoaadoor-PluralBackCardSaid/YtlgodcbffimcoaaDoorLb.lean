/- The law PluralBack. -/
import Derived.Test.YtlgodcbffimcoaaDoorLk
import Derived.Test.YtlgodcbffimcoaaDoorBl
import Derived.Test.YtlgodcbffimcoaaDoorL1
namespace Go.Proofs.YtlgodcbffimcoaaDoor
open Go.RowKit

theorem parse_cases (l : List UInt8) : (∃ e a, parseF l = ([], e, a) ∧ e ≠ 0 ∧ a ≤ l.length) ∨ (∃ r, parseF l = (r, 0, 0) ∧ rgRule r = true ∧ txRule r = l ∧ ¬ 400 < l.length) := by
  by_cases h : 400 < l.length
  · exact .inl ⟨2, 0, parse_long h, by decide, Nat.zero_le _⟩
  · cases h2 : (ruleF l (0, false)).2.2 with
    | true =>
      refine .inl ⟨_, _, parse_stuck h h2, ?_, (ge_rule l (0, false)).2 (Nat.zero_le _)⟩
      split <;> decide
    | false =>
      by_cases h3 : rgRule (ruleF l (0, false)).1 = true ∧ txRule (ruleF l (0, false)).1 = l
      · exact .inr ⟨_, parse_ok h h2 h3.1 h3.2, h3.1, h3.2, h⟩
      · exact .inl ⟨1, 0, parse_bad h h2 h3, by decide, Nat.zero_le _⟩

set_option maxHeartbeats 3200000 in
set_option maxRecDepth 100000 in
theorem lback_any (w : World) (a : Option Addr) (cap : Nat) (xs : Rule) (s : BA) (hs : s.size ≤ 9223372036854775807) (hIn : SlW w (Old w) (.slice a xs.length cap) xs) (ht : TabW w) :
    Calls Tryd.prog 7 #[.slice a xs.length cap, .string s] w fun e w' => e = .returned (.bool true) ∧ Below w.heap.size w w' := by
  have HIN := Lib.hid hIn
  have HT := Lib.hid ht
  have HP := Lib.hid (print_any w a cap xs hIn ht)
  clear hIn ht
  go_enter Tryd.func7, Tryd.ntmps7
  cases hr : rgRule xs with
  | false =>
    rw [print_bad hr] at HP
    clear hr
    go_wp2_with fail
    refine HP.out.mono ?_
    rintro e w1 ⟨rfl, hb1⟩
    have HBX := Lib.hid hb1
    clear hb1 HP
    have HPS := Lib.hid (parse_any _ s hs (HT.out.below HBX.out))
    go_wp2_with fail
    refine HPS.out.mono ?_
    rintro e w5 ⟨a5, c5, rfl, hsl5, hb5⟩
    have HB5 := Lib.hid (below_trans HBX.out hb5)
    have HSL5 := Lib.hid hsl5.old
    clear hb5 hsl5 HPS
    rcases parse_cases s.data.toList with ⟨er, at5, hp, hne, hle⟩ | ⟨r, hp, hrr, htx, hl4⟩
    · rw [hp] at HSL5 ⊢
      simp only at HSL5 ⊢
      have hn1 : ((er : Int) != 0) = true := by simp; omega
      have hle2 : at5 ≤ s.size := by simpa using hle
      have HAL := Lib.hid (alive_any _ (HT.out.below HB5.out))
      clear hp hne hle
      go_wp2_with fail
      refine HAL.out.mono ?_
      rintro e w6 ⟨rfl, hb6⟩
      have HB6 := Lib.hid (below_trans HB5.out hb6)
      clear hb6
      go_wp2
      go_ret
      exact ⟨rfl, HB6.out⟩
    · rw [hp] at HSL5 ⊢
      simp only at HSL5 ⊢
      have HPR := Lib.hid (print_any _ a5 c5 r HSL5.out (HT.out.below HB5.out))
      rw [print_ok hrr (by rw [htx]; exact hl4), htx, show S8 s.data.toList = s from (S8_of rfl).symm] at HPR
      clear hp hrr htx hl4
      go_wp2_with fail
      refine HPR.out.mono ?_
      rintro e w6 ⟨rfl, hb6⟩
      have HB6 := Lib.hid (below_trans HB5.out hb6)
      clear hb6
      go_wp2
      go_ret
      exact ⟨rfl, HB6.out⟩
  | true =>
    by_cases h4 : 400 < (txRule xs).length
    · rw [print_long hr h4] at HP
      clear hr h4
      go_wp2_with fail
      refine HP.out.mono ?_
      rintro e w1 ⟨rfl, hb1⟩
      have HBX := Lib.hid hb1
      clear hb1 HP
      have HPS := Lib.hid (parse_any _ s hs (HT.out.below HBX.out))
      go_wp2_with fail
      refine HPS.out.mono ?_
      rintro e w5 ⟨a5, c5, rfl, hsl5, hb5⟩
      have HB5 := Lib.hid (below_trans HBX.out hb5)
      have HSL5 := Lib.hid hsl5.old
      clear hb5 hsl5 HPS
      rcases parse_cases s.data.toList with ⟨er, at5, hp, hne, hle⟩ | ⟨r, hp, hrr, htx, hl4⟩
      · rw [hp] at HSL5 ⊢
        simp only at HSL5 ⊢
        have hn1 : ((er : Int) != 0) = true := by simp; omega
        have hle2 : at5 ≤ s.size := by simpa using hle
        have HAL := Lib.hid (alive_any _ (HT.out.below HB5.out))
        clear hp hne hle
        go_wp2_with fail
        refine HAL.out.mono ?_
        rintro e w6 ⟨rfl, hb6⟩
        have HB6 := Lib.hid (below_trans HB5.out hb6)
        clear hb6
        go_wp2
        go_ret
        exact ⟨rfl, HB6.out⟩
      · rw [hp] at HSL5 ⊢
        simp only at HSL5 ⊢
        have HPR := Lib.hid (print_any _ a5 c5 r HSL5.out (HT.out.below HB5.out))
        rw [print_ok hrr (by rw [htx]; exact hl4), htx, show S8 s.data.toList = s from (S8_of rfl).symm] at HPR
        clear hp hrr htx hl4
        go_wp2_with fail
        refine HPR.out.mono ?_
        rintro e w6 ⟨rfl, hb6⟩
        have HB6 := Lib.hid (below_trans HB5.out hb6)
        clear hb6
        go_wp2
        go_ret
        exact ⟨rfl, HB6.out⟩
    · rw [print_ok hr h4] at HP
      have HPB := Lib.hid (parse_back hr h4)
      have HRR := Lib.hid hr
      have hlen := txRule_len hr
      have HPT := Lib.hid (fun w ht => parse_any w (S8 (txRule xs)) (by rw [S8_size]; omega) ht)
      rw [show (S8 (txRule xs)).data.toList = txRule xs from S8_list _] at HPT
      clear hr h4 hlen
      generalize S8 (txRule xs) = t at *
      go_wp2_with fail
      refine HP.out.mono ?_
      rintro e w1 ⟨rfl, hb1⟩
      have HB1 := Lib.hid hb1
      clear hb1 HP
      go_wp2_with fail
      refine (HPT.out _ (HT.out.below HB1.out)).mono ?_
      rintro e w2 ⟨a2, c2, rfl, hsl2, hb2⟩
      rw [HPB.out] at hsl2 ⊢
      simp only at hsl2 ⊢
      have HB2 := Lib.hid (below_trans HB1.out hb2)
      have HLK := Lib.hid (like_any w2 a2 a c2 cap xs hsl2.old (HIN.out.below HB2.out) HRR.out)
      clear hb2 hsl2
      go_wp2_with fail
      refine HLK.out.mono ?_
      rintro e w3 ⟨rfl, hb3⟩
      have HBX := Lib.hid (below_trans HB2.out hb3)
      clear hb3 HLK
      have HPS := Lib.hid (parse_any _ s hs (HT.out.below HBX.out))
      go_wp2_with fail
      refine HPS.out.mono ?_
      rintro e w5 ⟨a5, c5, rfl, hsl5, hb5⟩
      have HB5 := Lib.hid (below_trans HBX.out hb5)
      have HSL5 := Lib.hid hsl5.old
      clear hb5 hsl5 HPS
      rcases parse_cases s.data.toList with ⟨er, at5, hp, hne, hle⟩ | ⟨r, hp, hrr, htx, hl4⟩
      · rw [hp] at HSL5 ⊢
        simp only at HSL5 ⊢
        have hn1 : ((er : Int) != 0) = true := by simp; omega
        have hle2 : at5 ≤ s.size := by simpa using hle
        have HAL := Lib.hid (alive_any _ (HT.out.below HB5.out))
        clear hp hne hle
        go_wp2_with fail
        refine HAL.out.mono ?_
        rintro e w6 ⟨rfl, hb6⟩
        have HB6 := Lib.hid (below_trans HB5.out hb6)
        clear hb6
        go_wp2
        go_ret
        exact ⟨rfl, HB6.out⟩
      · rw [hp] at HSL5 ⊢
        simp only at HSL5 ⊢
        have HPR := Lib.hid (print_any _ a5 c5 r HSL5.out (HT.out.below HB5.out))
        rw [print_ok hrr (by rw [htx]; exact hl4), htx, show S8 s.data.toList = s from (S8_of rfl).symm] at HPR
        clear hp hrr htx hl4
        go_wp2_with fail
        refine HPR.out.mono ?_
        rintro e w6 ⟨rfl, hb6⟩
        have HB6 := Lib.hid (below_trans HB5.out hb6)
        clear hb6
        go_wp2
        go_ret
        exact ⟨rfl, HB6.out⟩
end Go.Proofs.YtlgodcbffimcoaaDoor
