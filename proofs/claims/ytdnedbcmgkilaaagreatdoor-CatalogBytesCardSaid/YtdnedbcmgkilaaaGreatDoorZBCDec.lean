/- Package code's decimal: what the call answers. -/
import Derived.Deep.Light
import Derived.Test.YtdnedbcmgkilaaaGreatDoorZBg10

namespace Go.Proofs.YtdnedbcmgkilaaaGreatDoor.Co
open Go.RowKit
theorem isDig_bd {c : UInt8} (h : isDig c = true) : 48 ≤ c.toNat ∧ c.toNat ≤ 57 := by
  simpa [isDig] using h
theorem drop_of (s : ByteArray) (k : Nat) (h : k < s.size) : s.data.toList.drop k = s[k] :: s.data.toList.drop (k + 1) := by
  rw [List.drop_eq_getElem_cons (by simpa using h)]; rfl
theorem drop_no (s : ByteArray) (k : Nat) (h : ¬ k < s.size) : s.data.toList.drop k = [] := by
  rw [List.drop_eq_nil_iff]; simp; omega
theorem decF_nil (most : Nat) (e : UInt8) (i n : Nat) (first : Bool) : decF most e [] i n first = (0, 10, i) := by rw [decF]
theorem decF_cons (most : Nat) (e c : UInt8) (r : List UInt8) (i n : Nat) (first : Bool) : decF most e (c :: r) i n first =
    if c.toNat = e.toNat ∧ first = false then (n, 0, i + 1)
    else if isDig c = false ∨ n = 0 ∧ first = false then (0, 11, i)
    else if (most - (c.toNat - 48)) / 10 < n then (0, 11, i)
    else decF most e r (i + 1) (n * 10 + (c.toNat - 48)) false := by
  rw [decF]
  have e1 : (c == e) = decide (c.toNat = e.toNat) := by
    rw [Bool.eq_iff_iff]; simp only [beq_iff_eq, decide_eq_true_eq, ← UInt8.toNat_inj]
  simp [e1]
def Tup3 (n : Nat × Nat × Nat) : Ending := .returned (.tuple #[.int .u64 n.1, .int .i64 n.2.1, .int .i64 n.2.2])
theorem tup3_of {n : Nat × Nat × Nat} {a b c : Nat} (h : n = (a, b, c)) : Ending.returned (.tuple #[.int .u64 a, .int .i64 b, .int .i64 c]) = Tup3 n := by rw [h]; rfl
set_option maxHeartbeats 1600000 in
theorem decimal_any (s : ByteArray) (i most : Nat) (e : UInt8) (en : Int) (he : en = e.toNat) (w : World) (hs : s.size ≤ 140737488351232) (hi : i ≤ s.size) (hm0 : 10 ≤ most) (hm : most ≤ 9223372036854775808) :
    Calls Tryz.prog 105 #[.string s, .int .i64 i, .int .u64 most, .int .u8 en] w fun x w' => x = Tup3 (decF most e (s.data.toList.drop i) i 0 true) ∧ w = w' := by
  subst he
  go_enter Tryz.func105, Tryz.ntmps105
  go_wp2
  go_loop [11, 12] (fun n j => ∃ k N : Nat, i ≤ k ∧ k ≤ s.size ∧ N ≤ most ∧ j = .int .i64 k ∧ n = .int .u64 N ∧ Hid (decF most e (s.data.toList.drop i) i 0 true = decF most e (s.data.toList.drop k) k N (decide (k = i))))
    (fun _ j => s.size - (intOf j).toNat)
  case atStart => exact ⟨i, 0, by omega, hi, by omega, rfl, rfl, Lib.hid (by simp)⟩
  case round =>
    obtain ⟨k, N, hik, hk, hN, rfl, rfl, H⟩ := hrel
    by_cases hlt : k < s.size
    · have H2 := Lib.hid (H.out.trans (by rw [drop_of s k hlt, decF_cons]))
      clear H
      have hcb : s[k].toNat < 256 := s[k].toNat_lt
      rcases Nat.lt_or_ge i k with hki | hki
      · have hB1 : ((k : Int) == (i : Int)) = false := by simp; omega
        have hF : Hid (decide (k = i) = false) := Lib.hid (by simp; omega)
        rcases Bool.eq_false_or_eq_true (((s[k].toNat : Nat) : Int) == (e.toNat : Int)) with hB2 | hB2
        · have H3 : Hid (decF most e (s.data.toList.drop i) i 0 true = (N, 0, k + 1)) := Lib.hid (H2.out.trans (if_pos ⟨by simp at hB2; omega, hF.out⟩))
          clear H2
          go_wp2_with (go_at_call 104; refine (isDigit_any _ _).mono ?_; rintro e w' ⟨rfl, rfl⟩)
          all_goals (go_ret3; exact ⟨tup3_of H3.out, rfl⟩)
        · have H3 := Lib.hid (H2.out.trans (if_neg (fun h => by have := h.1; simp at hB2; omega)))
          clear H2
          cases hd : isDig s[k]
          · have H4 : Hid (decF most e (s.data.toList.drop i) i 0 true = (0, 11, k)) := Lib.hid (H3.out.trans (if_pos (.inl hd)))
            clear H3
            go_wp2_with (go_at_call 104; refine (isDigit_any _ _).mono ?_; rintro e w' ⟨rfl, rfl⟩)
            all_goals (go_ret3; exact ⟨tup3_of H4.out, rfl⟩)
          · have hd1 := (isDig_bd hd).1
            have hd2 := (isDig_bd hd).2
            rcases Nat.eq_zero_or_pos N with hN0 | hN0
            · have H4 : Hid (decF most e (s.data.toList.drop i) i 0 true = (0, 11, k)) := Lib.hid (H3.out.trans (if_pos (.inr ⟨hN0, hF.out⟩)))
              clear H3
              subst hN0
              go_wp2_with (go_at_call 104; refine (isDigit_any _ _).mono ?_; rintro e w' ⟨rfl, rfl⟩)
              all_goals (go_ret3; exact ⟨tup3_of H4.out, rfl⟩)
            · have H4 := Lib.hid (H3.out.trans (if_neg (fun h => by rcases h with h | h; (rw [hd] at h; cases h); omega)))
              clear H3
              have hB3 : ((N : Int) == 0) = false := by simp; omega
              by_cases hov : ((most : Int) - ((s[k].toNat : Int) - 48)) / 10 < (N : Int)
              · have H5 : Hid (decF most e (s.data.toList.drop i) i 0 true = (0, 11, k)) := Lib.hid (H4.out.trans (if_pos (by omega)))
                clear H4
                go_wp2_with (go_at_call 104; refine (isDigit_any _ _).mono ?_; rintro e w' ⟨rfl, rfl⟩)
                all_goals (go_ret3; exact ⟨tup3_of H5.out, rfl⟩)
              · have H5 := Lib.hid (H4.out.trans (if_neg (by omega)))
                clear H4
                go_wp2_with (go_at_call 104; refine (isDigit_any _ _).mono ?_; rintro e w' ⟨rfl, rfl⟩)
                all_goals
                  go_round
                  case rel => exact ⟨k + 1, N * 10 + (s[k].toNat - 48), by omega, by omega, by omega, by go_num, by go_num, Lib.hid (by rw [H5.out, show decide (k + 1 = i) = false from by simp; omega])⟩
                  case measure => simp [intOf]; omega
      · have hkeq : Hid (k = i) := Lib.hid (by omega)
        have hB1 : ((k : Int) == (i : Int)) = true := by simp; omega
        have hF : Hid (decide (k = i) = true) := Lib.hid (by simp; omega)
        have H3 := Lib.hid (H2.out.trans (if_neg (fun h => by have := h.2; rw [hF.out] at this; cases this)))
        clear H2
        rcases Bool.eq_false_or_eq_true (((s[k].toNat : Nat) : Int) == (e.toNat : Int)) with hB2 | hB2
        all_goals
          cases hd : isDig s[k]
          · have H4 : Hid (decF most e (s.data.toList.drop i) i 0 true = (0, 11, k)) := Lib.hid (H3.out.trans (if_pos (.inl hd)))
            clear H3
            go_wp2_with (go_at_call 104; refine (isDigit_any _ _).mono ?_; rintro e w' ⟨rfl, rfl⟩)
            all_goals (go_ret3; exact ⟨tup3_of H4.out, rfl⟩)
          · have hd1 := (isDig_bd hd).1
            have hd2 := (isDig_bd hd).2
            have H4 := Lib.hid (H3.out.trans (if_neg (fun h => by rcases h with h | h; (rw [hd] at h; cases h); (have := h.2; rw [hF.out] at this; cases this))))
            clear H3
            by_cases hov : ((most : Int) - ((s[k].toNat : Int) - 48)) / 10 < (N : Int)
            · have H5 : Hid (decF most e (s.data.toList.drop i) i 0 true = (0, 11, k)) := Lib.hid (H4.out.trans (if_pos (by omega)))
              clear H4
              go_wp2_with (go_at_call 104; refine (isDigit_any _ _).mono ?_; rintro e w' ⟨rfl, rfl⟩)
              all_goals (go_ret3; exact ⟨tup3_of H5.out, rfl⟩)
            · have H5 := Lib.hid (H4.out.trans (if_neg (by omega)))
              clear H4
              go_wp2_with (go_at_call 104; refine (isDigit_any _ _).mono ?_; rintro e w' ⟨rfl, rfl⟩)
              all_goals
                go_round
                case rel => exact ⟨k + 1, N * 10 + (s[k].toNat - 48), by omega, by omega, by omega, by go_num, by go_num, Lib.hid (by rw [H5.out, show decide (k + 1 = i) = false from by simp; omega])⟩
                case measure => simp [intOf]; omega
    · have H2 : Hid (decF most e (s.data.toList.drop i) i 0 true = (0, 10, s.size)) := Lib.hid (H.out.trans (by rw [drop_no s k hlt, decF_nil, show k = s.size from by omega]))
      clear H
      go_wp2
      go_ret3
      exact ⟨tup3_of H2.out, rfl⟩
end Go.Proofs.YtdnedbcmgkilaaaGreatDoor.Co
