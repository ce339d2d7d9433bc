/- strings.ContainsFunc's answer where it asks for a character that is neither letter nor digit: whether not all bytes are signs. -/
import Derived.Test.YtlmaafmhadbiaaaGreatDoorLLc
import Derived.Lib.DecodeN
import Derived.Shelf.GgClosure.StringsIndexFunc
namespace Go.Proofs.YtlmaafmhadbiaaaGreatDoor.Lc
open Go.Lib

theorem dec_lo (s : ByteArray) (i : Nat) (h : (s.get! i).toNat < 128) : Utf8.decode s i = ((s.get! i).toNat, 1) := by
  rw [decode_at]; unfold decodeN; rw [if_pos h]
theorem decN_hi (n b0 b1 b2 b3 : Nat) (h : 128 ≤ b0) : 128 ≤ (decodeN n b0 b1 b2 b3).1 := by
  unfold decodeN
  rw [if_neg (by omega)]
  repeat' split
  all_goals (first | (simp only; omega) | decide)
theorem dec_hi (s : ByteArray) (i : Nat) (h : 128 ≤ (s.get! i).toNat) : 128 ≤ (Utf8.decode s i).1 := by
  rw [decode_at]; exact decN_hi _ _ _ _ _ h
theorem sgnN_hi (n : Nat) (h : 128 ≤ n) : sgnN n = false := by
  simp [sgnN]; omega
theorem get_list (s : ByteArray) (i : Nat) (h : i < s.data.toList.length) : s.get! i = s.data.toList[i] := by
  have h2 : i < s.data.size := by simpa using h
  show s.data[i]! = _
  rw [getElem!_pos s.data i h2, Array.getElem_toList]
theorem idx_sgn (s : ByteArray) : ∀ (f pos : Nat), s.size ≤ pos + f → (0 ≤ idxFuncFrom (fun n => !sgnN n) true s f pos ↔ (s.data.toList.drop pos).all sgn = false)
  | 0, pos, h => by
    have hl : s.data.toList.length ≤ pos := by rw [Array.length_toList]; exact h
    rw [List.drop_eq_nil_of_le hl, idxFuncFrom]; simp
  | f + 1, pos, h => by
    rw [idxFuncFrom]
    by_cases hp : pos < s.size
    · have hl : pos < s.data.toList.length := by rw [Array.length_toList]; exact hp
      have hg := get_list s pos hl
      rw [if_pos hp, List.drop_eq_getElem_cons hl, List.all_cons, ← hg]
      cases hs : sgn (s.get! pos) with
      | true =>
        have hlo : (s.get! pos).toNat < 128 := Nat.lt_of_not_le (fun e => by
          have := sgnN_hi _ e
          have h2 : sgnN (s.get! pos).toNat = true := hs
          rw [this] at h2; cases h2)
        rw [dec_lo s pos hlo]
        have h2 : sgnN (s.get! pos).toNat = true := hs
        simp only [h2, Bool.not_true, Bool.false_eq_true, if_false, Bool.true_and]
        exact idx_sgn s f (pos + 1) (by omega)
      | false =>
        have h2 : sgnN (Utf8.decode s pos).1 = false := by
          by_cases hlo : (s.get! pos).toNat < 128
          · rw [dec_lo s pos hlo]; exact hs
          · exact sgnN_hi _ (dec_hi s pos (by omega))
        simp only [h2, Bool.not_false, if_true, Bool.false_and]
        simp
    · have hl : s.data.toList.length ≤ pos := by rw [Array.length_toList]; exact Nat.le_of_not_lt hp
      rw [if_neg hp, List.drop_eq_nil_of_le hl]; simp
theorem contains_sgn (s : ByteArray) : decide (0 ≤ idxFunc (fun n => !sgnN n) true s) = !(s.data.toList.all sgn) := by
  have h := idx_sgn s s.size 0 (by omega)
  rw [List.drop_zero] at h
  unfold idxFunc
  cases hs : s.data.toList.all sgn with
  | true => rw [hs] at h; exact decide_eq_false (fun e => by cases h.1 e)
  | false => exact decide_eq_true (h.2 hs)
end Go.Proofs.YtlmaafmhadbiaaaGreatDoor.Lc
