/- The document's Locale. -/
import Derived.Test.YtdkkkeoicekdgaaGreatDoorZEg22

namespace Go.Proofs.YtdkkkeoicekdgaaGreatDoor.Lc
set_option maxHeartbeats 3200000
open Go.Lib (hid)
open Go.RowKit Go.Lib
theorem sign_any (n : Nat) (w : World) : Calls Tryz.prog 194 #[.int .u8 n] w fun e w' => e = .returned (.bool (sgnN n)) /\ w' = w := by
 rcases (show n < 48 ∨ (48 <= n /\ n <= 57) ∨ (57 < n /\ n < 65) ∨ (65 <= n /\ n <= 90) ∨ (90 < n /\ n < 97) ∨ (97 <= n /\ n <= 122) ∨ 122 < n by omega) with h | h | h | h | h | h | h
 ·have e : sgnN n = false := by unfold sgnN; simp; omega
  rw [e]; clear e
  go_enter Tryz.func194, Tryz.ntmps194
  go_wp2;go_ret;exact ⟨z01 (by first | rfl | (simp; done) | (simp; omega)), rfl⟩
 ·have e : sgnN n = true := by unfold sgnN; simp; omega
  rw [e]; clear e
  go_enter Tryz.func194, Tryz.ntmps194
  go_wp2;go_ret;exact ⟨z01 (by first | rfl | (simp; done) | (simp; omega)), rfl⟩
 ·have e : sgnN n = false := by unfold sgnN; simp; omega
  rw [e]; clear e
  go_enter Tryz.func194, Tryz.ntmps194
  go_wp2;go_ret;exact ⟨z01 (by first | rfl | (simp; done) | (simp; omega)), rfl⟩
 ·have e : sgnN n = true := by unfold sgnN; simp; omega
  rw [e]; clear e
  go_enter Tryz.func194, Tryz.ntmps194
  go_wp2;go_ret;exact ⟨z01 (by first | rfl | (simp; done) | (simp; omega)), rfl⟩
 ·have e : sgnN n = false := by unfold sgnN; simp; omega
  rw [e]; clear e
  go_enter Tryz.func194, Tryz.ntmps194
  go_wp2;go_ret;exact ⟨z01 (by first | rfl | (simp; done) | (simp; omega)), rfl⟩
 ·have e : sgnN n = true := by unfold sgnN; simp; omega
  rw [e]; clear e
  go_enter Tryz.func194, Tryz.ntmps194
  go_wp2;go_ret;exact ⟨z01 (by first | rfl | (simp; done) | (simp; omega)), rfl⟩
 ·have e : sgnN n = false := by unfold sgnN; simp; omega
  rw [e]; clear e
  go_enter Tryz.func194, Tryz.ntmps194
  go_wp2;go_ret;exact ⟨z01 (by first | rfl | (simp; done) | (simp; omega)), rfl⟩
theorem z61 (s : ByteArray) (k : Nat) (h : k < s.size) : s.data.toList[k]? = some s[k] := by
 rw [List.getElem?_eq_getElem (by rw [z3t]; exact h), Array.getElem_toList]; rfl
theorem ok_sgn {s : ByteArray} {k : Nat} (h : k < s.size) (hs : sgn s[k] = true) : okAt s.data.toList k = true := by
 unfold okAt; rw [z61 s k h]; simp [hs]
theorem ok_other {s : ByteArray} {k : Nat} (h : k < s.size) (hs : sgn s[k] = false) (h2 : s[k] ≠ 45) : okAt s.data.toList k = false := by
 unfold okAt; rw [z61 s k h]; simp [hs, h2]
theorem ok_first {s : ByteArray} (h : 0 < s.size) (h2 : s[0] = 45) : okAt s.data.toList 0 = false := by
 unfold okAt; rw [z61 s 0 h]; simp [h2, z8s]
theorem ok_last {s : ByteArray} {k : Nat} (h : k < s.size) (h2 : s[k] = 45) (h3 : k + 1 = s.size) : okAt s.data.toList k = false := by
 unfold okAt; rw [z61 s k h]; simp [h2, z8s, h3]
theorem ok_dash {s : ByteArray} {k : Nat} (h : k + 1 < s.size) (h2 : s[k + 1] = 45) (h3 : k + 2 ≠ s.size) : okAt s.data.toList (k + 1) = decide (s[k] ≠ 45) := by
 have e : s.data.toList[k]? = some s[k] := z61 s k (by omega)
 unfold okAt; rw [z61 s (k + 1) h]; simp [h2, z8s, h3, e]
theorem z4b {c : UInt8} {n : Nat} (d : UInt8) (hd : d.toNat = n) (h : c ≠ d) : ((c.toNat : Int) != (n : Int)) = true := by
 rw [bne_iff_ne];intro e;exact h (UInt8.toNat_inj.1 (by omega))
theorem zc1 (s : ByteArray) (w : World) (hs : s.size <= 281474976710656) : Calls Tryz.prog 164 #[.string s] w fun e w' => e = .returned (.bool (locB s.data.toList)) /\ w' = w := by
 go_enter Tryz.func164, Tryz.ntmps164
 go_wp2
 go_loopw [3] (fun i wr => ∃ k : Nat, k <= s.size /\ i = .int .i64 k /\ wr = w /\ Hid (∀ j, j < k -> okAt s.data.toList j = true)) (fun i _ => s.size - (intOf i).toNat)
 case atStart => exact ⟨0, Nat.zero_le _, rfl, rfl, hid (fun j h => by omega)⟩
 case round =>
  obtain ⟨k, hk, rfl, rfl, HA⟩ := hrel
  by_cases hlt : k < s.size
  ·have a : k < s.data.size := hlt
   have HS := hid (sign_any s[k].toNat wr)
   cases hc : sgnN s[k].toNat with
   | true =>
    rw [hc] at HS
    have HN : Hid (∀ j, j < k + 1 -> okAt s.data.toList j = true) := hid (fun j hj => by
     rcases Nat.lt_or_eq_of_le (Nat.le_of_lt_succ hj) with h | rfl
     ·exact HA.out j h
     ·exact ok_sgn hlt hc)
    clear hc
    go_wp2_with fail
    refine HS.out.mono ?_;rintro e w2 ⟨rfl, rfl⟩;go_wp2;go_roundw
    case rel => exact ⟨k + 1, by omega, by go_num, trivial, HN⟩
    case measure => simp [intOf]; omega
   | false =>
    rw [hc] at HS
    by_cases h45 : s[k] = 45
    rotate_left
    ·have HF : Hid (locB s.data.toList = false) := hid (z8b _ (.inr (.inr ⟨k, by rw [z3t]; exact hlt, ok_other hlt hc h45⟩)))
     have hB : ((s[k].toNat : Int) != 45) = true := z4b 45 rfl h45;clear hc h45
     go_wp2_with fail
     refine HS.out.mono ?_;rintro e w2 ⟨rfl, rfl⟩;go_wp2;go_ret;exact ⟨z01 HF.out.symm, rfl⟩
    have hB : ((s[k].toNat : Int) != 45) = false := by rw [h45]; rfl
    by_cases h0 : k = 0
    ·subst h0
     have HF : Hid (locB s.data.toList = false) := hid (z8b _ (.inr (.inr ⟨0, by rw [z3t]; exact hlt, ok_first hlt h45⟩)));clear hc h45
     go_wp2_with fail
     refine HS.out.mono ?_;rintro e w2 ⟨rfl, rfl⟩;go_wp2;go_ret;exact ⟨z01 HF.out.symm, rfl⟩
    by_cases hl : k + 1 = s.size
    ·have HF : Hid (locB s.data.toList = false) := hid (z8b _ (.inr (.inr ⟨k, by rw [z3t]; exact hlt, ok_last hlt h45 hl⟩)))
     have h1 : ((k : Int) == 0) = false := by rw [beq_eq_false_iff_ne]; omega
     have h2 : ((k : Int) == (s.size : Int) - 1) = true := by rw [beq_iff_eq]; omega
     clear hc h45
     go_wp2_with fail
     refine HS.out.mono ?_;rintro e w2 ⟨rfl, rfl⟩;go_wp2;go_ret;exact ⟨z01 HF.out.symm, rfl⟩
    obtain ⟨q, rfl⟩ : ∃ q, k = q + 1 := ⟨k - 1, by omega⟩
    have h1 : ((q : Int) + 1 == 0) = false := by rw [beq_eq_false_iff_ne]; omega
    have h2 : ((q : Int) + 1 == (s.size : Int) - 1) = false := by rw [beq_eq_false_iff_ne]; omega
    have hq : q < s.size := by omega
    have b : q < s.data.size := hq;have HD := hid (ok_dash hlt h45 hl)
    have e1 : ((q + 1 : Nat) : Int) - 1 = (q : Int) := by omega
    by_cases hd : s[q] = 45
    ·have HF : Hid (locB s.data.toList = false) := hid (z8b _ (.inr (.inr ⟨q + 1, by rw [z3t]; exact hlt, by rw [HD.out, hd]; rfl⟩)))
     have h3 : ((s[q].toNat : Int) == 45) = true := by rw [hd]; rfl
     clear hc h45 hd
     go_wp2_with fail
     refine HS.out.mono ?_;rintro e w2 ⟨rfl, rfl⟩;go_wp2;go_ret;exact ⟨z01 HF.out.symm, rfl⟩
    ·have HN : Hid (∀ j, j < q + 1 + 1 -> okAt s.data.toList j = true) := hid (fun j hj => by
      rcases Nat.lt_or_eq_of_le (Nat.le_of_lt_succ hj) with h | rfl
      ·exact HA.out j h
      ·rw [HD.out]; simp [hd])
     have h3 : ((s[q].toNat : Int) == 45) = false := by
      have := z4b (n := 45) 45 rfl hd
      simpa [bne] using this
     clear hc h45 hd
     go_wp2_with fail
     refine HS.out.mono ?_;rintro e w2 ⟨rfl, rfl⟩;go_wp2;have hz : s.data.size = s.size := rfl;refine ⟨⟨q + 1 + 1, by omega, by go_num, trivial, HN⟩, ?_⟩
     simp [intOf]; omega
  ·have c : k = s.size := by omega
   by_cases h0 : s.size < 1
   ·have HF : Hid (locB s.data.toList = false) := hid (z8b _ (.inl (by rw [z3t]; exact h0)))
    go_wp2;go_ret;exact ⟨z01 HF.out.symm, rfl⟩
   by_cases h1 : 32 < s.size
   ·have HF : Hid (locB s.data.toList = false) := hid (z8b _ (.inr (.inl (by rw [z3t]; exact h1))))
    go_wp2;go_ret;exact ⟨z01 (by rw [HF.out]; simp; omega), rfl⟩
   ·have HF : Hid (locB s.data.toList = true) := hid (loc_yes _ (by rw [z3t]; omega) (by rw [z3t]; omega) (fun i hi => HA.out i (by rw [z3t] at hi; omega)))
    go_wp2;go_ret;exact ⟨z01 (by rw [HF.out]; simp; omega), rfl⟩
end Go.Proofs.YtdkkkeoicekdgaaGreatDoor.Lc
