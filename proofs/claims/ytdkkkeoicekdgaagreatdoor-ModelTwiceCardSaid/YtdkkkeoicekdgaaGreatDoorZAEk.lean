/- Package catalog: which keys, which entries may be; the document's. -/
import Derived.Test.YtdkkkeoicekdgaaGreatDoorZAg18
import Derived.Test.YtdkkkeoicekdgaaGreatDoorZALRl
import Derived.Test.YtdkkkeoicekdgaaGreatDoorZAg25

namespace Go.Proofs.YtdkkkeoicekdgaaGreatDoor.Ca
set_option maxHeartbeats 1600000
open Go.Lib (hid)
open Go.RowKit Go.Proofs.YtdkkkeoicekdgaaGreatDoor Go.Lib
def kcN (n : Nat) : Bool := (decide (97 <= n) && decide (n <= 122)) || (decide (65 <= n) && decide (n <= 90)) || (decide (48 <= n) && decide (n <= 57)) || decide (n = 46) || decide (n = 95) || decide (n = 45)
theorem kc_eq (c : UInt8) : isKc c = kcN c.toNat := by
 have h : ∀ d : UInt8, (c == d) = decide (c.toNat = d.toNat) := fun d => by
  rw [Bool.eq_iff_iff, beq_iff_eq, decide_eq_true_eq, UInt8.toNat_inj]
 unfold isKc kcN
 rw [h, h, h]; rfl
theorem kcN_hi (n : Nat) (h : 128 <= n) : kcN n = false := by
 simp [kcN]; omega
theorem idx_kc (s : BA) : ∀ (f pos : Nat), s.size <= pos + f -> (0 <= idxFuncFrom (fun n => !kcN n) true s f pos ↔ (s.data.toList.drop pos).all isKc = false)
 | 0, pos, h => by
  have hl : s.data.toList.length <= pos := by rw [Array.length_toList]; exact h
  rw [List.drop_eq_nil_of_le hl, idxFuncFrom]; simp
 | f + 1, pos, h => by
  rw [idxFuncFrom]
  by_cases hp : pos < s.size
  ·have hl : pos < s.data.toList.length := by rw [Array.length_toList]; exact hp
   have hg := Lc.z9q s pos hl
   rw [if_pos hp, List.drop_eq_getElem_cons hl, List.all_cons, <- hg, kc_eq]
   cases hs : kcN (s.get! pos).toNat with
   | true =>
    have hlo : (s.get! pos).toNat < 128 := Nat.lt_of_not_le (fun e => by rw [kcN_hi _ e] at hs; cases hs)
    rw [Lc.za0 s pos hlo]
    simp only [hs, Bool.not_true, Bool.false_eq_true, if_false, Bool.true_and]
    exact idx_kc s f (pos + 1) (by omega)
   | false =>
    have h2 : kcN (Utf8.decode s pos).1 = false := by
     by_cases hlo : (s.get! pos).toNat < 128
     ·rw [Lc.za0 s pos hlo]; exact hs
     ·exact kcN_hi _ (Lc.dec_hi s pos (by omega))
    simp only [h2, Bool.not_false, if_true, Bool.false_and]
    simp
  ·have hl : s.data.toList.length <= pos := by rw [Array.length_toList]; exact Nat.le_of_not_lt hp
   rw [if_neg hp, List.drop_eq_nil_of_le hl]; simp
theorem z8s (s : BA) : decide (0 <= idxFunc (fun n => !kcN n) true s) = !(s.data.toList.all isKc) := by
 have h := idx_kc s s.size 0 (by omega)
 rw [List.drop_zero] at h
 unfold idxFunc
 cases hs : s.data.toList.all isKc with
 | true => rw [hs] at h; exact decide_eq_false (fun e => by cases h.1 e)
 | false => exact decide_eq_true (h.2 hs)
theorem z30 (n : Nat) (w : World) : Calls Tryz.prog 188 #[.int .i32 n] w fun e w' => e = .returned (.bool (!kcN n)) /\ w' = w := by
 rcases (show (n < 45) ∨ (n = 45) ∨ (n = 46) ∨ (n = 47) ∨ (48 <= n /\ n <= 57) ∨ (57 < n /\ n < 65) ∨ (65 <= n /\ n <= 90) ∨ (90 < n /\ n < 95) ∨ (n = 95) ∨ (n = 96) ∨ (97 <= n /\ n <= 122) ∨ (122 < n) by omega) with h | h | h | h | h | h | h | h | h | h | h | h
 ·have e : kcN n = false := by unfold kcN; simp; omega
  rw [e]; clear e
  have h46 : ((n : Int) == 46) = false := by rw [beq_eq_false_iff_ne]; omega
  have h95 : ((n : Int) == 95) = false := by rw [beq_eq_false_iff_ne]; omega
  have h45 : ((n : Int) == 45) = false := by rw [beq_eq_false_iff_ne]; omega
  go_enter Tryz.func188, Tryz.ntmps188
  go_wp2
  go_ret
  exact ⟨z03 (by first | rfl | (simp; done) | (simp; omega)), rfl⟩
 ·subst h
  rw [show kcN 45 = true from rfl]
  go_enter Tryz.func188, Tryz.ntmps188
  go_wp2
  go_ret
  exact ⟨z03 (by first | rfl | (simp; done) | (simp; omega)), rfl⟩
 ·subst h
  rw [show kcN 46 = true from rfl]
  go_enter Tryz.func188, Tryz.ntmps188
  go_wp2
  go_ret
  exact ⟨z03 (by first | rfl | (simp; done) | (simp; omega)), rfl⟩
 ·subst h
  rw [show kcN 47 = false from rfl]
  go_enter Tryz.func188, Tryz.ntmps188
  go_wp2
  go_ret
  exact ⟨z03 (by first | rfl | (simp; done) | (simp; omega)), rfl⟩
 ·have e : kcN n = true := by unfold kcN; simp; omega
  rw [e]; clear e
  have h46 : ((n : Int) == 46) = false := by rw [beq_eq_false_iff_ne]; omega
  have h95 : ((n : Int) == 95) = false := by rw [beq_eq_false_iff_ne]; omega
  have h45 : ((n : Int) == 45) = false := by rw [beq_eq_false_iff_ne]; omega
  go_enter Tryz.func188, Tryz.ntmps188
  go_wp2
  go_ret
  exact ⟨z03 (by first | rfl | (simp; done) | (simp; omega)), rfl⟩
 ·have e : kcN n = false := by unfold kcN; simp; omega
  rw [e]; clear e
  have h46 : ((n : Int) == 46) = false := by rw [beq_eq_false_iff_ne]; omega
  have h95 : ((n : Int) == 95) = false := by rw [beq_eq_false_iff_ne]; omega
  have h45 : ((n : Int) == 45) = false := by rw [beq_eq_false_iff_ne]; omega
  go_enter Tryz.func188, Tryz.ntmps188
  go_wp2
  go_ret
  exact ⟨z03 (by first | rfl | (simp; done) | (simp; omega)), rfl⟩
 ·have e : kcN n = true := by unfold kcN; simp; omega
  rw [e]; clear e
  have h46 : ((n : Int) == 46) = false := by rw [beq_eq_false_iff_ne]; omega
  have h95 : ((n : Int) == 95) = false := by rw [beq_eq_false_iff_ne]; omega
  have h45 : ((n : Int) == 45) = false := by rw [beq_eq_false_iff_ne]; omega
  go_enter Tryz.func188, Tryz.ntmps188
  go_wp2
  go_ret
  exact ⟨z03 (by first | rfl | (simp; done) | (simp; omega)), rfl⟩
 ·have e : kcN n = false := by unfold kcN; simp; omega
  rw [e]; clear e
  have h46 : ((n : Int) == 46) = false := by rw [beq_eq_false_iff_ne]; omega
  have h95 : ((n : Int) == 95) = false := by rw [beq_eq_false_iff_ne]; omega
  have h45 : ((n : Int) == 45) = false := by rw [beq_eq_false_iff_ne]; omega
  go_enter Tryz.func188, Tryz.ntmps188
  go_wp2
  go_ret
  exact ⟨z03 (by first | rfl | (simp; done) | (simp; omega)), rfl⟩
 ·subst h
  rw [show kcN 95 = true from rfl]
  go_enter Tryz.func188, Tryz.ntmps188
  go_wp2
  go_ret
  exact ⟨z03 (by first | rfl | (simp; done) | (simp; omega)), rfl⟩
 ·subst h
  rw [show kcN 96 = false from rfl]
  go_enter Tryz.func188, Tryz.ntmps188
  go_wp2
  go_ret
  exact ⟨z03 (by first | rfl | (simp; done) | (simp; omega)), rfl⟩
 ·have e : kcN n = true := by unfold kcN; simp; omega
  rw [e]; clear e
  have h46 : ((n : Int) == 46) = false := by rw [beq_eq_false_iff_ne]; omega
  have h95 : ((n : Int) == 95) = false := by rw [beq_eq_false_iff_ne]; omega
  have h45 : ((n : Int) == 45) = false := by rw [beq_eq_false_iff_ne]; omega
  go_enter Tryz.func188, Tryz.ntmps188
  go_wp2
  go_ret
  exact ⟨z03 (by first | rfl | (simp; done) | (simp; omega)), rfl⟩
 ·have e : kcN n = false := by unfold kcN; simp; omega
  rw [e]; clear e
  have h46 : ((n : Int) == 46) = false := by rw [beq_eq_false_iff_ne]; omega
  have h95 : ((n : Int) == 95) = false := by rw [beq_eq_false_iff_ne]; omega
  have h45 : ((n : Int) == 45) = false := by rw [beq_eq_false_iff_ne]; omega
  go_enter Tryz.func188, Tryz.ntmps188
  go_wp2
  go_ret
  exact ⟨z03 (by first | rfl | (simp; done) | (simp; omega)), rfl⟩
theorem z3e (s : BA) (w : World) : Calls Tryz.prog 186 #[.string s, .func (.func 188) #[] #[]] w fun e w' => e = .returned (.bool (!(s.data.toList.all isKc))) /\ Below w.heap.size w w' := by
 have h := Tryz.strings_ContainsFunc 188 #[] (enters_of Tryz.func188 (by kernel_rfl) rfl) (fun n => !kcN n) s w (fun W x _ => (z30 x W).mono fun e w' h => ⟨h.1, 0, h.2⟩)
 rw [z8s] at h
 exact h
theorem z4x (s : BA) : keyB s.data.toList = (decide (1 <= s.size) && decide (s.size <= 32) && s.data.toList.all isKc) := by unfold keyB; rw [z05]
theorem z74 (s : BA) (w : World) : Calls Tryz.prog 158 #[.string s] w fun e w' => e = .returned (.bool (keyB s.data.toList)) /\ Below w.heap.size w w' := by
 have HP := hid (z3e s w)
 by_cases h1 : 1 <= s.size
 ·have h1' : (1 : Int) <= s.size := by omega
  by_cases h2 : s.size <= 32
  ·have h2' : (s.size : Int) <= 32 := by omega
   have HK : Hid (keyB s.data.toList = s.data.toList.all isKc) := hid (by rw [z4x, decide_eq_true h1, decide_eq_true h2]; rfl)
   obtain ⟨q, HQ⟩ : ∃ q, Hid (q = s.data.toList.all isKc) := ⟨_, hid rfl⟩
   rw [<- HQ.out] at HP HK
   clear h1 h2
   cases q with
   | true =>
    go_enter Tryz.func158, Tryz.ntmps158
    go_wp2_with fail
    refine HP.out.mono ?_
    rintro e w1 ⟨rfl, hb⟩
    go_wp2
    go_ret
    exact ⟨by rw [HK.out]; rfl, hb⟩
   | false =>
    go_enter Tryz.func158, Tryz.ntmps158
    go_wp2_with fail
    refine HP.out.mono ?_
    rintro e w1 ⟨rfl, hb⟩
    go_wp2
    go_ret
    exact ⟨by rw [HK.out]; rfl, hb⟩
  ·have h2' : ¬ (s.size : Int) <= 32 := by omega
   have h3' : decide ((s.size : Int) <= 32) = false := decide_eq_false h2'
   have HK : Hid (keyB s.data.toList = false) := hid (by rw [z4x, decide_eq_true h1, decide_eq_false h2]; rfl)
   clear h1 h2
   go_enter Tryz.func158, Tryz.ntmps158
   go_wp2
   go_ret
   exact ⟨by rw [HK.out]; rfl, Below.refl _ _⟩
 ·have h1' : ¬ (1 : Int) <= s.size := by omega
  have h3' : decide ((1 : Int) <= s.size) = false := decide_eq_false h1'
  have HK : Hid (keyB s.data.toList = false) := hid (by rw [z4x, decide_eq_false h1]; rfl)
  clear h1
  go_enter Tryz.func158, Tryz.ntmps158
  go_wp2
  go_ret
  exact ⟨by rw [HK.out]; rfl, Below.refl _ _⟩
end Go.Proofs.YtdkkkeoicekdgaaGreatDoor.Ca
