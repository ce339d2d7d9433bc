/- Package catalog: which keys, which entries may be; the document's. -/
import Derived.Test.YtdkkkeoicekdgaaGreatDoorZELRl
import Derived.Test.YtdkkkeoicekdgaaGreatDoorZEg15

namespace Go.Proofs.YtdkkkeoicekdgaaGreatDoor.Ca
set_option maxHeartbeats 3200000
open Go.Lib (hid)
open Go.RowKit Go.Proofs.YtdkkkeoicekdgaaGreatDoor Go.Lib
def kcN (n : Nat) : Bool := (decide (97 <= n) && decide (n <= 122)) || (decide (65 <= n) && decide (n <= 90)) || (decide (48 <= n) && decide (n <= 57)) || decide (n = 46) || decide (n = 95) || decide (n = 45)
theorem kc_eq (c : UInt8) : isKc c = kcN c.toNat := by
 have h : ∀ d : UInt8, (c == d) = decide (c.toNat = d.toNat) := fun d => by
  rw [Bool.eq_iff_iff, beq_iff_eq, decide_eq_true_eq, UInt8.toNat_inj]
 unfold isKc kcN
 rw [h, h, h]; rfl
theorem kcN_hi (n : Nat) (h : 128 <= n) : kcN n = false := by
 simp [kcN]; omega
theorem idx_kc (s : BA) : ∀ (f pos : Nat), s.size <= pos + f -> (0 <= idxFuncFrom (fun n => !kcN n) true s f pos ↔ (s.data.toList.drop pos).all isKc = false)
 | 0, pos, h => by
  have hl : s.data.toList.length <= pos := by rw [Array.length_toList]; exact h
  rw [List.drop_eq_nil_of_le hl, idxFuncFrom]; simp
 | f + 1, pos, h => by
  rw [idxFuncFrom]
  by_cases hp : pos < s.size
  ·have hl : pos < s.data.toList.length := by rw [Array.length_toList]; exact hp
   have hg := Lc.ze9 s pos hl;rw [if_pos hp, List.drop_eq_getElem_cons hl, List.all_cons, <- hg, kc_eq]
   cases hs : kcN (s.get! pos).toNat with
   | true =>
    have a : (s.get! pos).toNat < 128 := Nat.lt_of_not_le (fun e => by rw [kcN_hi _ e] at hs; cases hs);rw [Lc.zep s pos a];simp only [hs, Bool.not_true, Bool.false_eq_true, if_false, Bool.true_and];exact idx_kc s f (pos + 1) (by omega)
   | false =>
    have h2 : kcN (Utf8.decode s pos).1 = false := by
     by_cases a : (s.get! pos).toNat < 128
     ·rw [Lc.zep s pos a]; exact hs
     ·exact kcN_hi _ (Lc.dec_hi s pos (by omega))
    simp only [h2, Bool.not_false, if_true, Bool.false_and]
    simp
  ·have hl : s.data.toList.length <= pos := by rw [Array.length_toList]; exact Nat.le_of_not_lt hp
   rw [if_neg hp, List.drop_eq_nil_of_le hl]; simp
theorem zcx (s : BA) : decide (0 <= idxFunc (fun n => !kcN n) true s) = !(s.data.toList.all isKc) := by
 have h := idx_kc s s.size 0 (by omega);rw [List.drop_zero] at h
 unfold idxFunc
 cases hs : s.data.toList.all isKc with
 | true => rw [hs] at h; exact decide_eq_false (fun e => by cases h.1 e)
 | false => exact decide_eq_true (h.2 hs)
theorem z4v (n : Nat) (w : World) : Calls Tryz.prog 188 #[.int .i32 n] w fun e w' => e = .returned (.bool (!kcN n)) /\ w' = w := by
 rcases (show (n < 45) ∨ (n = 45) ∨ (n = 46) ∨ (n = 47) ∨ (48 <= n /\ n <= 57) ∨ (57 < n /\ n < 65) ∨ (65 <= n /\ n <= 90) ∨ (90 < n /\ n < 95) ∨ (n = 95) ∨ (n = 96) ∨ (97 <= n /\ n <= 122) ∨ (122 < n) by omega) with h | h | h | h | h | h | h | h | h | h | h | h
 ·have e : kcN n = false := by unfold kcN; simp; omega
  rw [e]; clear e
  have a : ((n : Int) == 46) = false := by rw [beq_eq_false_iff_ne]; omega
  have b : ((n : Int) == 95) = false := by rw [beq_eq_false_iff_ne]; omega
  have c : ((n : Int) == 45) = false := by rw [beq_eq_false_iff_ne]; omega
  go_enter Tryz.func188, Tryz.ntmps188
  go_wp2;go_ret;exact ⟨z01 (by first | rfl | (simp; done) | (simp; omega)), rfl⟩
 ·subst h
  rw [show kcN 45 = true from rfl]
  go_enter Tryz.func188, Tryz.ntmps188
  go_wp2;go_ret;exact ⟨z01 (by first | rfl | (simp; done) | (simp; omega)), rfl⟩
 ·subst h
  rw [show kcN 46 = true from rfl]
  go_enter Tryz.func188, Tryz.ntmps188
  go_wp2;go_ret;exact ⟨z01 (by first | rfl | (simp; done) | (simp; omega)), rfl⟩
 ·subst h
  rw [show kcN 47 = false from rfl]
  go_enter Tryz.func188, Tryz.ntmps188
  go_wp2;go_ret;exact ⟨z01 (by first | rfl | (simp; done) | (simp; omega)), rfl⟩
 ·have e : kcN n = true := by unfold kcN; simp; omega
  rw [e]; clear e
  have a : ((n : Int) == 46) = false := by rw [beq_eq_false_iff_ne]; omega
  have b : ((n : Int) == 95) = false := by rw [beq_eq_false_iff_ne]; omega
  have c : ((n : Int) == 45) = false := by rw [beq_eq_false_iff_ne]; omega
  go_enter Tryz.func188, Tryz.ntmps188
  go_wp2;go_ret;exact ⟨z01 (by first | rfl | (simp; done) | (simp; omega)), rfl⟩
 ·have e : kcN n = false := by unfold kcN; simp; omega
  rw [e]; clear e
  have a : ((n : Int) == 46) = false := by rw [beq_eq_false_iff_ne]; omega
  have b : ((n : Int) == 95) = false := by rw [beq_eq_false_iff_ne]; omega
  have c : ((n : Int) == 45) = false := by rw [beq_eq_false_iff_ne]; omega
  go_enter Tryz.func188, Tryz.ntmps188
  go_wp2;go_ret;exact ⟨z01 (by first | rfl | (simp; done) | (simp; omega)), rfl⟩
 ·have e : kcN n = true := by unfold kcN; simp; omega
  rw [e]; clear e
  have a : ((n : Int) == 46) = false := by rw [beq_eq_false_iff_ne]; omega
  have b : ((n : Int) == 95) = false := by rw [beq_eq_false_iff_ne]; omega
  have c : ((n : Int) == 45) = false := by rw [beq_eq_false_iff_ne]; omega
  go_enter Tryz.func188, Tryz.ntmps188
  go_wp2;go_ret;exact ⟨z01 (by first | rfl | (simp; done) | (simp; omega)), rfl⟩
 ·have e : kcN n = false := by unfold kcN; simp; omega
  rw [e]; clear e
  have a : ((n : Int) == 46) = false := by rw [beq_eq_false_iff_ne]; omega
  have b : ((n : Int) == 95) = false := by rw [beq_eq_false_iff_ne]; omega
  have c : ((n : Int) == 45) = false := by rw [beq_eq_false_iff_ne]; omega
  go_enter Tryz.func188, Tryz.ntmps188
  go_wp2;go_ret;exact ⟨z01 (by first | rfl | (simp; done) | (simp; omega)), rfl⟩
 ·subst h
  rw [show kcN 95 = true from rfl]
  go_enter Tryz.func188, Tryz.ntmps188
  go_wp2;go_ret;exact ⟨z01 (by first | rfl | (simp; done) | (simp; omega)), rfl⟩
 ·subst h
  rw [show kcN 96 = false from rfl]
  go_enter Tryz.func188, Tryz.ntmps188
  go_wp2;go_ret;exact ⟨z01 (by first | rfl | (simp; done) | (simp; omega)), rfl⟩
 ·have e : kcN n = true := by unfold kcN; simp; omega
  rw [e]; clear e
  have a : ((n : Int) == 46) = false := by rw [beq_eq_false_iff_ne]; omega
  have b : ((n : Int) == 95) = false := by rw [beq_eq_false_iff_ne]; omega
  have c : ((n : Int) == 45) = false := by rw [beq_eq_false_iff_ne]; omega
  go_enter Tryz.func188, Tryz.ntmps188
  go_wp2;go_ret;exact ⟨z01 (by first | rfl | (simp; done) | (simp; omega)), rfl⟩
 ·have e : kcN n = false := by unfold kcN; simp; omega
  rw [e]; clear e
  have a : ((n : Int) == 46) = false := by rw [beq_eq_false_iff_ne]; omega
  have b : ((n : Int) == 95) = false := by rw [beq_eq_false_iff_ne]; omega
  have c : ((n : Int) == 45) = false := by rw [beq_eq_false_iff_ne]; omega
  go_enter Tryz.func188, Tryz.ntmps188
  go_wp2;go_ret;exact ⟨z01 (by first | rfl | (simp; done) | (simp; omega)), rfl⟩
theorem z5g (s : BA) (w : World) : Calls Tryz.prog 186 #[.string s, .func (.func 188) #[] #[]] w fun e w' => e = .returned (.bool (!(s.data.toList.all isKc))) /\ Below w.heap.size w w' := by
 have h := Tryz.strings_ContainsFunc 188 #[] (enters_of Tryz.func188 (by kernel_rfl) rfl) (fun n => !kcN n) s w (fun W x _ => (z4v x W).mono fun e w' h => ⟨h.1, 0, h.2⟩);rw [zcx] at h;exact h
theorem z43 (s : BA) : keyB s.data.toList = (decide (1 <= s.size) && decide (s.size <= 32) && s.data.toList.all isKc) := by unfold keyB; rw [z08]
theorem zaa (s : BA) (w : World) : Calls Tryz.prog 158 #[.string s] w fun e w' => e = .returned (.bool (keyB s.data.toList)) /\ Below w.heap.size w w' := by
 have HP := hid (z5g s w)
 by_cases h1 : 1 <= s.size
 ·have a : (1 : Int) <= s.size := by omega
  by_cases h2 : s.size <= 32
  ·have b : (s.size : Int) <= 32 := by omega
   have HK : Hid (keyB s.data.toList = s.data.toList.all isKc) := hid (by rw [z43, decide_eq_true h1, decide_eq_true h2]; rfl);obtain ⟨q, HQ⟩ := nmd (s.data.toList.all isKc);rw [<- HQ.out] at HP HK;clear h1 h2
   cases q with
   | true =>
    go_enter Tryz.func158, Tryz.ntmps158
    go_wp2_with fail
    refine HP.out.mono ?_;rintro e w1 ⟨rfl, hb⟩;go_wp2;go_ret;exact ⟨by rw [HK.out]; rfl, hb⟩
   | false =>
    go_enter Tryz.func158, Tryz.ntmps158
    go_wp2_with fail
    refine HP.out.mono ?_;rintro e w1 ⟨rfl, hb⟩;go_wp2;go_ret;exact ⟨by rw [HK.out]; rfl, hb⟩
  ·have b : ¬ (s.size : Int) <= 32 := by omega
   have c : decide ((s.size : Int) <= 32) = false := decide_eq_false b;have HK : Hid (keyB s.data.toList = false) := hid (by rw [z43, decide_eq_true h1, decide_eq_false h2]; rfl);clear h1 h2
   go_enter Tryz.func158, Tryz.ntmps158
   go_wp2;go_ret;exact ⟨by rw [HK.out]; rfl, Below.refl _ _⟩
 ·have a : ¬ (1 : Int) <= s.size := by omega
  have c : decide ((1 : Int) <= s.size) = false := decide_eq_false a;have HK : Hid (keyB s.data.toList = false) := hid (by rw [z43, decide_eq_false h1]; rfl);clear h1
  go_enter Tryz.func158, Tryz.ntmps158
  go_wp2;go_ret;exact ⟨by rw [HK.out]; rfl, Below.refl _ _⟩
theorem rkey_any (s : BA) (w : World) (hs : s.size <= 140737488351232) : Calls Tryz.prog 165 #[.string s] w fun e w' => e = .returned (.bool (keyB s.data.toList)) /\ w = w' := by
 go_enter Tryz.func165, Tryz.ntmps165
 go_wp2
 go_loop [3] (fun i => ∃ k : Nat, k <= s.size /\ i = .int .i64 k /\ Hid ((s.data.toList.take k).all isKc = true)) (fun i => s.size - (intOf i).toNat)
 case atStart => exact ⟨0, Nat.zero_le _, rfl, hid rfl⟩
 case round =>
  obtain ⟨k, hk, rfl, HA⟩ := hrel
  by_cases hlt : k < s.size
  ·have hg := z3f s k hlt
   have HN : Hid ((s.data.toList.take (k + 1)).all isKc = isKc s[k]) := hid (by
    rw [List.take_add_one, hg, List.all_append, HA.out]; simp)
   have HF : Hid (isKc s[k] = false -> keyB s.data.toList = false) := hid (fun h => by
    rw [z43]
    have : s.data.toList.all isKc = false := by
     rw [List.all_eq_false];exact ⟨s[k], List.mem_of_getElem? hg, by rw [h]; simp⟩
    rw [this, Bool.and_false])
   have b := hid (kc_eq s[k]);clear hg;have hc := (s[k]).toNat_lt
   rcases (show (s[k].toNat < 45) ∨ (s[k].toNat = 45) ∨ (s[k].toNat = 46) ∨ (s[k].toNat = 47) ∨ (48 <= s[k].toNat /\ s[k].toNat <= 57) ∨ (57 < s[k].toNat /\ s[k].toNat < 65) ∨ (65 <= s[k].toNat /\ s[k].toNat <= 90) ∨ (90 < s[k].toNat /\ s[k].toNat < 95) ∨ (s[k].toNat = 95) ∨ (s[k].toNat = 96) ∨ (97 <= s[k].toNat /\ s[k].toNat <= 122) ∨ (122 < s[k].toNat) by omega) with h | h | h | h | h | h | h | h | h | h | h | h
   ·have HV : Hid (isKc s[k] = false) := hid (by rw [b.out]; unfold kcN; simp; omega)
    have c : ((s[k].toNat : Int) == 46) = false := by rw [beq_eq_false_iff_ne]; omega
    have d : ((s[k].toNat : Int) == 95) = false := by rw [beq_eq_false_iff_ne]; omega
    have f : ((s[k].toNat : Int) == 45) = false := by rw [beq_eq_false_iff_ne]; omega
    have a : decide ((s[k].toNat : Int) <= 122) = true := decide_eq_true (by omega);have g : decide ((s[k].toNat : Int) <= 90) = true := decide_eq_true (by omega);have j : decide ((s[k].toNat : Int) <= 57) = true := decide_eq_true (by omega);go_wp2;go_ret;exact ⟨by rw [HF.out HV.out]; rfl, rfl⟩
   ·have HV : Hid (isKc s[k] = true) := hid (by rw [b.out]; unfold kcN; simp; omega)
    have c : ((s[k].toNat : Int) == 46) = false := by rw [beq_eq_false_iff_ne]; omega
    have d : ((s[k].toNat : Int) == 95) = false := by rw [beq_eq_false_iff_ne]; omega
    have f : ((s[k].toNat : Int) == 45) = true := by rw [beq_iff_eq]; omega
    have a : decide ((s[k].toNat : Int) <= 122) = true := decide_eq_true (by omega);have g : decide ((s[k].toNat : Int) <= 90) = true := decide_eq_true (by omega);have j : decide ((s[k].toNat : Int) <= 57) = true := decide_eq_true (by omega);go_wp2
    go_round
    case rel => exact ⟨k + 1, by omega, by go_num, hid (by rw [HN.out, HV.out])⟩
    case measure => simp [intOf]; omega
   ·have HV : Hid (isKc s[k] = true) := hid (by rw [b.out]; unfold kcN; simp; omega)
    have c : ((s[k].toNat : Int) == 46) = true := by rw [beq_iff_eq]; omega
    have d : ((s[k].toNat : Int) == 95) = false := by rw [beq_eq_false_iff_ne]; omega
    have f : ((s[k].toNat : Int) == 45) = false := by rw [beq_eq_false_iff_ne]; omega
    have a : decide ((s[k].toNat : Int) <= 122) = true := decide_eq_true (by omega);have g : decide ((s[k].toNat : Int) <= 90) = true := decide_eq_true (by omega);have j : decide ((s[k].toNat : Int) <= 57) = true := decide_eq_true (by omega);go_wp2
    go_round
    case rel => exact ⟨k + 1, by omega, by go_num, hid (by rw [HN.out, HV.out])⟩
    case measure => simp [intOf]; omega
   ·have HV : Hid (isKc s[k] = false) := hid (by rw [b.out]; unfold kcN; simp; omega)
    have c : ((s[k].toNat : Int) == 46) = false := by rw [beq_eq_false_iff_ne]; omega
    have d : ((s[k].toNat : Int) == 95) = false := by rw [beq_eq_false_iff_ne]; omega
    have f : ((s[k].toNat : Int) == 45) = false := by rw [beq_eq_false_iff_ne]; omega
    have a : decide ((s[k].toNat : Int) <= 122) = true := decide_eq_true (by omega);have g : decide ((s[k].toNat : Int) <= 90) = true := decide_eq_true (by omega);have j : decide ((s[k].toNat : Int) <= 57) = true := decide_eq_true (by omega);go_wp2;go_ret;exact ⟨by rw [HF.out HV.out]; rfl, rfl⟩
   ·have HV : Hid (isKc s[k] = true) := hid (by rw [b.out]; unfold kcN; simp; omega)
    have c : ((s[k].toNat : Int) == 46) = false := by rw [beq_eq_false_iff_ne]; omega
    have d : ((s[k].toNat : Int) == 95) = false := by rw [beq_eq_false_iff_ne]; omega
    have f : ((s[k].toNat : Int) == 45) = false := by rw [beq_eq_false_iff_ne]; omega
    have a : decide ((s[k].toNat : Int) <= 122) = true := decide_eq_true (by omega);have g : decide ((s[k].toNat : Int) <= 90) = true := decide_eq_true (by omega);have j : decide ((s[k].toNat : Int) <= 57) = true := decide_eq_true (by omega);go_wp2
    go_round
    case rel => exact ⟨k + 1, by omega, by go_num, hid (by rw [HN.out, HV.out])⟩
    case measure => simp [intOf]; omega
   ·have HV : Hid (isKc s[k] = false) := hid (by rw [b.out]; unfold kcN; simp; omega)
    have c : ((s[k].toNat : Int) == 46) = false := by rw [beq_eq_false_iff_ne]; omega
    have d : ((s[k].toNat : Int) == 95) = false := by rw [beq_eq_false_iff_ne]; omega
    have f : ((s[k].toNat : Int) == 45) = false := by rw [beq_eq_false_iff_ne]; omega
    have a : decide ((s[k].toNat : Int) <= 122) = true := decide_eq_true (by omega);have g : decide ((s[k].toNat : Int) <= 90) = true := decide_eq_true (by omega);have j : decide ((s[k].toNat : Int) <= 57) = false := decide_eq_false (by omega);go_wp2;go_ret;exact ⟨by rw [HF.out HV.out]; rfl, rfl⟩
   ·have HV : Hid (isKc s[k] = true) := hid (by rw [b.out]; unfold kcN; simp; omega)
    have c : ((s[k].toNat : Int) == 46) = false := by rw [beq_eq_false_iff_ne]; omega
    have d : ((s[k].toNat : Int) == 95) = false := by rw [beq_eq_false_iff_ne]; omega
    have f : ((s[k].toNat : Int) == 45) = false := by rw [beq_eq_false_iff_ne]; omega
    have a : decide ((s[k].toNat : Int) <= 122) = true := decide_eq_true (by omega);have g : decide ((s[k].toNat : Int) <= 90) = true := decide_eq_true (by omega);have j : decide ((s[k].toNat : Int) <= 57) = false := decide_eq_false (by omega);go_wp2
    go_round
    case rel => exact ⟨k + 1, by omega, by go_num, hid (by rw [HN.out, HV.out])⟩
    case measure => simp [intOf]; omega
   ·have HV : Hid (isKc s[k] = false) := hid (by rw [b.out]; unfold kcN; simp; omega)
    have c : ((s[k].toNat : Int) == 46) = false := by rw [beq_eq_false_iff_ne]; omega
    have d : ((s[k].toNat : Int) == 95) = false := by rw [beq_eq_false_iff_ne]; omega
    have f : ((s[k].toNat : Int) == 45) = false := by rw [beq_eq_false_iff_ne]; omega
    have a : decide ((s[k].toNat : Int) <= 122) = true := decide_eq_true (by omega);have g : decide ((s[k].toNat : Int) <= 90) = false := decide_eq_false (by omega);have j : decide ((s[k].toNat : Int) <= 57) = false := decide_eq_false (by omega);go_wp2;go_ret;exact ⟨by rw [HF.out HV.out]; rfl, rfl⟩
   ·have HV : Hid (isKc s[k] = true) := hid (by rw [b.out]; unfold kcN; simp; omega)
    have c : ((s[k].toNat : Int) == 46) = false := by rw [beq_eq_false_iff_ne]; omega
    have d : ((s[k].toNat : Int) == 95) = true := by rw [beq_iff_eq]; omega
    have f : ((s[k].toNat : Int) == 45) = false := by rw [beq_eq_false_iff_ne]; omega
    have a : decide ((s[k].toNat : Int) <= 122) = true := decide_eq_true (by omega);have g : decide ((s[k].toNat : Int) <= 90) = false := decide_eq_false (by omega);have j : decide ((s[k].toNat : Int) <= 57) = false := decide_eq_false (by omega);go_wp2
    go_round
    case rel => exact ⟨k + 1, by omega, by go_num, hid (by rw [HN.out, HV.out])⟩
    case measure => simp [intOf]; omega
   ·have HV : Hid (isKc s[k] = false) := hid (by rw [b.out]; unfold kcN; simp; omega)
    have c : ((s[k].toNat : Int) == 46) = false := by rw [beq_eq_false_iff_ne]; omega
    have d : ((s[k].toNat : Int) == 95) = false := by rw [beq_eq_false_iff_ne]; omega
    have f : ((s[k].toNat : Int) == 45) = false := by rw [beq_eq_false_iff_ne]; omega
    have a : decide ((s[k].toNat : Int) <= 122) = true := decide_eq_true (by omega);have g : decide ((s[k].toNat : Int) <= 90) = false := decide_eq_false (by omega);have j : decide ((s[k].toNat : Int) <= 57) = false := decide_eq_false (by omega);go_wp2;go_ret;exact ⟨by rw [HF.out HV.out]; rfl, rfl⟩
   ·have HV : Hid (isKc s[k] = true) := hid (by rw [b.out]; unfold kcN; simp; omega)
    have c : ((s[k].toNat : Int) == 46) = false := by rw [beq_eq_false_iff_ne]; omega
    have d : ((s[k].toNat : Int) == 95) = false := by rw [beq_eq_false_iff_ne]; omega
    have f : ((s[k].toNat : Int) == 45) = false := by rw [beq_eq_false_iff_ne]; omega
    have a : decide ((s[k].toNat : Int) <= 122) = true := decide_eq_true (by omega);have g : decide ((s[k].toNat : Int) <= 90) = false := decide_eq_false (by omega);have j : decide ((s[k].toNat : Int) <= 57) = false := decide_eq_false (by omega);go_wp2
    go_round
    case rel => exact ⟨k + 1, by omega, by go_num, hid (by rw [HN.out, HV.out])⟩
    case measure => simp [intOf]; omega
   ·have HV : Hid (isKc s[k] = false) := hid (by rw [b.out]; unfold kcN; simp; omega)
    have c : ((s[k].toNat : Int) == 46) = false := by rw [beq_eq_false_iff_ne]; omega
    have d : ((s[k].toNat : Int) == 95) = false := by rw [beq_eq_false_iff_ne]; omega
    have f : ((s[k].toNat : Int) == 45) = false := by rw [beq_eq_false_iff_ne]; omega
    have a : decide ((s[k].toNat : Int) <= 122) = false := decide_eq_false (by omega);have g : decide ((s[k].toNat : Int) <= 90) = false := decide_eq_false (by omega);have j : decide ((s[k].toNat : Int) <= 57) = false := decide_eq_false (by omega);go_wp2;go_ret;exact ⟨by rw [HF.out HV.out]; rfl, rfl⟩
  ·have HK : Hid (s.data.toList.all isKc = true) := hid (by
    have := HA.out; rwa [List.take_of_length_le (by rw [z08]; omega)] at this)
   have HQ : Hid (keyB s.data.toList = (decide (1 <= s.size) && decide (s.size <= 32))) := hid (by rw [z43, HK.out, Bool.and_true])
   by_cases h1 : 1 <= s.size
   ·have l : (1 : Int) <= s.size := by omega
    by_cases h2 : s.size <= 32
    ·have m : (s.size : Int) <= 32 := by omega
     go_wp2;go_ret;exact ⟨by rw [HQ.out, decide_eq_true h1, decide_eq_true h2]; rfl, rfl⟩
    ·have m : ¬ (s.size : Int) <= 32 := by omega
     have n : decide ((s.size : Int) <= 32) = false := decide_eq_false m;go_wp2;go_ret;exact ⟨by rw [HQ.out, decide_eq_true h1, decide_eq_false h2]; rfl, rfl⟩
   ·have l : ¬ (1 : Int) <= s.size := by omega
    have n : decide ((1 : Int) <= s.size) = false := decide_eq_false l;go_wp2;go_ret;exact ⟨by rw [HQ.out, decide_eq_false h1]; rfl, rfl⟩
end Go.Proofs.YtdkkkeoicekdgaaGreatDoor.Ca
