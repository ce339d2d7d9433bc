/- Package format: Locale, Language, Chain. -/
import Derived.Test.YtdnedbcmgkilaaaGreatDoorZSg7

namespace Go.Proofs.YtdnedbcmgkilaaaGreatDoor.Lc
set_option maxHeartbeats 3200000
open Go.Lib (hid)
open Go.RowKit Go.Lib
theorem z4u (n : Nat) (w : World) : Calls Tryz.prog 94 #[.int .i32 n] w fun e w' => e = .returned (.bool (!sgnN n)) /\ w' = w := by
 rcases (show n < 48 ∨ (48 <= n /\ n <= 57) ∨ (57 < n /\ n < 65) ∨ (65 <= n /\ n <= 90) ∨ (90 < n /\ n < 97) ∨ (97 <= n /\ n <= 122) ∨ 122 < n by omega) with h | h | h | h | h | h | h
 ·have e : sgnN n = false := by unfold sgnN; simp; omega
  rw [e]; clear e
  go_enter Tryz.func94, Tryz.ntmps94
  go_wp2
  go_ret
  exact ⟨z01 (by first | rfl | (simp; done) | (simp; omega)), rfl⟩
 ·have e : sgnN n = true := by unfold sgnN; simp; omega
  rw [e]; clear e
  go_enter Tryz.func94, Tryz.ntmps94
  go_wp2
  go_ret
  exact ⟨z01 (by first | rfl | (simp; done) | (simp; omega)), rfl⟩
 ·have e : sgnN n = false := by unfold sgnN; simp; omega
  rw [e]; clear e
  go_enter Tryz.func94, Tryz.ntmps94
  go_wp2
  go_ret
  exact ⟨z01 (by first | rfl | (simp; done) | (simp; omega)), rfl⟩
 ·have e : sgnN n = true := by unfold sgnN; simp; omega
  rw [e]; clear e
  go_enter Tryz.func94, Tryz.ntmps94
  go_wp2
  go_ret
  exact ⟨z01 (by first | rfl | (simp; done) | (simp; omega)), rfl⟩
 ·have e : sgnN n = false := by unfold sgnN; simp; omega
  rw [e]; clear e
  go_enter Tryz.func94, Tryz.ntmps94
  go_wp2
  go_ret
  exact ⟨z01 (by first | rfl | (simp; done) | (simp; omega)), rfl⟩
 ·have e : sgnN n = true := by unfold sgnN; simp; omega
  rw [e]; clear e
  go_enter Tryz.func94, Tryz.ntmps94
  go_wp2
  go_ret
  exact ⟨z01 (by first | rfl | (simp; done) | (simp; omega)), rfl⟩
 ·have e : sgnN n = false := by unfold sgnN; simp; omega
  rw [e]; clear e
  go_enter Tryz.func94, Tryz.ntmps94
  go_wp2
  go_ret
  exact ⟨z01 (by first | rfl | (simp; done) | (simp; omega)), rfl⟩
theorem z5d (s : ByteArray) (w : World) : Calls Tryz.prog 93 #[.string s, .func (.func 94) #[] #[]] w fun e w' => e = .returned (.bool (!(s.data.toList.all sgn))) /\ Below w.heap.size w w' := by
 have h := Tryz.strings_ContainsFunc 94 #[] (enters_of Tryz.func94 (by kernel_rfl) rfl) (fun n => !sgnN n) s w (fun W x _ => (z4u x W).mono fun e w' h => ⟨h.1, 0, h.2⟩)
 rw [zbu] at h
 exact h
theorem xs_len (s : ByteArray) : (splitB ⟨#[45]⟩ 0 (countB s ⟨#[45]⟩) s).length = countB s ⟨#[45]⟩ + 1 := splitB_all ⟨#[45]⟩ (by decide) 0 _ s rfl
theorem count_le (s : ByteArray) : countB s ⟨#[45]⟩ <= s.size := countB_le ⟨#[45]⟩ (by decide) s.size s (Nat.le_refl _)
def onB (p : ByteArray) : Bool := z3l p.data.toList
theorem zhz (s : ByteArray) (h : ¬ s.size <= 32) : locB s.data.toList = false := by
 unfold locB; rw [decide_eq_false (by rw [z1k]; exact h)]; rfl
theorem zhy (s : ByteArray) (h : s.size <= 32) : locB s.data.toList = (splitB ⟨#[45]⟩ 0 (countB s ⟨#[45]⟩) s).all onB := by
 unfold locB; rw [decide_eq_true (by rw [z1k]; exact h), Bool.true_and, <- zah]; rfl
theorem zb9 {s : ByteArray} (h : locB s.data.toList = true) : s.size <= 32 := by
 by_cases hs : s.size <= 32
 ·exact hs
 ·rw [zhz s hs] at h; cases h
theorem all_at {xs : List ByteArray} {k : Nat} (h : k < xs.length) : (xs.drop k).all onB = (onB xs[k] && (xs.drop (k + 1)).all onB) := by
 rw [List.drop_eq_getElem_cons h, List.all_cons]
theorem onB_nil : onB ⟨#[]⟩ = false := rfl
theorem onB_ne {x : ByteArray} (h : x.toList.isEmpty = false) : onB x = x.data.toList.all sgn := by
 rw [ByteArray.toList_eq] at h
 unfold onB z3l; rw [h]; rfl
theorem z5t (s : ByteArray) (m : Int) (w : World) (hm : MaxW m w) : Calls Tryz.prog 55 #[.string s] w fun e w' => e = .returned (.bool (locB s.data.toList)) /\ Below w.heap.size w w' := by
 by_cases hl : s.size <= 32
 ·have HS := hid (Tryz.strings_Split s ⟨#[45]⟩ m w (by omega) hm (by decide))
  have HL := hid (zhy s hl)
  have hx := xs_len s
  have hc := count_le s
  generalize splitB ⟨#[45]⟩ 0 (countB s ⟨#[45]⟩) s = xs at *
  rw [<- hx] at HS
  have hn : xs.length <= 33 := by omega
  have HR := hid (zh0 w xs 9)
  have HB1 := hid (z02 w (.cells (strs xs).toArray 9))
  have HZ := hid HB1.out.size
  clear hx hc hm
  go_enter Tryz.func55, Tryz.ntmps55
  go_wp2_with fail
  refine HS.out.mono ?_
  rintro e w1 ⟨rfl, rfl⟩
  generalize w.alloc (.cells (strs xs).toArray 9) = w1 at *
  clear HS
  go_wp2
  go_loopw [11] (fun i wr => ∃ k : Nat, k <= xs.length /\ i = .int .i64 k /\ Hid (Below w1.heap.size w1 wr) /\ Hid (locB s.data.toList = (xs.drop k).all onB)) (fun i _ => xs.length - (intOf i).toNat)
  case atStart => exact ⟨0, Nat.zero_le _, rfl, hid (Below.refl _ _), HL⟩
  case round =>
   obtain ⟨k, hk, rfl, HB, HQ⟩ := hrel
   by_cases hlt : k < xs.length
   ·have hne : xs ≠ [] := by intro h; subst h; simp at hlt
    obtain ⟨g1, hg1, -, hc1⟩ := (HR.out.below HB.out).2 hne
    have hg2 : g1 = w.heap.size := by injection hg1 with hg1; injection hg1 with hg1; exact hg1.symm
    subst hg2
    have h1 := hc1 k hlt
    have HA := hid (HQ.out.trans (all_at hlt))
    generalize xs[k] = x at *
    clear hc1 hne HQ hg1
    by_cases hx : x = ⟨#[]⟩
    ·subst hx
     have HF : Hid (locB s.data.toList = false) := hid (by rw [HA.out, onB_nil]; rfl)
     go_wp2
     go_ret
     exact ⟨z01 HF.out.symm, HB1.out.trans (HB.out.mono HZ.out)⟩
    ·have hxe : x.toList.isEmpty = false := by
      rw [ByteArray.toList_eq]
      cases hl : x.data.toList with
      | nil => exact absurd (z3a (b := ⟨#[]⟩) (by rw [hl])) hx
      | cons => rfl
     have HP := hid (z5d x wr)
     have HO := hid (onB_ne hxe)
     clear hx
     cases ha : x.data.toList.all sgn with
     | false =>
      rw [ha] at HP HO
      have HF : Hid (locB s.data.toList = false) := hid (by rw [HA.out, HO.out]; rfl)
      clear ha
      go_wp2_with fail
      refine HP.out.mono ?_
      rintro e w2 ⟨rfl, hb⟩
      have HB2 := hid (z00 HB.out hb)
      clear hb
      go_wp2
      go_ret
      exact ⟨z01 HF.out.symm, HB1.out.trans (HB2.out.mono HZ.out)⟩
     | true =>
      rw [ha] at HP HO
      have HF : Hid (locB s.data.toList = (xs.drop (k + 1)).all onB) := hid (by rw [HA.out, HO.out]; rfl)
      clear ha
      go_wp2_with fail
      refine HP.out.mono ?_
      rintro e w2 ⟨rfl, hb⟩
      have HB2 := hid (z00 HB.out hb)
      clear hb
      go_wp2
      go_roundw
      case rel => exact ⟨k + 1, by omega, by go_num, HB2, HF⟩
      case measure => simp [intOf]; omega
   ·have HF : Hid (locB s.data.toList = true) := hid (by rw [HQ.out, List.drop_eq_nil_of_le (by omega)]; rfl)
    go_wp2
    go_ret
    exact ⟨z01 HF.out.symm, HB1.out.trans (HB.out.mono HZ.out)⟩
 ·have HF := hid (zhz s hl)
  clear hm
  go_enter Tryz.func55, Tryz.ntmps55
  go_wp2
  go_ret
  exact ⟨z01 HF.out.symm, Below.refl _ _⟩
end Go.Proofs.YtdnedbcmgkilaaaGreatDoor.Lc
