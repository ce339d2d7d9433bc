/- Package format: Locale, Language, Chain. -/
import Derived.Test.YtdnedbcmgkilaaaGreatDoorZBg32

namespace Go.Proofs.YtdnedbcmgkilaaaGreatDoor.Lc
open Go.RowKit Go.Lib
set_option maxHeartbeats 1600000 in
theorem foreign_any (n : Nat) (w : World) : Calls Tryz.prog 94 #[.int .i32 n] w fun e w' => e = .returned (.bool (!sgnN n)) ∧ w' = w := by
  rcases (show n < 48 ∨ (48 ≤ n ∧ n ≤ 57) ∨ (57 < n ∧ n < 65) ∨ (65 ≤ n ∧ n ≤ 90) ∨ (90 < n ∧ n < 97) ∨ (97 ≤ n ∧ n ≤ 122) ∨ 122 < n by omega) with h | h | h | h | h | h | h
  · have e : sgnN n = false := by unfold sgnN; simp; omega
    rw [e]; clear e
    go_enter Tryz.func94, Tryz.ntmps94
    go_wp2
    go_ret
    exact ⟨ret_bool (by first | rfl | (simp; done) | (simp; omega)), rfl⟩
  · have e : sgnN n = true := by unfold sgnN; simp; omega
    rw [e]; clear e
    go_enter Tryz.func94, Tryz.ntmps94
    go_wp2
    go_ret
    exact ⟨ret_bool (by first | rfl | (simp; done) | (simp; omega)), rfl⟩
  · have e : sgnN n = false := by unfold sgnN; simp; omega
    rw [e]; clear e
    go_enter Tryz.func94, Tryz.ntmps94
    go_wp2
    go_ret
    exact ⟨ret_bool (by first | rfl | (simp; done) | (simp; omega)), rfl⟩
  · have e : sgnN n = true := by unfold sgnN; simp; omega
    rw [e]; clear e
    go_enter Tryz.func94, Tryz.ntmps94
    go_wp2
    go_ret
    exact ⟨ret_bool (by first | rfl | (simp; done) | (simp; omega)), rfl⟩
  · have e : sgnN n = false := by unfold sgnN; simp; omega
    rw [e]; clear e
    go_enter Tryz.func94, Tryz.ntmps94
    go_wp2
    go_ret
    exact ⟨ret_bool (by first | rfl | (simp; done) | (simp; omega)), rfl⟩
  · have e : sgnN n = true := by unfold sgnN; simp; omega
    rw [e]; clear e
    go_enter Tryz.func94, Tryz.ntmps94
    go_wp2
    go_ret
    exact ⟨ret_bool (by first | rfl | (simp; done) | (simp; omega)), rfl⟩
  · have e : sgnN n = false := by unfold sgnN; simp; omega
    rw [e]; clear e
    go_enter Tryz.func94, Tryz.ntmps94
    go_wp2
    go_ret
    exact ⟨ret_bool (by first | rfl | (simp; done) | (simp; omega)), rfl⟩
theorem part_any (s : ByteArray) (w : World) : Calls Tryz.prog 93 #[.string s, .func (.func 94) #[] #[]] w fun e w' => e = .returned (.bool (!(s.data.toList.all sgn))) ∧ Below w.heap.size w w' := by
  have h := Tryz.strings_ContainsFunc 94 #[] (enters_of Tryz.func94 (by kernel_rfl) rfl) (fun n => !sgnN n) s w (fun W x _ => (foreign_any x W).mono fun e w' h => ⟨h.1, 0, h.2⟩)
  rw [contains_sgn] at h
  exact h
theorem xs_len (s : ByteArray) : (splitB ⟨#[45]⟩ 0 (countB s ⟨#[45]⟩) s).length = countB s ⟨#[45]⟩ + 1 := splitB_all ⟨#[45]⟩ (by decide) 0 _ s rfl
theorem count_le (s : ByteArray) : countB s ⟨#[45]⟩ ≤ s.size := countB_le ⟨#[45]⟩ (by decide) s.size s (Nat.le_refl _)
def onB (p : ByteArray) : Bool := onePart p.data.toList
theorem loc_big (s : ByteArray) (h : ¬ s.size ≤ 32) : locB s.data.toList = false := by
  unfold locB; rw [decide_eq_false (by rw [ba_len]; exact h)]; rfl
theorem loc_small (s : ByteArray) (h : s.size ≤ 32) : locB s.data.toList = (splitB ⟨#[45]⟩ 0 (countB s ⟨#[45]⟩) s).all onB := by
  unfold locB; rw [decide_eq_true (by rw [ba_len]; exact h), Bool.true_and, ← splitB_parts]; rfl
theorem all_at {xs : List ByteArray} {k : Nat} (h : k < xs.length) : (xs.drop k).all onB = (onB xs[k] && (xs.drop (k + 1)).all onB) := by
  rw [List.drop_eq_getElem_cons h, List.all_cons]
theorem onB_nil : onB ⟨#[]⟩ = false := rfl
theorem onB_ne {x : ByteArray} (h : x.toList.isEmpty = false) : onB x = x.data.toList.all sgn := by
  rw [ByteArray.toList_eq] at h
  unfold onB onePart; rw [h]; rfl
set_option maxHeartbeats 3200000 in
theorem locale_any (s : ByteArray) (m : Int) (w : World) (hm : MaxW m w) : Calls Tryz.prog 55 #[.string s] w fun e w' => e = .returned (.bool (locB s.data.toList)) ∧ Below w.heap.size w w' := by
  by_cases hl : s.size ≤ 32
  · have HS := Lib.hid (Tryz.strings_Split s ⟨#[45]⟩ m w (by omega) hm (by decide))
    have HL := Lib.hid (loc_small s hl)
    have hx := xs_len s
    have hc := count_le s
    generalize splitB ⟨#[45]⟩ 0 (countB s ⟨#[45]⟩) s = xs at *
    rw [← hx] at HS
    have hn : xs.length ≤ 33 := by omega
    have HR := Lib.hid (reads_new w xs 9)
    have HB1 := Lib.hid (below1 w (.cells (strs xs).toArray 9))
    have HZ := Lib.hid HB1.out.size
    clear hx hc hm
    go_enter Tryz.func55, Tryz.ntmps55
    go_wp2_with fail
    refine HS.out.mono ?_
    rintro e w1 ⟨rfl, rfl⟩
    generalize w.alloc (.cells (strs xs).toArray 9) = w1 at *
    clear HS
    go_wp2
    go_loopw [11] (fun i wr => ∃ k : Nat, k ≤ xs.length ∧ i = .int .i64 k ∧ Hid (Below w1.heap.size w1 wr) ∧ Hid (locB s.data.toList = (xs.drop k).all onB)) (fun i _ => xs.length - (intOf i).toNat)
    case atStart => exact ⟨0, Nat.zero_le _, rfl, Lib.hid (Below.refl _ _), HL⟩
    case round =>
      obtain ⟨k, hk, rfl, HB, HQ⟩ := hrel
      by_cases hlt : k < xs.length
      · have hne : xs ≠ [] := by intro h; subst h; simp at hlt
        obtain ⟨g1, hg1, -, hc1⟩ := (HR.out.below HB.out).2 hne
        have hg2 : g1 = w.heap.size := by injection hg1 with hg1; injection hg1 with hg1; exact hg1.symm
        subst hg2
        have h1 := hc1 k hlt
        have HA := Lib.hid (HQ.out.trans (all_at hlt))
        generalize xs[k] = x at *
        clear hc1 hne HQ hg1
        by_cases hx : x = ⟨#[]⟩
        · subst hx
          have HF : Hid (locB s.data.toList = false) := Lib.hid (by rw [HA.out, onB_nil]; rfl)
          go_wp2
          go_ret
          exact ⟨ret_bool HF.out.symm, HB1.out.trans (HB.out.mono HZ.out)⟩
        · have hxe : x.toList.isEmpty = false := by
            rw [ByteArray.toList_eq]
            cases hl : x.data.toList with
            | nil => exact absurd (ba_ext (b := ⟨#[]⟩) (by rw [hl])) hx
            | cons => rfl
          have HP := Lib.hid (part_any x wr)
          have HO := Lib.hid (onB_ne hxe)
          clear hx
          cases ha : x.data.toList.all sgn with
          | false =>
            rw [ha] at HP HO
            have HF : Hid (locB s.data.toList = false) := Lib.hid (by rw [HA.out, HO.out]; rfl)
            clear ha
            go_wp2_with fail
            refine HP.out.mono ?_
            rintro e w2 ⟨rfl, hb⟩
            have HB2 := Lib.hid (below_trans HB.out hb)
            clear hb
            go_wp2
            go_ret
            exact ⟨ret_bool HF.out.symm, HB1.out.trans (HB2.out.mono HZ.out)⟩
          | true =>
            rw [ha] at HP HO
            have HF : Hid (locB s.data.toList = (xs.drop (k + 1)).all onB) := Lib.hid (by rw [HA.out, HO.out]; rfl)
            clear ha
            go_wp2_with fail
            refine HP.out.mono ?_
            rintro e w2 ⟨rfl, hb⟩
            have HB2 := Lib.hid (below_trans HB.out hb)
            clear hb
            go_wp2
            go_roundw
            case rel => exact ⟨k + 1, by omega, by go_num, HB2, HF⟩
            case measure => simp [intOf]; omega
      · have HF : Hid (locB s.data.toList = true) := Lib.hid (by rw [HQ.out, List.drop_eq_nil_of_le (by omega)]; rfl)
        go_wp2
        go_ret
        exact ⟨ret_bool HF.out.symm, HB1.out.trans (HB.out.mono HZ.out)⟩
  · have HF := Lib.hid (loc_big s hl)
    clear hm
    go_enter Tryz.func55, Tryz.ntmps55
    go_wp2
    go_ret
    exact ⟨ret_bool HF.out.symm, Below.refl _ _⟩
end Go.Proofs.YtdnedbcmgkilaaaGreatDoor.Lc
