/- The printer: a text. -/
import Derived.Test.YtapnieogfddjkaaDoorBp
namespace Go.Proofs.YtapnieogfddjkaaDoor.Pr
open Go.RowKit Go.Proofs.YtapnieogfddjkaaDoor

theorem esc_len_take (l : List UInt8) (k : Nat) : (escF (l.take k)).length ≤ (escF l).length := by
  have := esc_app (l.take k) (l.drop k)
  rw [List.take_append_drop] at this
  rw [this, List.length_append]; omega
theorem esc_snoc {l : List UInt8} {k : Nat} {c : UInt8} (h : l[k]? = some c) : escF (l.take (k + 1)) = escF (l.take k) ++ escF [c] := by rw [take_one h, esc_app]
theorem esc_q : escF [39] = [39, 39] := by decide
theorem esc_b {c : UInt8} (h : c = 123 ∨ c = 125 ∨ c = 35) : escF [c] = [39, c, 39] := by rcases h with rfl | rfl | rfl <;> decide
theorem esc_o {c : UInt8} (h : ¬ (c = 123 ∨ c = 125 ∨ c = 35)) (hq : c ≠ 39) : escF [c] = [c] := by simp [escF, h, hq]
theorem one_ext {s : BA} {k : Nat} {c : UInt8} (h : s.data.toList[k]? = some c) : s.extract k (k + 1) = ⟨#[c]⟩ := by
  apply ByteArray.ext
  apply Array.toList_inj.1
  simp only [ByteArray.data_extract, Array.toList_extract, List.extract_eq_take_drop]
  rw [drop_one h, show k + 1 - k = 1 by omega]; rfl

set_option maxHeartbeats 3200000 in
set_option maxRecDepth 100000 in
theorem text_pr {B b : Nat} {acc : List UInt8} {w : World} (s : BA) (h : Bp B b acc w) (hl : acc.length + (escF s.data.toList).length ≤ 2000) (hsz : s.size ≤ 4000) (hBw : B ≤ w.heap.size) :
    Calls Tryd.prog 45 #[.pointer (some ⟨b, 0, none⟩), .string s] w fun e w' => e = .returned (.tuple #[]) ∧ Bp B b (acc ++ escF s.data.toList) w' ∧ Kb B b w w' := by
  have HP := Lib.hid h
  have HL := Lib.hid hl
  clear h hl
  go_enter Tryd.func45, Tryd.ntmps45
  go_wp2
  go_loopw [4] (fun i wr => ∃ (k : Nat) (out : List UInt8), k ≤ s.size ∧ i = .int .i64 k ∧ Hid (out = acc ++ escF (s.data.toList.take k)) ∧ Hid (Bp B b out wr) ∧ Hid (Kb B b w wr)) (fun i _ => s.size - (intOf i).toNat)
  case atStart => exact ⟨0, acc, Nat.zero_le _, rfl, Lib.hid (by simp [escF]), HP, Lib.hid (Kb.refl _ _ _)⟩
  case round =>
    obtain ⟨k, out, hk, rfl, HO, HB, HK⟩ := hrel
    have hBr : B ≤ wr.heap.size := by have := HK.out.1.size; omega
    have HOL : Hid (out.length ≤ 2000) := Lib.hid (by rw [HO.out, List.length_append]; have := HL.out; have := esc_len_take s.data.toList k; omega)
    have HFU := Lib.hid (full_any HB.out HOL.out)
    clear HP
    by_cases hlt : k < s.size
    · have hxk := Lib.hid (get_of s k hlt)
      have hlt2 : (k : Int) < (s.size : Int) := by omega
      obtain ⟨c, hcc⟩ : ∃ c, s[k] = c := ⟨_, rfl⟩
      rw [hcc] at hxk
      obtain ⟨k1, HK1⟩ : ∃ k1, Hid (k1 = k + 1) := ⟨_, Lib.hid rfl⟩
      have hki : ((k : Int) + 1) = (k1 : Int) := by have := HK1.out; omega
      have hkl : (k1 : Int) ≤ (s.size : Int) := by have := HK1.out; omega
      have hkm : k1 ≤ s.size := by omega
      have HX1 := Lib.hid (one_ext hxk.out)
      rw [← HK1.out] at HX1
      have HES := Lib.hid (esc_snoc hxk.out)
      rw [← HK1.out] at HES
      have HLT : Hid (out.length + (escF [c]).length ≤ 2000) := Lib.hid (by
        have h1 := esc_len_take s.data.toList k1
        rw [HES.out, List.length_append] at h1
        have := HL.out
        rw [HO.out, List.length_append]; omega)
      have hc8 := c.toNat_lt
      by_cases hq : c = 39
      · subst hq
        have HW : Hid (Calls Tryd.prog 46 #[.pointer (some ⟨b, 0, none⟩), .string ⟨#[39, 39]⟩] wr fun e w' => e = .returned (.tuple #[.int .i64 2, .nilIface]) ∧ Bp B b (out ++ [39, 39]) w' ∧ Kb B b wr w') := Lib.hid (writeS ⟨#[39, 39]⟩ HB.out (by have := HLT.out; rw [esc_q] at this; exact Nat.le_trans this (by omega)) (by decide) hBr)
        go_wp2_with fail
        refine HFU.out.mono ?_
        rintro e w2 ⟨rfl, rfl⟩
        go_wp2_with fail
        refine HW.out.mono ?_
        rintro e w4 ⟨rfl, hb4, hk4⟩
        have HB4 := Lib.hid hb4
        have HK4 := Lib.hid (HK.out.trans hk4)
        clear hb4 hk4 HW HFU HB HK
        go_wp2
        go_roundw
        case rel => exact ⟨k1, _, hkm, by go_num, Lib.hid (by rw [HES.out, esc_q, HO.out, List.append_assoc]), HB4, HK4⟩
        case measure => have := HK1.out; simp [intOf]; omega
      by_cases hb : c = 123 ∨ c = 125 ∨ c = 35
      · have HEB := Lib.hid (esc_b hb)
        clear hq
        rcases hb with rfl | rfl | rfl
        · have HKD : Hid (Kb B b w wr.drew) := Lib.hid HK.out.drew
          have HW : Hid (Calls Tryd.prog 46 #[.pointer (some ⟨b, 0, none⟩), .string ⟨#[39, 123, 39]⟩] wr.drew fun e w' => e = .returned (.tuple #[.int .i64 3, .nilIface]) ∧ Bp B b (out ++ [39, 123, 39]) w' ∧ Kb B b wr.drew w') := Lib.hid (writeS ⟨#[39, 123, 39]⟩ HB.out.drew (by have := HLT.out; rw [HEB.out] at this; exact Nat.le_trans this (by omega)) (by decide) hBr)
          go_wp2_with fail
          refine HFU.out.mono ?_
          rintro e w2 ⟨rfl, rfl⟩
          have hX1 := HX1.out
          have f1 : k ≤ k1 := by have := HK1.out; omega
          have f2 : (k : Int) ≤ (k1 : Int) := by omega
          have f3 : ¬ k1 < k := by omega
          have f4 : ¬ s.size < k1 := by omega
          have f5 : ¬ (k1 : Int) < (k : Int) := by omega
          have f6 : ¬ (s.size : Int) < (k1 : Int) := by omega
          have f7 : ¬ (k : Int) < 0 := by omega
          have f8 : ¬ (k1 : Int) < 0 := by omega
          have hwr : IntKind.i64.wrap (k1 : Int) = (k1 : Int) := IntWalk.i64_in _ (by omega)
          go_wp2
          go_still_tail 10, (by kernel_rfl)
          change wpList _ _ _ _ _ w2.drew
          generalize w2.drew = w3 at *
          clear HFU HB HK
          go_wp2_with fail
          refine HW.out.mono ?_
          rintro e w4 ⟨rfl, hb4, hk4⟩
          have HB4 := Lib.hid hb4
          have HK4 := Lib.hid (HKD.out.trans hk4)
          clear hb4 hk4 HW
          go_wp2
          go_roundw
          case rel => exact ⟨k1, _, hkm, by go_num, Lib.hid (by rw [HES.out, HEB.out, HO.out, List.append_assoc]), HB4, HK4⟩
          case measure => have := HK1.out; simp [intOf]; omega
        · have HKD : Hid (Kb B b w wr.drew) := Lib.hid HK.out.drew
          have HW : Hid (Calls Tryd.prog 46 #[.pointer (some ⟨b, 0, none⟩), .string ⟨#[39, 125, 39]⟩] wr.drew fun e w' => e = .returned (.tuple #[.int .i64 3, .nilIface]) ∧ Bp B b (out ++ [39, 125, 39]) w' ∧ Kb B b wr.drew w') := Lib.hid (writeS ⟨#[39, 125, 39]⟩ HB.out.drew (by have := HLT.out; rw [HEB.out] at this; exact Nat.le_trans this (by omega)) (by decide) hBr)
          go_wp2_with fail
          refine HFU.out.mono ?_
          rintro e w2 ⟨rfl, rfl⟩
          have hX1 := HX1.out
          have f1 : k ≤ k1 := by have := HK1.out; omega
          have f2 : (k : Int) ≤ (k1 : Int) := by omega
          have f3 : ¬ k1 < k := by omega
          have f4 : ¬ s.size < k1 := by omega
          have f5 : ¬ (k1 : Int) < (k : Int) := by omega
          have f6 : ¬ (s.size : Int) < (k1 : Int) := by omega
          have f7 : ¬ (k : Int) < 0 := by omega
          have f8 : ¬ (k1 : Int) < 0 := by omega
          have hwr : IntKind.i64.wrap (k1 : Int) = (k1 : Int) := IntWalk.i64_in _ (by omega)
          go_wp2
          go_still_tail 10, (by kernel_rfl)
          change wpList _ _ _ _ _ w2.drew
          generalize w2.drew = w3 at *
          clear HFU HB HK
          go_wp2_with fail
          refine HW.out.mono ?_
          rintro e w4 ⟨rfl, hb4, hk4⟩
          have HB4 := Lib.hid hb4
          have HK4 := Lib.hid (HKD.out.trans hk4)
          clear hb4 hk4 HW
          go_wp2
          go_roundw
          case rel => exact ⟨k1, _, hkm, by go_num, Lib.hid (by rw [HES.out, HEB.out, HO.out, List.append_assoc]), HB4, HK4⟩
          case measure => have := HK1.out; simp [intOf]; omega
        · have HKD : Hid (Kb B b w wr.drew) := Lib.hid HK.out.drew
          have HW : Hid (Calls Tryd.prog 46 #[.pointer (some ⟨b, 0, none⟩), .string ⟨#[39, 35, 39]⟩] wr.drew fun e w' => e = .returned (.tuple #[.int .i64 3, .nilIface]) ∧ Bp B b (out ++ [39, 35, 39]) w' ∧ Kb B b wr.drew w') := Lib.hid (writeS ⟨#[39, 35, 39]⟩ HB.out.drew (by have := HLT.out; rw [HEB.out] at this; exact Nat.le_trans this (by omega)) (by decide) hBr)
          go_wp2_with fail
          refine HFU.out.mono ?_
          rintro e w2 ⟨rfl, rfl⟩
          have hX1 := HX1.out
          have f1 : k ≤ k1 := by have := HK1.out; omega
          have f2 : (k : Int) ≤ (k1 : Int) := by omega
          have f3 : ¬ k1 < k := by omega
          have f4 : ¬ s.size < k1 := by omega
          have f5 : ¬ (k1 : Int) < (k : Int) := by omega
          have f6 : ¬ (s.size : Int) < (k1 : Int) := by omega
          have f7 : ¬ (k : Int) < 0 := by omega
          have f8 : ¬ (k1 : Int) < 0 := by omega
          have hwr : IntKind.i64.wrap (k1 : Int) = (k1 : Int) := IntWalk.i64_in _ (by omega)
          go_wp2
          go_still_tail 10, (by kernel_rfl)
          change wpList _ _ _ _ _ w2.drew
          generalize w2.drew = w3 at *
          clear HFU HB HK
          go_wp2_with fail
          refine HW.out.mono ?_
          rintro e w4 ⟨rfl, hb4, hk4⟩
          have HB4 := Lib.hid hb4
          have HK4 := Lib.hid (HKD.out.trans hk4)
          clear hb4 hk4 HW
          go_wp2
          go_roundw
          case rel => exact ⟨k1, _, hkm, by go_num, Lib.hid (by rw [HES.out, HEB.out, HO.out, List.append_assoc]), HB4, HK4⟩
          case measure => have := HK1.out; simp [intOf]; omega
      · have HEO := Lib.hid (esc_o hb hq)
        have b0 : ((c.toNat : Int) == (39 : Int)) = false := u8_ne hq
        have b1 : ((c.toNat : Int) == (123 : Int)) = false := u8_ne (fun e => hb (.inl e))
        have b2 : ((c.toNat : Int) == (125 : Int)) = false := u8_ne (fun e => hb (.inr (.inl e)))
        have b3 : ((c.toNat : Int) == (35 : Int)) = false := u8_ne (fun e => hb (.inr (.inr e)))
        clear hb hq
        have HKD : Hid (Kb B b w wr.drew) := Lib.hid HK.out.drew
        have HW : Hid (Calls Tryd.prog 47 #[.pointer (some ⟨b, 0, none⟩), .int .u8 c.toNat] wr.drew fun e w' => e = .returned .nilIface ∧ Bp B b (out ++ [c]) w' ∧ Kb B b wr.drew w') := Lib.hid (writeB c HB.out.drew (by have := HLT.out; rw [HEO.out] at this; exact Nat.le_trans this (by omega)) hBr)
        go_wp2_with fail
        refine HFU.out.mono ?_
        rintro e w2 ⟨rfl, rfl⟩
        go_wp2
        go_still_tail 6, (by kernel_rfl)
        change wpList _ _ _ _ _ w2.drew
        generalize w2.drew = w3 at *
        clear HFU HB HK
        go_wp2_with fail
        refine HW.out.mono ?_
        rintro e w4 ⟨rfl, hb4, hk4⟩
        have HB4 := Lib.hid hb4
        have HK4 := Lib.hid (HKD.out.trans hk4)
        clear hb4 hk4 HW
        go_wp2
        go_roundw
        case rel => exact ⟨k1, _, hkm, by go_num, Lib.hid (by rw [HES.out, HEO.out, HO.out, List.append_assoc]), HB4, HK4⟩
        case measure => have := HK1.out; simp [intOf]; omega
    · have hge : ¬ (k : Int) < (s.size : Int) := by omega
      have hkn : s.data.toList.take k = s.data.toList := List.take_of_length_le (by rw [len_list]; omega)
      have HBE : Hid (Bp B b (acc ++ escF s.data.toList) wr) := Lib.hid (by have := HB.out; rw [HO.out, hkn] at this; exact this)
      clear hkn HFU
      go_wp2
      go_end0
      exact ⟨rfl, HBE.out, HK.out⟩
end Go.Proofs.YtapnieogfddjkaaDoor.Pr
