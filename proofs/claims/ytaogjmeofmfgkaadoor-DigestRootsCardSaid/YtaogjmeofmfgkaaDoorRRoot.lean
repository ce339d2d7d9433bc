/- The document's root. -/
import Derived.Test.YtaogjmeofmfgkaaDoorRMul
import Derived.Laws.ShiftsVarLaws
namespace Go.Proofs.YtaogjmeofmfgkaaDoor
open Go.RowKit

theorem cube (n : Nat) : n ^ 3 = n * n * n := by rw [Nat.pow_succ, Nat.pow_two]

set_option maxHeartbeats 2000000 in
set_option maxRecDepth 100000 in
theorem root2_any (p : Nat) (w : World) (hp : 2 ≤ p) (hp2 : p ≤ 1000) : Calls Tryd.prog 19 #[.int .i64 (p : Nat), .int .i64 2] w fun e w' => e = .returned (.int .u32 ((rootN p 2 37 % 4294967296 : Nat) : Int)) ∧ Below w.heap.size w w' := by
  go_enter Tryd.func19, Tryd.ntmps19
  go_wp2_with fail
  refine (digits_any p _ (by omega) (by omega)).mono ?_
  rintro e w1 ⟨vd, ld, rfl, hd, hvd, hl0, hl4, hb1⟩
  go_wp2_with fail
  refine (shifted_any (2 * 2) vd ld _ (by omega) hl0 (by omega) hd).mono ?_
  rintro e w2 ⟨vw, rfl, hw, hb2⟩
  have HWL : Hid ((List.replicate (2 * 2) 0 ++ ld).length ≤ 20) := Lib.hid (by simp; omega)
  have HWV : Hid (valD (List.replicate (2 * 2) 0 ++ ld) = p * 65536 ^ (2 * 2)) := Lib.hid (by rw [valD_zeros, hvd, Nat.mul_comm])
  have HW := Lib.hid hw
  have HB2 : Hid (Below w.heap.size w w2) := Lib.hid (below_trans hb1 hb2)
  clear hd hvd hl0 hl4 hb1 hb2 hw
  generalize (List.replicate (2 * 2) 0 ++ ld : List Nat) = lw at *
  clear w1
  obtain ⟨gw, cw, hvw, -⟩ := HW.out.ex
  subst hvw
  go_wp2
  go_loopw [6, 7] (fun x b wr => ∃ i1 : Nat, i1 ≤ 37 ∧ b = .int .i64 ((i1 : Int) - 1) ∧ x = .int .i64 ((rootN p 2 (37 - i1) : Nat) : Int) ∧ Hid (Below w2.heap.size w2 wr)) (fun _ b _ => (intOf b + 1).toNat)
  case atStart => exact ⟨37, by omega, rfl, rfl, Lib.hid (Below.refl _ _)⟩
  case round =>
    obtain ⟨i1, hi1, rfl, rfl, HB⟩ := hrel
    rcases Nat.eq_zero_or_pos i1 with rfl | hpos
    · have hlt := rootN_lt p 2 37 (Nat.le_refl _)
      rw [show (((0 : Nat) : Int) - 1) = (-1 : Int) from rfl, show 37 - 0 = 37 from rfl]
      have hm : ((rootN p 2 37 % 4294967296 : Nat) : Int) = ((rootN p 2 37 : Nat) : Int) % 4294967296 := by omega
      have HM := Lib.hid hm
      clear hm
      have hx : rootN p 2 37 ≤ 137438953472 := by omega
      clear hlt
      generalize hR : rootN p 2 37 = R at *
      go_wp2
      go_ret
      refine ⟨ret_int ?_, below_trans HB2.out HB.out⟩
      rw [hR, HM.out]
      try omega
    · obtain ⟨i, rfl⟩ : ∃ i, i1 = i + 1 := ⟨i1 - 1, by omega⟩
      rw [show (((i + 1 : Nat) : Int) - 1) = (i : Int) by omega]
      have hRS : rootN p 2 (37 - i) = if p * 65536 ^ (2 * 2) < (rootN p 2 (37 - (i + 1)) + 2 ^ i) ^ 2 then rootN p 2 (37 - (i + 1)) else rootN p 2 (37 - (i + 1)) + 2 ^ i := by
        rw [show 37 - i = (37 - (i + 1)) + 1 by omega, rootN, show 36 - (37 - (i + 1)) = i by omega]
      have hlt := rootN_lt p 2 (37 - (i + 1)) (by omega)
      rw [show 37 - (37 - (i + 1)) = i + 1 by omega, Nat.pow_succ] at hlt
      have HRS := Lib.hid hRS
      clear hRS
      generalize rootN p 2 (37 - (i + 1)) = X at *
      obtain ⟨Q, hQ⟩ : ∃ Q, Q = 2 ^ i := ⟨_, rfl⟩
      rw [← hQ] at HRS hlt
      have hQi : (2 : Int) ^ i = (Q : Int) := by rw [hQ]; simp
      have hQ1 : 1 ≤ Q := by rw [hQ]; exact Nat.one_le_two_pow
      have hlt2 : X + Q ≤ 137438953472 := by omega
      have HQ := Lib.hid hQ
      clear hlt hQ
      have HDig : Hid (∀ W, Calls Tryd.prog 29 #[.int .i64 ((X : Int) + (Q : Int))] W fun e w' => ∃ v l, e = .returned v ∧ DR w' v l ∧ valD l = X + Q ∧ 0 < l.length ∧ l.length ≤ 4 ∧ Below W.heap.size W w') := Lib.hid (fun W => by
        have := digits_any (X + Q) W (by omega) (by omega)
        rwa [Int.natCast_add] at this)
      go_wp2_with fail
      refine (HDig.out _).mono ?_
      rintro e w3 ⟨vd, ld, rfl, hd3, hvd, hl0, hl4, hb3⟩
      have HB3 : Hid (Below w2.heap.size w2 w3) := Lib.hid (below_trans HB.out hb3)
      clear hb3 HDig
      go_wp2_with fail
      refine (product_any _ _ ld ld _ (by omega) (by omega) hd3 hd3).mono ?_
      rintro e w4 ⟨vq, lq, rfl, hq, hvq, hlq, hb4⟩
      have HB4 : Hid (Below w2.heap.size w2 w4) := Lib.hid (below_trans HB3.out hb4)
      have hd4 := hd3.below hb4
      clear hb4 hd3 HB3
      have hWW := HW.out.below HB4.out
      have hll := HWL.out
      have HAB : Hid (decide (valD lw < valD lq) = decide (p * 65536 ^ (2 * 2) < (X + Q) ^ 2)) := Lib.hid (by rw [HWV.out, hvq, hvd, Nat.pow_two])
      go_wp2_with fail
      refine (above_any _ _ lq lw _ (by omega) (by omega) hq hWW).mono ?_
      rintro e w6 ⟨rfl, rfl⟩
      rw [HAB.out]
      by_cases hc : p * 65536 ^ (2 * 2) < (X + Q) ^ 2
      · have HE : Hid (((rootN p 2 (37 - i) : Nat) : Int) = (X : Int)) := Lib.hid (by rw [HRS.out, if_pos hc])
        rw [decide_eq_true hc]
        clear hc HRS HAB
        go_wp2
        refine ⟨⟨i, by omega, rfl, by rw [HE.out], HB4⟩, ?_⟩
        simp [intOf]
      · have HE : Hid (((rootN p 2 (37 - i) : Nat) : Int) = (X : Int) + (Q : Int)) := Lib.hid (by rw [HRS.out, if_neg hc, Int.natCast_add])
        rw [decide_eq_false hc]
        clear hc HRS HAB
        go_wp2
        refine ⟨⟨i, by omega, rfl, by rw [HE.out], HB4⟩, ?_⟩
        simp [intOf]

set_option maxHeartbeats 2000000 in
set_option maxRecDepth 100000 in
theorem root3_any (p : Nat) (w : World) (hp : 2 ≤ p) (hp2 : p ≤ 1000) : Calls Tryd.prog 19 #[.int .i64 (p : Nat), .int .i64 3] w fun e w' => e = .returned (.int .u32 ((rootN p 3 37 % 4294967296 : Nat) : Int)) ∧ Below w.heap.size w w' := by
  go_enter Tryd.func19, Tryd.ntmps19
  go_wp2_with fail
  refine (digits_any p _ (by omega) (by omega)).mono ?_
  rintro e w1 ⟨vd, ld, rfl, hd, hvd, hl0, hl4, hb1⟩
  go_wp2_with fail
  refine (shifted_any (2 * 3) vd ld _ (by omega) hl0 (by omega) hd).mono ?_
  rintro e w2 ⟨vw, rfl, hw, hb2⟩
  have HWL : Hid ((List.replicate (2 * 3) 0 ++ ld).length ≤ 20) := Lib.hid (by simp; omega)
  have HWV : Hid (valD (List.replicate (2 * 3) 0 ++ ld) = p * 65536 ^ (2 * 3)) := Lib.hid (by rw [valD_zeros, hvd, Nat.mul_comm])
  have HW := Lib.hid hw
  have HB2 : Hid (Below w.heap.size w w2) := Lib.hid (below_trans hb1 hb2)
  clear hd hvd hl0 hl4 hb1 hb2 hw
  generalize (List.replicate (2 * 3) 0 ++ ld : List Nat) = lw at *
  clear w1
  obtain ⟨gw, cw, hvw, -⟩ := HW.out.ex
  subst hvw
  go_wp2
  go_loopw [6, 7] (fun x b wr => ∃ i1 : Nat, i1 ≤ 37 ∧ b = .int .i64 ((i1 : Int) - 1) ∧ x = .int .i64 ((rootN p 3 (37 - i1) : Nat) : Int) ∧ Hid (Below w2.heap.size w2 wr)) (fun _ b _ => (intOf b + 1).toNat)
  case atStart => exact ⟨37, by omega, rfl, rfl, Lib.hid (Below.refl _ _)⟩
  case round =>
    obtain ⟨i1, hi1, rfl, rfl, HB⟩ := hrel
    rcases Nat.eq_zero_or_pos i1 with rfl | hpos
    · have hlt := rootN_lt p 3 37 (Nat.le_refl _)
      rw [show (((0 : Nat) : Int) - 1) = (-1 : Int) from rfl, show 37 - 0 = 37 from rfl]
      have hm : ((rootN p 3 37 % 4294967296 : Nat) : Int) = ((rootN p 3 37 : Nat) : Int) % 4294967296 := by omega
      have HM := Lib.hid hm
      clear hm
      have hx : rootN p 3 37 ≤ 137438953472 := by omega
      clear hlt
      generalize hR : rootN p 3 37 = R at *
      go_wp2
      go_ret
      refine ⟨ret_int ?_, below_trans HB2.out HB.out⟩
      rw [hR, HM.out]
      try omega
    · obtain ⟨i, rfl⟩ : ∃ i, i1 = i + 1 := ⟨i1 - 1, by omega⟩
      rw [show (((i + 1 : Nat) : Int) - 1) = (i : Int) by omega]
      have hRS : rootN p 3 (37 - i) = if p * 65536 ^ (2 * 3) < (rootN p 3 (37 - (i + 1)) + 2 ^ i) ^ 3 then rootN p 3 (37 - (i + 1)) else rootN p 3 (37 - (i + 1)) + 2 ^ i := by
        rw [show 37 - i = (37 - (i + 1)) + 1 by omega, rootN, show 36 - (37 - (i + 1)) = i by omega]
      have hlt := rootN_lt p 3 (37 - (i + 1)) (by omega)
      rw [show 37 - (37 - (i + 1)) = i + 1 by omega, Nat.pow_succ] at hlt
      have HRS := Lib.hid hRS
      clear hRS
      generalize rootN p 3 (37 - (i + 1)) = X at *
      obtain ⟨Q, hQ⟩ : ∃ Q, Q = 2 ^ i := ⟨_, rfl⟩
      rw [← hQ] at HRS hlt
      have hQi : (2 : Int) ^ i = (Q : Int) := by rw [hQ]; simp
      have hQ1 : 1 ≤ Q := by rw [hQ]; exact Nat.one_le_two_pow
      have hlt2 : X + Q ≤ 137438953472 := by omega
      have HQ := Lib.hid hQ
      clear hlt hQ
      have HDig : Hid (∀ W, Calls Tryd.prog 29 #[.int .i64 ((X : Int) + (Q : Int))] W fun e w' => ∃ v l, e = .returned v ∧ DR w' v l ∧ valD l = X + Q ∧ 0 < l.length ∧ l.length ≤ 4 ∧ Below W.heap.size W w') := Lib.hid (fun W => by
        have := digits_any (X + Q) W (by omega) (by omega)
        rwa [Int.natCast_add] at this)
      go_wp2_with fail
      refine (HDig.out _).mono ?_
      rintro e w3 ⟨vd, ld, rfl, hd3, hvd, hl0, hl4, hb3⟩
      have HB3 : Hid (Below w2.heap.size w2 w3) := Lib.hid (below_trans HB.out hb3)
      clear hb3 HDig
      go_wp2_with fail
      refine (product_any _ _ ld ld _ (by omega) (by omega) hd3 hd3).mono ?_
      rintro e w4 ⟨vq, lq, rfl, hq, hvq, hlq, hb4⟩
      have HB4 : Hid (Below w2.heap.size w2 w4) := Lib.hid (below_trans HB3.out hb4)
      have hd4 := hd3.below hb4
      clear hb4 hd3 HB3
      go_wp2_with fail
      refine (product_any _ _ lq ld _ (by omega) (by omega) hq hd4).mono ?_
      rintro e w5 ⟨vq2, lq2, rfl, hq2, hvq2, hlq2, hb5⟩
      have HB5 : Hid (Below w2.heap.size w2 w5) := Lib.hid (below_trans HB4.out hb5)
      clear hb5 hd4 hq HB4
      have hWW := HW.out.below HB5.out
      have hll := HWL.out
      have HAB : Hid (decide (valD lw < valD lq2) = decide (p * 65536 ^ (2 * 3) < (X + Q) ^ 3)) := Lib.hid (by rw [HWV.out, hvq2, hvq, hvd, cube (X + Q)])
      go_wp2_with fail
      refine (above_any _ _ lq2 lw _ (by omega) (by omega) hq2 hWW).mono ?_
      rintro e w6 ⟨rfl, rfl⟩
      rw [HAB.out]
      by_cases hc : p * 65536 ^ (2 * 3) < (X + Q) ^ 3
      · have HE : Hid (((rootN p 3 (37 - i) : Nat) : Int) = (X : Int)) := Lib.hid (by rw [HRS.out, if_pos hc])
        rw [decide_eq_true hc]
        clear hc HRS HAB
        go_wp2
        refine ⟨⟨i, by omega, rfl, by rw [HE.out], HB5⟩, ?_⟩
        simp [intOf]
      · have HE : Hid (((rootN p 3 (37 - i) : Nat) : Int) = (X : Int) + (Q : Int)) := Lib.hid (by rw [HRS.out, if_neg hc, Int.natCast_add])
        rw [decide_eq_false hc]
        clear hc HRS HAB
        go_wp2
        refine ⟨⟨i, by omega, rfl, by rw [HE.out], HB5⟩, ?_⟩
        simp [intOf]
end Go.Proofs.YtaogjmeofmfgkaaDoor
