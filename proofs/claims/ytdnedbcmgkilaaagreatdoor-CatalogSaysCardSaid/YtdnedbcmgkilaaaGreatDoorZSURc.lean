/- The document's category, by arithmetic. -/
import Derived.Test.YtdnedbcmgkilaaaGreatDoorZSg1

namespace Go.Proofs.YtdnedbcmgkilaaaGreatDoor.Pu
set_option maxHeartbeats 1600000
set_option maxRecDepth 100000
open Go.Lib (hid)
open Go.RowKit
theorem zg1 (n : Int) (w : World) (h1 : -9223372036854775808 <= n) (h2 : n <= 9223372036854775807) : Calls Tryz.prog 204 #[.int .i64 n] w fun e w' => e = .returned (.int .u64 (absF n)) /\ w = w' := by
 by_cases h : n < 0
 ·have HE := hid (zfd h)
  go_enter Tryz.func204, Tryz.ntmps204
  go_wp2
  go_ret
  exact ⟨by rw [HE.out]; exact congrArg (fun z => Ending.returned (.int .u64 z)) (by first | omega | (simp [IntKind.wrap, IntKind.bits, IntKind.signed]; omega) | (rw [IntWalk.u64_in] <;> (try rw [IntWalk.u64_in]) <;> omega)), rfl⟩
 ·have HE := hid (zfc h)
  go_enter Tryz.func204, Tryz.ntmps204
  go_wp2
  go_ret
  exact ⟨by rw [HE.out]; rfl, rfl⟩
def slavF (one : Bool) (d h : Int) : BA := if one then ⟨#[111, 110, 101]⟩ else if (2 <= d /\ d <= 4) /\ (h < 12 ∨ 14 < h) then ⟨#[102, 101, 119]⟩ else ⟨#[109, 97, 110, 121]⟩
theorem z4r (d h : Int) : slavF false d h = if (2 <= d /\ d <= 4) /\ (h < 12 ∨ 14 < h) then ⟨#[102, 101, 119]⟩ else ⟨#[109, 97, 110, 121]⟩ := rfl
theorem z7t (d h : Int) : slavF true d h = ⟨#[111, 110, 101]⟩ := rfl
theorem z3g (one : Bool) (d h : Int) (w : World) (hd : 0 <= d) (hh : 0 <= h) : Calls Tryz.prog 205 #[.bool one, .int .u64 d, .int .u64 h] w fun e w' => e = .returned (.string (slavF one d h)) /\ w = w' := by
 cases one with
 | true =>
  go_enter Tryz.func205, Tryz.ntmps205
  go_wp2
  go_ret
  exact ⟨rfl, rfl⟩
 | false =>
  by_cases h1 : 2 <= d
  ·by_cases h2 : d <= 4
   ·by_cases h3 : h < 12
    ·have HE : Hid (slavF false d h = ⟨#[102, 101, 119]⟩) := hid (by unfold slavF; rw [if_neg (by simp), if_pos (by omega)])
     go_enter Tryz.func205, Tryz.ntmps205
     go_wp2
     go_ret
     exact ⟨by rw [HE.out]; rfl, rfl⟩
    ·by_cases h4 : 14 < h
     ·have HE : Hid (slavF false d h = ⟨#[102, 101, 119]⟩) := hid (by unfold slavF; rw [if_neg (by simp), if_pos (by omega)])
      go_enter Tryz.func205, Tryz.ntmps205
      go_wp2
      go_ret
      exact ⟨by rw [HE.out]; rfl, rfl⟩
     ·have HE : Hid (slavF false d h = ⟨#[109, 97, 110, 121]⟩) := hid (by unfold slavF; rw [if_neg (by simp), if_neg (by omega)])
      go_enter Tryz.func205, Tryz.ntmps205
      go_wp2
      go_ret
      exact ⟨by rw [HE.out]; rfl, rfl⟩
   ·have HE : Hid (slavF false d h = ⟨#[109, 97, 110, 121]⟩) := hid (by unfold slavF; rw [if_neg (by simp), if_neg (by omega)])
    go_enter Tryz.func205, Tryz.ntmps205
    go_wp2
    go_ret
    exact ⟨by rw [HE.out]; rfl, rfl⟩
  ·have HE : Hid (slavF false d h = ⟨#[109, 97, 110, 121]⟩) := hid (by unfold slavF; rw [if_neg (by simp), if_neg (by omega)])
   go_enter Tryz.func205, Tryz.ntmps205
   go_wp2
   go_ret
   exact ⟨by rw [HE.out]; rfl, rfl⟩
theorem catF_en (n i : Int) (hi : absF n = i) : catF ⟨#[101, 110]⟩ n = if (((1 <= i /\ i <= 1))) then ⟨#[111, 110, 101]⟩ else ⟨#[111, 116, 104, 101, 114]⟩ := by
 unfold catF
 rw [show tabF ⟨#[101, 110]⟩ = zgf by decide]
 show (if hB (z03 t0).1 n then (⟨#[111, 110, 101]⟩ : BA) else ⟨#[111, 116, 104, 101, 114]⟩) = _
 rw [t0_h n i hi]
 simp only [decide_eq_true_eq]
theorem catF_de (n i : Int) (hi : absF n = i) : catF ⟨#[100, 101]⟩ n = if (((1 <= i /\ i <= 1))) then ⟨#[111, 110, 101]⟩ else ⟨#[111, 116, 104, 101, 114]⟩ := by
 unfold catF
 rw [show tabF ⟨#[100, 101]⟩ = zgg by decide]
 show (if hB (z03 t0).1 n then (⟨#[111, 110, 101]⟩ : BA) else ⟨#[111, 116, 104, 101, 114]⟩) = _
 rw [t0_h n i hi]
 simp only [decide_eq_true_eq]
theorem catF_fr (n i : Int) (hi : absF n = i) : catF ⟨#[102, 114]⟩ n = if (((0 <= i /\ i <= 0) ∨ (1 <= i /\ i <= 1))) then ⟨#[111, 110, 101]⟩ else ⟨#[111, 116, 104, 101, 114]⟩ := by
 unfold catF
 rw [show tabF ⟨#[102, 114]⟩ = zge by decide]
 show (if hB (z03 t1).1 n then (⟨#[111, 110, 101]⟩ : BA) else ⟨#[111, 116, 104, 101, 114]⟩) = _
 rw [t1_h n i hi]
 simp only [decide_eq_true_eq]
theorem catF_ru (n i : Int) (hi : absF n = i) : catF ⟨#[114, 117]⟩ n = if (((1 <= (i % 10) /\ (i % 10) <= 1)) /\ ¬ ((11 <= (i % 100) /\ (i % 100) <= 11))) then ⟨#[111, 110, 101]⟩ else if (((2 <= (i % 10) /\ (i % 10) <= 4)) /\ ¬ ((12 <= (i % 100) /\ (i % 100) <= 14))) then ⟨#[102, 101, 119]⟩ else if (((0 <= (i % 10) /\ (i % 10) <= 0) ∨ (5 <= (i % 10) /\ (i % 10) <= 9))) ∨ (((11 <= (i % 100) /\ (i % 100) <= 14))) then ⟨#[109, 97, 110, 121]⟩ else ⟨#[111, 116, 104, 101, 114]⟩ := by
 unfold catF
 rw [show tabF ⟨#[114, 117]⟩ = zgc by decide]
 show (if hB (z03 t2).1 n then (⟨#[111, 110, 101]⟩ : BA) else if hB (z03 t3).1 n then (⟨#[102, 101, 119]⟩ : BA) else if hB (z03 t4).1 n then (⟨#[109, 97, 110, 121]⟩ : BA) else ⟨#[111, 116, 104, 101, 114]⟩) = _
 rw [t2_h n i hi, t3_h n i hi, t4_h n i hi]
 simp only [decide_eq_true_eq]
theorem catF_pl (n i : Int) (hi : absF n = i) : catF ⟨#[112, 108]⟩ n = if (((1 <= i /\ i <= 1))) then ⟨#[111, 110, 101]⟩ else if (((2 <= (i % 10) /\ (i % 10) <= 4)) /\ ¬ ((12 <= (i % 100) /\ (i % 100) <= 14))) then ⟨#[102, 101, 119]⟩ else if (((0 <= (i % 10) /\ (i % 10) <= 0) ∨ (1 <= (i % 10) /\ (i % 10) <= 1) ∨ (5 <= (i % 10) /\ (i % 10) <= 9))) ∨ (((12 <= (i % 100) /\ (i % 100) <= 14))) then ⟨#[109, 97, 110, 121]⟩ else ⟨#[111, 116, 104, 101, 114]⟩ := by
 unfold catF
 rw [show tabF ⟨#[112, 108]⟩ = zgd by decide]
 show (if hB (z03 t0).1 n then (⟨#[111, 110, 101]⟩ : BA) else if hB (z03 t3).1 n then (⟨#[102, 101, 119]⟩ : BA) else if hB (z03 t5).1 n then (⟨#[109, 97, 110, 121]⟩ : BA) else ⟨#[111, 116, 104, 101, 114]⟩) = _
 rw [t0_h n i hi, t3_h n i hi, t5_h n i hi]
 simp only [decide_eq_true_eq]
theorem catF_cs (n i : Int) (hi : absF n = i) : catF ⟨#[99, 115]⟩ n = if (((1 <= i /\ i <= 1))) then ⟨#[111, 110, 101]⟩ else if (((2 <= i /\ i <= 4))) then ⟨#[102, 101, 119]⟩ else ⟨#[111, 116, 104, 101, 114]⟩ := by
 unfold catF
 rw [show tabF ⟨#[99, 115]⟩ = zgi by decide]
 show (if hB (z03 t0).1 n then (⟨#[111, 110, 101]⟩ : BA) else if hB (z03 t6).1 n then (⟨#[102, 101, 119]⟩ : BA) else ⟨#[111, 116, 104, 101, 114]⟩) = _
 rw [t0_h n i hi, t6_h n i hi]
 simp only [decide_eq_true_eq]
theorem catF_ar (n i : Int) (hi : absF n = i) : catF ⟨#[97, 114]⟩ n = if (((0 <= i /\ i <= 0))) then ⟨#[122, 101, 114, 111]⟩ else if (((1 <= i /\ i <= 1))) then ⟨#[111, 110, 101]⟩ else if (((2 <= i /\ i <= 2))) then ⟨#[116, 119, 111]⟩ else if (((3 <= (i % 100) /\ (i % 100) <= 10))) then ⟨#[102, 101, 119]⟩ else if (((11 <= (i % 100) /\ (i % 100) <= 99))) then ⟨#[109, 97, 110, 121]⟩ else ⟨#[111, 116, 104, 101, 114]⟩ := by
 unfold catF
 rw [show tabF ⟨#[97, 114]⟩ = zgj by decide]
 show (if hB (z03 t7).1 n then (⟨#[122, 101, 114, 111]⟩ : BA) else if hB (z03 t0).1 n then (⟨#[111, 110, 101]⟩ : BA) else if hB (z03 t8).1 n then (⟨#[116, 119, 111]⟩ : BA) else if hB (z03 t9).1 n then (⟨#[102, 101, 119]⟩ : BA) else if hB (z03 t10).1 n then (⟨#[109, 97, 110, 121]⟩ : BA) else ⟨#[111, 116, 104, 101, 114]⟩) = _
 rw [t7_h n i hi, t0_h n i hi, t8_h n i hi, t9_h n i hi, t10_h n i hi]
 simp only [decide_eq_true_eq]
theorem catF_sl (n i : Int) (hi : absF n = i) : catF ⟨#[115, 108]⟩ n = if (((1 <= (i % 100) /\ (i % 100) <= 1))) then ⟨#[111, 110, 101]⟩ else if (((2 <= (i % 100) /\ (i % 100) <= 2))) then ⟨#[116, 119, 111]⟩ else if (((3 <= (i % 100) /\ (i % 100) <= 3) ∨ (4 <= (i % 100) /\ (i % 100) <= 4))) then ⟨#[102, 101, 119]⟩ else ⟨#[111, 116, 104, 101, 114]⟩ := by
 unfold catF
 rw [show tabF ⟨#[115, 108]⟩ = zgb by decide]
 show (if hB (z03 t11).1 n then (⟨#[111, 110, 101]⟩ : BA) else if hB (z03 t12).1 n then (⟨#[116, 119, 111]⟩ : BA) else if hB (z03 t13).1 n then (⟨#[102, 101, 119]⟩ : BA) else ⟨#[111, 116, 104, 101, 114]⟩) = _
 rw [t11_h n i hi, t12_h n i hi, t13_h n i hi]
 simp only [decide_eq_true_eq]
theorem catF_cy (n i : Int) (hi : absF n = i) : catF ⟨#[99, 121]⟩ n = if (((0 <= i /\ i <= 0))) then ⟨#[122, 101, 114, 111]⟩ else if (((1 <= i /\ i <= 1))) then ⟨#[111, 110, 101]⟩ else if (((2 <= i /\ i <= 2))) then ⟨#[116, 119, 111]⟩ else if (((3 <= i /\ i <= 3))) then ⟨#[102, 101, 119]⟩ else if (((6 <= i /\ i <= 6))) then ⟨#[109, 97, 110, 121]⟩ else ⟨#[111, 116, 104, 101, 114]⟩ := by
 unfold catF
 rw [show tabF ⟨#[99, 121]⟩ = zgh by decide]
 show (if hB (z03 t7).1 n then (⟨#[122, 101, 114, 111]⟩ : BA) else if hB (z03 t0).1 n then (⟨#[111, 110, 101]⟩ : BA) else if hB (z03 t8).1 n then (⟨#[116, 119, 111]⟩ : BA) else if hB (z03 t14).1 n then (⟨#[102, 101, 119]⟩ : BA) else if hB (z03 t15).1 n then (⟨#[109, 97, 110, 121]⟩ : BA) else ⟨#[111, 116, 104, 101, 114]⟩) = _
 rw [t7_h n i hi, t0_h n i hi, t8_h n i hi, t14_h n i hi, t15_h n i hi]
 simp only [decide_eq_true_eq]
theorem rcat_en (w : World) (n i : Int) (hi0 : 0 <= i) (hA : absF n = i) (HM : Hid (∀ w, Calls Tryz.prog 204 #[.int .i64 n] w fun e w' => e = .returned (.int .u64 i) /\ w = w')) :
  Calls Tryz.prog 173 #[.string ⟨#[101, 110]⟩, .int .i64 n] w fun e w' => e = .returned (.string (catF ⟨#[101, 110]⟩ n)) /\ Below w.heap.size w w' := by
 have hE := catF_en n i hA
 clear hA
 by_cases hs1 : i = 1
 ·subst hs1
  have HV : Hid (catF ⟨#[101, 110]⟩ n = ⟨#[111, 110, 101]⟩) := hid (by
   rw [hE]
   repeat' split
   all_goals first | rfl | (exfalso; omega))
  clear hE
  go_enter Tryz.func173, Tryz.ntmps173
  go_wp2_with fail
  refine (HM.out _).mono ?_
  rintro e w1 ⟨rfl, rfl⟩
  go_wp2
  go_ret
  exact ⟨by first | (rw [HV.out]; done) | (rw [HV.out]; rfl), Below.refl _ _⟩
 ·have bs1 : (i == 1) = false := by simpa using hs1
  have HV : Hid (catF ⟨#[101, 110]⟩ n = ⟨#[111, 116, 104, 101, 114]⟩) := hid (by
   rw [hE]
   repeat' split
   all_goals first | rfl | (exfalso; omega))
  clear hE
  go_enter Tryz.func173, Tryz.ntmps173
  go_wp2_with fail
  refine (HM.out _).mono ?_
  rintro e w1 ⟨rfl, rfl⟩
  go_wp2
  go_ret
  exact ⟨by first | (rw [HV.out]; done) | (rw [HV.out]; rfl), Below.refl _ _⟩
theorem rcat_de (w : World) (n i : Int) (hi0 : 0 <= i) (hA : absF n = i) (HM : Hid (∀ w, Calls Tryz.prog 204 #[.int .i64 n] w fun e w' => e = .returned (.int .u64 i) /\ w = w')) :
  Calls Tryz.prog 173 #[.string ⟨#[100, 101]⟩, .int .i64 n] w fun e w' => e = .returned (.string (catF ⟨#[100, 101]⟩ n)) /\ Below w.heap.size w w' := by
 have hE := catF_de n i hA
 clear hA
 by_cases hs1 : i = 1
 ·subst hs1
  have HV : Hid (catF ⟨#[100, 101]⟩ n = ⟨#[111, 110, 101]⟩) := hid (by
   rw [hE]
   repeat' split
   all_goals first | rfl | (exfalso; omega))
  clear hE
  go_enter Tryz.func173, Tryz.ntmps173
  go_wp2_with fail
  refine (HM.out _).mono ?_
  rintro e w1 ⟨rfl, rfl⟩
  go_wp2
  go_ret
  exact ⟨by first | (rw [HV.out]; done) | (rw [HV.out]; rfl), Below.refl _ _⟩
 ·have bs1 : (i == 1) = false := by simpa using hs1
  have HV : Hid (catF ⟨#[100, 101]⟩ n = ⟨#[111, 116, 104, 101, 114]⟩) := hid (by
   rw [hE]
   repeat' split
   all_goals first | rfl | (exfalso; omega))
  clear hE
  go_enter Tryz.func173, Tryz.ntmps173
  go_wp2_with fail
  refine (HM.out _).mono ?_
  rintro e w1 ⟨rfl, rfl⟩
  go_wp2
  go_ret
  exact ⟨by first | (rw [HV.out]; done) | (rw [HV.out]; rfl), Below.refl _ _⟩
theorem rcat_fr (w : World) (n i : Int) (hi0 : 0 <= i) (hA : absF n = i) (HM : Hid (∀ w, Calls Tryz.prog 204 #[.int .i64 n] w fun e w' => e = .returned (.int .u64 i) /\ w = w')) :
  Calls Tryz.prog 173 #[.string ⟨#[102, 114]⟩, .int .i64 n] w fun e w' => e = .returned (.string (catF ⟨#[102, 114]⟩ n)) /\ Below w.heap.size w w' := by
 have hE := catF_fr n i hA
 clear hA
 by_cases h2 : i < 2
 ·have _t := trivial
  have HV : Hid (catF ⟨#[102, 114]⟩ n = ⟨#[111, 110, 101]⟩) := hid (by
   rw [hE]
   repeat' split
   all_goals first | rfl | (exfalso; omega))
  clear hE
  go_enter Tryz.func173, Tryz.ntmps173
  go_wp2_with fail
  refine (HM.out _).mono ?_
  rintro e w1 ⟨rfl, rfl⟩
  go_wp2
  go_ret
  exact ⟨by first | (rw [HV.out]; done) | (rw [HV.out]; rfl), Below.refl _ _⟩
 ·have _t := trivial
  have HV : Hid (catF ⟨#[102, 114]⟩ n = ⟨#[111, 116, 104, 101, 114]⟩) := hid (by
   rw [hE]
   repeat' split
   all_goals first | rfl | (exfalso; omega))
  clear hE
  go_enter Tryz.func173, Tryz.ntmps173
  go_wp2_with fail
  refine (HM.out _).mono ?_
  rintro e w1 ⟨rfl, rfl⟩
  go_wp2
  go_ret
  exact ⟨by first | (rw [HV.out]; done) | (rw [HV.out]; rfl), Below.refl _ _⟩
theorem rcat_ru (w : World) (n i : Int) (hi0 : 0 <= i) (hA : absF n = i) (HM : Hid (∀ w, Calls Tryz.prog 204 #[.int .i64 n] w fun e w' => e = .returned (.int .u64 i) /\ w = w')) :
  Calls Tryz.prog 173 #[.string ⟨#[114, 117]⟩, .int .i64 n] w fun e w' => e = .returned (.string (catF ⟨#[114, 117]⟩ n)) /\ Below w.heap.size w w' := by
 have hE := catF_ru n i hA
 clear hA
 by_cases h10_1 : i % 10 = 1
 ·have bh10_1 : (i % 10 == 1) = true := by simpa using h10_1
  have ch10_1 : (i % 10 != 1) = false := by simpa using h10_1
  by_cases h100_11 : i % 100 = 11
  ·have bh100_11 : (i % 100 == 11) = true := by simpa using h100_11
   have ch100_11 : (i % 100 != 11) = false := by simpa using h100_11
   have HV : Hid (slavF false (i % 10) (i % 100) = catF ⟨#[114, 117]⟩ n) := hid (by
    rw [hE, z4r]
    repeat' split
    all_goals first | rfl | (exfalso; omega))
   have HS := hid (z3g false (i % 10) (i % 100) w (by omega) (by omega))
   clear hE
   try clear h10_1
   try clear h100_11
   go_enter Tryz.func173, Tryz.ntmps173
   go_wp2_with fail
   refine (HM.out _).mono ?_
   rintro e w1 ⟨rfl, rfl⟩
   go_wp2_with fail
   refine HS.out.mono ?_
   rintro e w1 ⟨rfl, rfl⟩
   go_wp2
   go_ret
   exact ⟨by rw [<- HV.out]; rfl, Below.refl _ _⟩
  ·have bh100_11 : (i % 100 == 11) = false := by simpa using h100_11
   have ch100_11 : (i % 100 != 11) = true := by simpa using h100_11
   have HV : Hid (slavF true (i % 10) (i % 100) = catF ⟨#[114, 117]⟩ n) := hid (by
    rw [hE, z7t]
    repeat' split
    all_goals first | rfl | (exfalso; omega))
   have HS := hid (z3g true (i % 10) (i % 100) w (by omega) (by omega))
   clear hE
   try clear h10_1
   try clear h100_11
   go_enter Tryz.func173, Tryz.ntmps173
   go_wp2_with fail
   refine (HM.out _).mono ?_
   rintro e w1 ⟨rfl, rfl⟩
   go_wp2_with fail
   refine HS.out.mono ?_
   rintro e w1 ⟨rfl, rfl⟩
   go_wp2
   go_ret
   exact ⟨by rw [<- HV.out]; rfl, Below.refl _ _⟩
 ·have bh10_1 : (i % 10 == 1) = false := by simpa using h10_1
  have ch10_1 : (i % 10 != 1) = true := by simpa using h10_1
  have HV : Hid (slavF false (i % 10) (i % 100) = catF ⟨#[114, 117]⟩ n) := hid (by
   rw [hE, z4r]
   repeat' split
   all_goals first | rfl | (exfalso; omega))
  have HS := hid (z3g false (i % 10) (i % 100) w (by omega) (by omega))
  clear hE
  try clear h10_1
  try clear h100_11
  go_enter Tryz.func173, Tryz.ntmps173
  go_wp2_with fail
  refine (HM.out _).mono ?_
  rintro e w1 ⟨rfl, rfl⟩
  go_wp2_with fail
  refine HS.out.mono ?_
  rintro e w1 ⟨rfl, rfl⟩
  go_wp2
  go_ret
  exact ⟨by rw [<- HV.out]; rfl, Below.refl _ _⟩
theorem rcat_pl (w : World) (n i : Int) (hi0 : 0 <= i) (hA : absF n = i) (HM : Hid (∀ w, Calls Tryz.prog 204 #[.int .i64 n] w fun e w' => e = .returned (.int .u64 i) /\ w = w')) :
  Calls Tryz.prog 173 #[.string ⟨#[112, 108]⟩, .int .i64 n] w fun e w' => e = .returned (.string (catF ⟨#[112, 108]⟩ n)) /\ Below w.heap.size w w' := by
 have hE := catF_pl n i hA
 clear hA
 by_cases hs1 : i = 1
 ·subst hs1
  have HV : Hid (slavF true 1 1 = catF ⟨#[112, 108]⟩ n) := hid (by
   rw [hE, z7t]
   repeat' split
   all_goals first | rfl | (exfalso; omega))
  have HS := hid (z3g true 1 1 w (by omega) (by omega))
  clear hE
  try clear h10_1
  try clear h100_11
  go_enter Tryz.func173, Tryz.ntmps173
  go_wp2_with fail
  refine (HM.out _).mono ?_
  rintro e w1 ⟨rfl, rfl⟩
  go_wp2_with fail
  refine HS.out.mono ?_
  rintro e w1 ⟨rfl, rfl⟩
  go_wp2
  go_ret
  exact ⟨by rw [<- HV.out]; rfl, Below.refl _ _⟩
 ·have bs1 : (i == 1) = false := by simpa using hs1
  have HV : Hid (slavF false (i % 10) (i % 100) = catF ⟨#[112, 108]⟩ n) := hid (by
   rw [hE, z4r]
   repeat' split
   all_goals first | rfl | (exfalso; omega))
  have HS := hid (z3g false (i % 10) (i % 100) w (by omega) (by omega))
  clear hE
  try clear h10_1
  try clear h100_11
  go_enter Tryz.func173, Tryz.ntmps173
  go_wp2_with fail
  refine (HM.out _).mono ?_
  rintro e w1 ⟨rfl, rfl⟩
  go_wp2_with fail
  refine HS.out.mono ?_
  rintro e w1 ⟨rfl, rfl⟩
  go_wp2
  go_ret
  exact ⟨by rw [<- HV.out]; rfl, Below.refl _ _⟩
theorem rcat_cs (w : World) (n i : Int) (hi0 : 0 <= i) (hA : absF n = i) (HM : Hid (∀ w, Calls Tryz.prog 204 #[.int .i64 n] w fun e w' => e = .returned (.int .u64 i) /\ w = w')) :
  Calls Tryz.prog 173 #[.string ⟨#[99, 115]⟩, .int .i64 n] w fun e w' => e = .returned (.string (catF ⟨#[99, 115]⟩ n)) /\ Below w.heap.size w w' := by
 have hE := catF_cs n i hA
 clear hA
 by_cases hs1 : i = 1
 ·subst hs1
  have HV : Hid (catF ⟨#[99, 115]⟩ n = ⟨#[111, 110, 101]⟩) := hid (by
   rw [hE]
   repeat' split
   all_goals first | rfl | (exfalso; omega))
  clear hE
  go_enter Tryz.func173, Tryz.ntmps173
  go_wp2_with fail
  refine (HM.out _).mono ?_
  rintro e w1 ⟨rfl, rfl⟩
  go_wp2
  go_ret
  exact ⟨by first | (rw [HV.out]; done) | (rw [HV.out]; rfl), Below.refl _ _⟩
 ·have bs1 : (i == 1) = false := by simpa using hs1
  by_cases h2 : 2 <= i
  ·have _t := trivial
   by_cases h4 : i <= 4
   ·have _t := trivial
    have HV : Hid (catF ⟨#[99, 115]⟩ n = ⟨#[102, 101, 119]⟩) := hid (by
     rw [hE]
     repeat' split
     all_goals first | rfl | (exfalso; omega))
    clear hE
    go_enter Tryz.func173, Tryz.ntmps173
    go_wp2_with fail
    refine (HM.out _).mono ?_
    rintro e w1 ⟨rfl, rfl⟩
    go_wp2
    go_ret
    exact ⟨by first | (rw [HV.out]; done) | (rw [HV.out]; rfl), Below.refl _ _⟩
   ·have _t := trivial
    have HV : Hid (catF ⟨#[99, 115]⟩ n = ⟨#[111, 116, 104, 101, 114]⟩) := hid (by
     rw [hE]
     repeat' split
     all_goals first | rfl | (exfalso; omega))
    clear hE
    go_enter Tryz.func173, Tryz.ntmps173
    go_wp2_with fail
    refine (HM.out _).mono ?_
    rintro e w1 ⟨rfl, rfl⟩
    go_wp2
    go_ret
    exact ⟨by first | (rw [HV.out]; done) | (rw [HV.out]; rfl), Below.refl _ _⟩
  ·have _t := trivial
   have HV : Hid (catF ⟨#[99, 115]⟩ n = ⟨#[111, 116, 104, 101, 114]⟩) := hid (by
    rw [hE]
    repeat' split
    all_goals first | rfl | (exfalso; omega))
   clear hE
   go_enter Tryz.func173, Tryz.ntmps173
   go_wp2_with fail
   refine (HM.out _).mono ?_
   rintro e w1 ⟨rfl, rfl⟩
   go_wp2
   go_ret
   exact ⟨by first | (rw [HV.out]; done) | (rw [HV.out]; rfl), Below.refl _ _⟩
theorem rcat_ar (w : World) (n i : Int) (hi0 : 0 <= i) (hA : absF n = i) (HM : Hid (∀ w, Calls Tryz.prog 204 #[.int .i64 n] w fun e w' => e = .returned (.int .u64 i) /\ w = w')) :
  Calls Tryz.prog 173 #[.string ⟨#[97, 114]⟩, .int .i64 n] w fun e w' => e = .returned (.string (catF ⟨#[97, 114]⟩ n)) /\ Below w.heap.size w w' := by
 have hE := catF_ar n i hA
 clear hA
 by_cases hs0 : i = 0
 ·subst hs0
  have HV : Hid (catF ⟨#[97, 114]⟩ n = ⟨#[122, 101, 114, 111]⟩) := hid (by
   rw [hE]
   repeat' split
   all_goals first | rfl | (exfalso; omega))
  clear hE
  go_enter Tryz.func173, Tryz.ntmps173
  go_wp2_with fail
  refine (HM.out _).mono ?_
  rintro e w1 ⟨rfl, rfl⟩
  go_wp2
  go_ret
  exact ⟨by first | (rw [HV.out]; done) | (rw [HV.out]; rfl), z02 _ _⟩
 ·have bs0 : (i == 0) = false := by simpa using hs0
  by_cases hs1 : i = 1
  ·subst hs1
   have HV : Hid (catF ⟨#[97, 114]⟩ n = ⟨#[111, 110, 101]⟩) := hid (by
    rw [hE]
    repeat' split
    all_goals first | rfl | (exfalso; omega))
   clear hE
   go_enter Tryz.func173, Tryz.ntmps173
   go_wp2_with fail
   refine (HM.out _).mono ?_
   rintro e w1 ⟨rfl, rfl⟩
   go_wp2
   go_ret
   exact ⟨by first | (rw [HV.out]; done) | (rw [HV.out]; rfl), z02 _ _⟩
  ·have bs1 : (i == 1) = false := by simpa using hs1
   by_cases hs2 : i = 2
   ·subst hs2
    have HV : Hid (catF ⟨#[97, 114]⟩ n = ⟨#[116, 119, 111]⟩) := hid (by
     rw [hE]
     repeat' split
     all_goals first | rfl | (exfalso; omega))
    clear hE
    go_enter Tryz.func173, Tryz.ntmps173
    go_wp2_with fail
    refine (HM.out _).mono ?_
    rintro e w1 ⟨rfl, rfl⟩
    go_wp2
    go_ret
    exact ⟨by first | (rw [HV.out]; done) | (rw [HV.out]; rfl), z02 _ _⟩
   ·have bs2 : (i == 2) = false := by simpa using hs2
    by_cases hn : i <= 2
    ·have _t := trivial
     exfalso; omega
    ·have _t := trivial
     by_cases h3 : 3 <= i % 100
     ·have _t := trivial
      by_cases h10 : i % 100 <= 10
      ·have _t := trivial
       have HV : Hid (catF ⟨#[97, 114]⟩ n = ⟨#[102, 101, 119]⟩) := hid (by
        rw [hE]
        repeat' split
        all_goals first | rfl | (exfalso; omega))
       clear hE
       go_enter Tryz.func173, Tryz.ntmps173
       go_wp2_with fail
       refine (HM.out _).mono ?_
       rintro e w1 ⟨rfl, rfl⟩
       go_wp2
       go_ret
       exact ⟨by first | (rw [HV.out]; done) | (rw [HV.out]; rfl), Below.refl _ _⟩
      ·have _t := trivial
       by_cases h11 : 11 <= i % 100
       ·have _t := trivial
        have HV : Hid (catF ⟨#[97, 114]⟩ n = ⟨#[109, 97, 110, 121]⟩) := hid (by
         rw [hE]
         repeat' split
         all_goals first | rfl | (exfalso; omega))
        clear hE
        go_enter Tryz.func173, Tryz.ntmps173
        go_wp2_with fail
        refine (HM.out _).mono ?_
        rintro e w1 ⟨rfl, rfl⟩
        go_wp2
        go_ret
        exact ⟨by first | (rw [HV.out]; done) | (rw [HV.out]; rfl), Below.refl _ _⟩
       ·have _t := trivial
        exfalso; omega
     ·have _t := trivial
      by_cases h11 : 11 <= i % 100
      ·have _t := trivial
       exfalso; omega
      ·have _t := trivial
       have HV : Hid (catF ⟨#[97, 114]⟩ n = ⟨#[111, 116, 104, 101, 114]⟩) := hid (by
        rw [hE]
        repeat' split
        all_goals first | rfl | (exfalso; omega))
       clear hE
       go_enter Tryz.func173, Tryz.ntmps173
       go_wp2_with fail
       refine (HM.out _).mono ?_
       rintro e w1 ⟨rfl, rfl⟩
       go_wp2
       go_ret
       exact ⟨by first | (rw [HV.out]; done) | (rw [HV.out]; rfl), Below.refl _ _⟩
theorem rcat_sl (w : World) (n i : Int) (hi0 : 0 <= i) (hA : absF n = i) (HM : Hid (∀ w, Calls Tryz.prog 204 #[.int .i64 n] w fun e w' => e = .returned (.int .u64 i) /\ w = w')) :
  Calls Tryz.prog 173 #[.string ⟨#[115, 108]⟩, .int .i64 n] w fun e w' => e = .returned (.string (catF ⟨#[115, 108]⟩ n)) /\ Below w.heap.size w w' := by
 have hE := catF_sl n i hA
 clear hA
 by_cases h100_1 : i % 100 = 1
 ·have bh100_1 : (i % 100 == 1) = true := by simpa using h100_1
  have ch100_1 : (i % 100 != 1) = false := by simpa using h100_1
  have HV : Hid (catF ⟨#[115, 108]⟩ n = ⟨#[111, 110, 101]⟩) := hid (by
   rw [hE]
   repeat' split
   all_goals first | rfl | (exfalso; omega))
  clear hE
  go_enter Tryz.func173, Tryz.ntmps173
  go_wp2_with fail
  refine (HM.out _).mono ?_
  rintro e w1 ⟨rfl, rfl⟩
  go_wp2
  go_ret
  exact ⟨by first | (rw [HV.out]; done) | (rw [HV.out]; rfl), Below.refl _ _⟩
 ·have bh100_1 : (i % 100 == 1) = false := by simpa using h100_1
  have ch100_1 : (i % 100 != 1) = true := by simpa using h100_1
  by_cases h100_2 : i % 100 = 2
  ·have bh100_2 : (i % 100 == 2) = true := by simpa using h100_2
   have ch100_2 : (i % 100 != 2) = false := by simpa using h100_2
   have HV : Hid (catF ⟨#[115, 108]⟩ n = ⟨#[116, 119, 111]⟩) := hid (by
    rw [hE]
    repeat' split
    all_goals first | rfl | (exfalso; omega))
   clear hE
   go_enter Tryz.func173, Tryz.ntmps173
   go_wp2_with fail
   refine (HM.out _).mono ?_
   rintro e w1 ⟨rfl, rfl⟩
   go_wp2
   go_ret
   exact ⟨by first | (rw [HV.out]; done) | (rw [HV.out]; rfl), Below.refl _ _⟩
  ·have bh100_2 : (i % 100 == 2) = false := by simpa using h100_2
   have ch100_2 : (i % 100 != 2) = true := by simpa using h100_2
   by_cases h100_3 : i % 100 = 3
   ·have bh100_3 : (i % 100 == 3) = true := by simpa using h100_3
    have ch100_3 : (i % 100 != 3) = false := by simpa using h100_3
    have HV : Hid (catF ⟨#[115, 108]⟩ n = ⟨#[102, 101, 119]⟩) := hid (by
     rw [hE]
     repeat' split
     all_goals first | rfl | (exfalso; omega))
    clear hE
    go_enter Tryz.func173, Tryz.ntmps173
    go_wp2_with fail
    refine (HM.out _).mono ?_
    rintro e w1 ⟨rfl, rfl⟩
    go_wp2
    go_ret
    exact ⟨by first | (rw [HV.out]; done) | (rw [HV.out]; rfl), Below.refl _ _⟩
   ·have bh100_3 : (i % 100 == 3) = false := by simpa using h100_3
    have ch100_3 : (i % 100 != 3) = true := by simpa using h100_3
    by_cases h100_4 : i % 100 = 4
    ·have bh100_4 : (i % 100 == 4) = true := by simpa using h100_4
     have ch100_4 : (i % 100 != 4) = false := by simpa using h100_4
     have HV : Hid (catF ⟨#[115, 108]⟩ n = ⟨#[102, 101, 119]⟩) := hid (by
      rw [hE]
      repeat' split
      all_goals first | rfl | (exfalso; omega))
     clear hE
     go_enter Tryz.func173, Tryz.ntmps173
     go_wp2_with fail
     refine (HM.out _).mono ?_
     rintro e w1 ⟨rfl, rfl⟩
     go_wp2
     go_ret
     exact ⟨by first | (rw [HV.out]; done) | (rw [HV.out]; rfl), Below.refl _ _⟩
    ·have bh100_4 : (i % 100 == 4) = false := by simpa using h100_4
     have ch100_4 : (i % 100 != 4) = true := by simpa using h100_4
     have HV : Hid (catF ⟨#[115, 108]⟩ n = ⟨#[111, 116, 104, 101, 114]⟩) := hid (by
      rw [hE]
      repeat' split
      all_goals first | rfl | (exfalso; omega))
     clear hE
     go_enter Tryz.func173, Tryz.ntmps173
     go_wp2_with fail
     refine (HM.out _).mono ?_
     rintro e w1 ⟨rfl, rfl⟩
     go_wp2
     go_ret
     exact ⟨by first | (rw [HV.out]; done) | (rw [HV.out]; rfl), Below.refl _ _⟩
theorem rcat_cy (w : World) (n i : Int) (hi0 : 0 <= i) (hA : absF n = i) (HM : Hid (∀ w, Calls Tryz.prog 204 #[.int .i64 n] w fun e w' => e = .returned (.int .u64 i) /\ w = w')) :
  Calls Tryz.prog 173 #[.string ⟨#[99, 121]⟩, .int .i64 n] w fun e w' => e = .returned (.string (catF ⟨#[99, 121]⟩ n)) /\ Below w.heap.size w w' := by
 have hE := catF_cy n i hA
 clear hA
 by_cases hs0 : i = 0
 ·subst hs0
  have HV : Hid (catF ⟨#[99, 121]⟩ n = ⟨#[122, 101, 114, 111]⟩) := hid (by
   rw [hE]
   repeat' split
   all_goals first | rfl | (exfalso; omega))
  clear hE
  go_enter Tryz.func173, Tryz.ntmps173
  go_wp2_with fail
  refine (HM.out _).mono ?_
  rintro e w1 ⟨rfl, rfl⟩
  go_wp2
  go_ret
  exact ⟨by first | (rw [HV.out]; done) | (rw [HV.out]; rfl), z02 _ _⟩
 ·have bs0 : (i == 0) = false := by simpa using hs0
  by_cases hs1 : i = 1
  ·subst hs1
   have HV : Hid (catF ⟨#[99, 121]⟩ n = ⟨#[111, 110, 101]⟩) := hid (by
    rw [hE]
    repeat' split
    all_goals first | rfl | (exfalso; omega))
   clear hE
   go_enter Tryz.func173, Tryz.ntmps173
   go_wp2_with fail
   refine (HM.out _).mono ?_
   rintro e w1 ⟨rfl, rfl⟩
   go_wp2
   go_ret
   exact ⟨by first | (rw [HV.out]; done) | (rw [HV.out]; rfl), z02 _ _⟩
  ·have bs1 : (i == 1) = false := by simpa using hs1
   by_cases hs2 : i = 2
   ·subst hs2
    have HV : Hid (catF ⟨#[99, 121]⟩ n = ⟨#[116, 119, 111]⟩) := hid (by
     rw [hE]
     repeat' split
     all_goals first | rfl | (exfalso; omega))
    clear hE
    go_enter Tryz.func173, Tryz.ntmps173
    go_wp2_with fail
    refine (HM.out _).mono ?_
    rintro e w1 ⟨rfl, rfl⟩
    go_wp2
    go_ret
    exact ⟨by first | (rw [HV.out]; done) | (rw [HV.out]; rfl), z02 _ _⟩
   ·have bs2 : (i == 2) = false := by simpa using hs2
    by_cases hs3 : i = 3
    ·subst hs3
     have HV : Hid (catF ⟨#[99, 121]⟩ n = ⟨#[102, 101, 119]⟩) := hid (by
      rw [hE]
      repeat' split
      all_goals first | rfl | (exfalso; omega))
     clear hE
     go_enter Tryz.func173, Tryz.ntmps173
     go_wp2_with fail
     refine (HM.out _).mono ?_
     rintro e w1 ⟨rfl, rfl⟩
     go_wp2
     go_ret
     exact ⟨by first | (rw [HV.out]; done) | (rw [HV.out]; rfl), z02 _ _⟩
    ·have bs3 : (i == 3) = false := by simpa using hs3
     by_cases hn : i <= 3
     ·have _t := trivial
      exfalso; omega
     ·have _t := trivial
      by_cases hs6 : i = 6
      ·subst hs6
       have HV : Hid (catF ⟨#[99, 121]⟩ n = ⟨#[109, 97, 110, 121]⟩) := hid (by
        rw [hE]
        repeat' split
        all_goals first | rfl | (exfalso; omega))
       clear hE
       go_enter Tryz.func173, Tryz.ntmps173
       go_wp2_with fail
       refine (HM.out _).mono ?_
       rintro e w1 ⟨rfl, rfl⟩
       go_wp2
       go_ret
       exact ⟨by first | (rw [HV.out]; done) | (rw [HV.out]; rfl), Below.refl _ _⟩
      ·have bs6 : (i == 6) = false := by simpa using hs6
       have HV : Hid (catF ⟨#[99, 121]⟩ n = ⟨#[111, 116, 104, 101, 114]⟩) := hid (by
        rw [hE]
        repeat' split
        all_goals first | rfl | (exfalso; omega))
       clear hE
       go_enter Tryz.func173, Tryz.ntmps173
       go_wp2_with fail
       refine (HM.out _).mono ?_
       rintro e w1 ⟨rfl, rfl⟩
       go_wp2
       go_ret
       exact ⟨by first | (rw [HV.out]; done) | (rw [HV.out]; rfl), Below.refl _ _⟩
theorem rcat_no (w : World) (g : BA) (n i : Int) (hen : g ≠ ⟨#[101, 110]⟩) (hde : g ≠ ⟨#[100, 101]⟩) (hfr : g ≠ ⟨#[102, 114]⟩) (hru : g ≠ ⟨#[114, 117]⟩) (hpl : g ≠ ⟨#[112, 108]⟩) (hcs : g ≠ ⟨#[99, 115]⟩) (har : g ≠ ⟨#[97, 114]⟩) (hsl : g ≠ ⟨#[115, 108]⟩) (hcy : g ≠ ⟨#[99, 121]⟩) (hi0 : 0 <= i) (HM : Hid (∀ w, Calls Tryz.prog 204 #[.int .i64 n] w fun e w' => e = .returned (.int .u64 i) /\ w = w')) :
  Calls Tryz.prog 173 #[.string g, .int .i64 n] w fun e w' => e = .returned (.string (catF g n)) /\ Below w.heap.size w w' := by
 have HE : Hid (catF g n = ⟨#[111, 116, 104, 101, 114]⟩) := hid (by unfold catF; rw [zgk g hen hde hfr hru hpl hcs har hsl hcy]; rfl)
 have ben := z0o (l := [101, 110]) hen
 have bde := z0o (l := [100, 101]) hde
 have bfr := z0o (l := [102, 114]) hfr
 have bru := z0o (l := [114, 117]) hru
 have bpl := z0o (l := [112, 108]) hpl
 have bcs := z0o (l := [99, 115]) hcs
 have bar := z0o (l := [97, 114]) har
 have bsl := z0o (l := [115, 108]) hsl
 have bcy := z0o (l := [99, 121]) hcy
 clear hen hde hfr hru hpl hcs har hsl hcy
 go_enter Tryz.func173, Tryz.ntmps173
 go_wp2_with fail
 refine (HM.out _).mono ?_
 rintro e w1 ⟨rfl, rfl⟩
 go_wp2
 go_ret
 exact ⟨by rw [HE.out]; rfl, Below.refl _ _⟩
theorem z91 (w : World) (g : BA) (n : Int) (h1 : -9223372036854775808 <= n) (h2 : n <= 9223372036854775807) :
  Calls Tryz.prog 173 #[.string g, .int .i64 n] w fun e w' => e = .returned (.string (catF g n)) /\ Below w.heap.size w w' := by
 have HM := hid (fun w => zg1 n w h1 h2)
 by_cases hen : g = ⟨#[101, 110]⟩
 ·subst hen; exact rcat_en w n _ (z30 n) rfl HM
 by_cases hde : g = ⟨#[100, 101]⟩
 ·subst hde; exact rcat_de w n _ (z30 n) rfl HM
 by_cases hfr : g = ⟨#[102, 114]⟩
 ·subst hfr; exact rcat_fr w n _ (z30 n) rfl HM
 by_cases hru : g = ⟨#[114, 117]⟩
 ·subst hru; exact rcat_ru w n _ (z30 n) rfl HM
 by_cases hpl : g = ⟨#[112, 108]⟩
 ·subst hpl; exact rcat_pl w n _ (z30 n) rfl HM
 by_cases hcs : g = ⟨#[99, 115]⟩
 ·subst hcs; exact rcat_cs w n _ (z30 n) rfl HM
 by_cases har : g = ⟨#[97, 114]⟩
 ·subst har; exact rcat_ar w n _ (z30 n) rfl HM
 by_cases hsl : g = ⟨#[115, 108]⟩
 ·subst hsl; exact rcat_sl w n _ (z30 n) rfl HM
 by_cases hcy : g = ⟨#[99, 121]⟩
 ·subst hcy; exact rcat_cy w n _ (z30 n) rfl HM
 exact rcat_no w g n _ hen hde hfr hru hpl hcs har hsl hcy (z30 n) HM
end Go.Proofs.YtdnedbcmgkilaaaGreatDoor.Pu
