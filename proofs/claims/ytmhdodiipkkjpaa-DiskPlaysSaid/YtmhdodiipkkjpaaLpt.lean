/- DiskPlays: what the law answers. -/
import Derived.Test.YtmhdodiipkkjpaaLp
namespace Go.Proofs.Ytmhdodiipkkjpaa.Dk
open Go.RowKit

set_option maxHeartbeats 12800000 in
set_option maxRecDepth 100000 in
theorem lplays_any (w : World) (room : Int) (a : Option Addr) (cap : Nat) (xs : List Cal) (hk : SlK w (Old w) (.slice a xs.length cap) xs) (hx : ∀ x, x ∈ xs → FitC x) :
    Calls Try.prog 6 #[.int .i64 room, .slice a xs.length cap] w fun e w' => e = .returned (.bool true) ∧ Below w.heap.size w w' := by
  have HXO := Lib.hid (fun W (hb : Below w.heap.size w W) => hk.old hb)
  have HXF := Lib.hid hx
  have HAL := Lib.hid (fun W => alive_any W)
  have hM := hk.max
  clear hk hx
  obtain ⟨M, HM⟩ : ∃ L, Hid (L = xs.length) := ⟨_, Lib.hid rfl⟩
  obtain ⟨e1, HE1⟩ : ∃ r : Int, (if room < 0 then 0 else room) = r := ⟨_, rfl⟩
  obtain ⟨e2, HE2⟩ : ∃ r : Int, (if 1048576 < e1 then 1048576 else e1) = r := ⟨_, rfl⟩
  have HCL := Lib.hid (clamp_room room e1 e2 HE1 HE2)
  rw [← HM.out] at HXO hM ⊢
  have HP0 : Hid (PS w ⟨e2, [], -1, false⟩ none 0 (w.alloc (.cells #[.int .i64 e2, .slice none 0 0, .int .i64 (-1), .bool false] 24))) := Lib.hid ⟨below1 _ _, empty_right HCL.out, row_new w #[.int .i64 e2, .slice none 0 0, .int .i64 (-1), .bool false] _, fsn _⟩
  go_enter Try.func6, Try.ntmps6
  go_wp2
  clear HE1 HE2
  go_loopw [19] (fun i wr => ∃ (k : Nat) (d : Dsk) (aD : Option Addr) (cD : Nat), k ≤ M ∧ i = .int .i64 k ∧ Hid (PS w d aD cD wr)) (fun i _ => M - (intOf i).toNat)
  case atStart => exact ⟨0, _, _, _, Nat.zero_le _, rfl, HP0⟩
  case round =>
    rename World => wo
    obtain ⟨k, ⟨rm, fs, lf, dn⟩, aD, cD, hk, rfl, HP⟩ := hrel
    clear HP0 HCL
    have HBW := Lib.hid HP.out.low
    by_cases hlt : k < M
    rotate_left
    · clear hk
      go_wp2_with fail
      refine (HAL.out _).mono ?_
      rintro e w99 ⟨rfl, hb99⟩
      have HB99 := Lib.hid (below_trans HBW.out hb99)
      clear hb99
      go_wp2
      go_ret
      exact ⟨rfl, HB99.out⟩
    · obtain ⟨x, hx⟩ : ∃ x, xs[k]? = some x := ⟨_, List.getElem?_eq_getElem (by have := HM.out; omega)⟩
      have HFX := Lib.hid (HXF.out x (mem_at hx))
      obtain ⟨b, off, rfl, -, x0, x1, x2, x3⟩ := (HXO.out wo HBW.out).get hx
      clear hx
      obtain ⟨wh, n, m, kk⟩ := x
      simp only at x0 x1 x2 x3
      obtain ⟨L, HL⟩ : ∃ L, Hid (L = fs.length) := ⟨_, Lib.hid rfl⟩
      have HGD := Lib.hid HP.out.rgt
      have HRD := Lib.hid HP.out.row
      have HSD := Lib.hid HP.out.fs
      simp only at HRD HSD
      rw [← HL.out] at HRD HSD
      have HRC0 : Hid (Row (wo.alloc (.cells #[.int .i64 wh, .string n, .string m, .int .i64 kk] 26)) wo.heap.size 26 [.int .i64 wh, .string n, .string m, .int .i64 kk]) := Lib.hid (row_new wo #[.int .i64 wh, .string n, .string m, .int .i64 kk] _)
      have HBE := Lib.hid (below_trans HBW.out (below1 wo (.cells #[.int .i64 wh, .string n, .string m, .int .i64 kk] 26)))
      have c0 := HRC0.out.cell (i := 0) rfl
      have c1 := HRC0.out.cell (i := 1) rfl
      have c2 := HRC0.out.cell (i := 2) rfl
      have c3 := HRC0.out.cell (i := 3) rfl
      by_cases h60 : 60 ≤ k
      · have u60 : decide (60 ≤ (k : Int)) = true := decide_eq_true (by omega)
        go_wp2_with fail
        refine (HAL.out _).mono ?_
        rintro e w99 ⟨rfl, hb99⟩
        have HB99 := Lib.hid (below_trans HBE.out hb99)
        clear hb99
        go_wp2
        go_ret
        exact ⟨rfl, HB99.out⟩
      have u60 : decide (60 ≤ (k : Int)) = false := decide_eq_false (by omega)
      by_cases h3 : 3000 < m.size
      · have u3 : decide (3000 < (m.size : Int)) = true := decide_eq_true (by omega)
        go_wp2_with fail
        refine (HAL.out _).mono ?_
        rintro e w99 ⟨rfl, hb99⟩
        have HB99 := Lib.hid (below_trans HBE.out hb99)
        clear hb99
        go_wp2
        go_ret
        exact ⟨rfl, HB99.out⟩
      have u3 : decide (3000 < (m.size : Int)) = false := decide_eq_false (by omega)
      clear h60 h3
      rcases (show wh = 1 ∨ wh = 2 ∨ wh = 3 ∨ wh = 4 ∨ wh = 5 ∨ wh = 6 ∨ (wh ≠ 1 ∧ wh ≠ 2 ∧ wh ≠ 3 ∧ wh ≠ 4 ∧ wh ≠ 5 ∧ wh ≠ 6) by omega) with rfl | rfl | rfl | rfl | rfl | rfl | ⟨h1, h2, h3, h4, h5, h6⟩
      · skip
        obtain ⟨W2, HW2⟩ : ∃ W, Hid (W = ((wo.alloc (.cells #[.int .i64 1, .string n, .string m, .int .i64 kk] 26)).alloc (.cells #[.int .i64 0, .slice none 0 0, .int .i64 0, .bool false] 24)).alloc (.cells #[.int .i64 0, .slice none 0 0, .int .i64 0, .bool false] 24)) := ⟨_, Lib.hid rfl⟩
        have HB3 : Hid (Below wo.heap.size wo W2) := Lib.hid (by rw [HW2.out]; exact below3 _ _ _ _)
        have HSZ : Hid (W2.heap.size = wo.heap.size + 3) := Lib.hid (by rw [HW2.out]; simp)
        have HRC : Hid (Row W2 wo.heap.size 26 [.int .i64 1, .string n, .string m, .int .i64 kk]) := Lib.hid (by rw [HW2.out]; exact ((row_new wo #[.int .i64 1, .string n, .string m, .int .i64 kk] _).alloc _).alloc _)
        have HRN : Hid (Row W2 (wo.heap.size + 1) 24 [.int .i64 0, .slice none 0 0, .int .i64 0, .bool false]) := Lib.hid (by
          rw [HW2.out]
          have h := row_new (wo.alloc (.cells #[.int .i64 1, .string n, .string m, .int .i64 kk] 26)) #[.int .i64 0, .slice none 0 0, .int .i64 0, .bool false] 24
          simp only [World.size_alloc] at h
          exact h.alloc _)
        have HRT : Hid (Row W2 (wo.heap.size + 1 + 1) 24 [.int .i64 0, .slice none 0 0, .int .i64 0, .bool false]) := Lib.hid (by
          rw [HW2.out]
          have h := row_new ((wo.alloc (.cells #[.int .i64 1, .string n, .string m, .int .i64 kk] 26)).alloc (.cells #[.int .i64 0, .slice none 0 0, .int .i64 0, .bool false] 24)) #[.int .i64 0, .slice none 0 0, .int .i64 0, .bool false] 24
          simp only [World.size_alloc] at h
          exact h)
        have HRD2 := Lib.hid (HRD.out.below HB3.out)
        have HSD2 := Lib.hid (HSD.out.old HB3.out)
        have HDL : Hid (w.heap.size < wo.heap.size) := Lib.hid HRD.out.lt
        have r0 := HRD2.out.cell (i := 0) rfl
        have r1 := HRD2.out.cell (i := 1) rfl
        have r2 := HRD2.out.cell (i := 2) rfl
        have r3 := HRD2.out.cell (i := 3) rfl
        have y0 := HRC.out.cell (i := 0) rfl
        have y1 := HRC.out.cell (i := 1) rfl
        have y2 := HRC.out.cell (i := 2) rfl
        have y3 := HRC.out.cell (i := 3) rfl
        rw [HW2.out] at r0 r1 r2 r3 y0 y1 y2 y3
        go_wp2_with fail
        rw [← HW2.out]
        clear r0 r1 r2 r3 y0 y1 y2 y3 c0 c1 c2 c3 x0 x1 x2 x3 HW2
        have HC := call_any W2 ⟨rm, fs, lf, dn⟩ aD cD ⟨1, n, m, kk⟩ ⟨by simp only; rw [← HL.out]; exact HSD2.out, HGD.out.fits⟩ HFX.out
        have HGN0 : Hid (RgtD (callF 1 ⟨rm, fs, lf, dn⟩ n m).1) := Lib.hid call_right
        simp only at HC
        rw [← HL.out] at HC
        obtain ⟨r, HRS⟩ : ∃ r, Hid (r = callF 1 ⟨rm, fs, lf, dn⟩ n m) := ⟨_, Lib.hid rfl⟩
        rw [← HRS.out] at HC HGN0
        refine HC.mono ?_
        clear HC
        rintro e w5 ⟨a5, c5, rfl, hs5, hb5⟩
        obtain ⟨⟨rr, rf, rl, rd⟩, ke⟩ := r
        have HGN : Hid (RgtD ⟨rr, rf, rl, rd⟩) := HGN0
        clear HGN0
        simp only at hs5 ⊢
        obtain ⟨L5, HL5⟩ : ∃ L, Hid (L = rf.length) := ⟨_, Lib.hid rfl⟩
        rw [← HL5.out] at hs5 ⊢
        have HS5 := Lib.hid hs5
        have HB5 := Lib.hid hb5
        clear hs5 hb5
        have HRD5 := Lib.hid (HRD2.out.below HB5.out)
        have HSD5 := Lib.hid (HSD2.out.old HB5.out)
        have HRC5 := Lib.hid (HRC.out.below HB5.out)
        have HRN5 := Lib.hid (HRN.out.below HB5.out)
        have HRT5 := Lib.hid (HRT.out.below HB5.out)
        have n0 := HRN5.out.cell (i := 0) rfl
        have n1 := HRN5.out.cell (i := 1) rfl
        have n2 := HRN5.out.cell (i := 2) rfl
        have n3 := HRN5.out.cell (i := 3) rfl
        have tn0 := HRN5.out.thaw 0
        have tn1 := HRN5.out.thaw 1
        have tn2 := HRN5.out.thaw 2
        have tn3 := HRN5.out.thaw 3
        have HBU6 : Hid (But (wo.heap.size + 1) w5 ((((w5.setCell ⟨wo.heap.size + 1, 0, none⟩ (.int .i64 rr)).setCell ⟨wo.heap.size + 1, 1, none⟩ (.slice a5 L5 c5)).setCell ⟨wo.heap.size + 1, 2, none⟩ (.int .i64 rl)).setCell ⟨wo.heap.size + 1, 3, none⟩ (.bool rd))) := Lib.hid (put4_but _ _ _ _ _ _)
        have HRN6 : Hid (Row ((((w5.setCell ⟨wo.heap.size + 1, 0, none⟩ (.int .i64 rr)).setCell ⟨wo.heap.size + 1, 1, none⟩ (.slice a5 L5 c5)).setCell ⟨wo.heap.size + 1, 2, none⟩ (.int .i64 rl)).setCell ⟨wo.heap.size + 1, 3, none⟩ (.bool rd)) (wo.heap.size + 1) 24 [.int .i64 rr, .slice a5 L5 c5, .int .i64 rl, .bool rd]) := Lib.hid (put4_row HRN5.out _ _ _ _)
        have HRD6 := Lib.hid (HBU6.out.row HRD5.out (by have := HDL.out; omega))
        have HRC6 := Lib.hid (HBU6.out.row HRC5.out (by omega))
        have HRT6 := Lib.hid (HBU6.out.row HRT5.out (by omega))
        have HS6 := Lib.hid (slf_one HS5.out HRN5.out HBU6.out)
        have HSD6 := Lib.hid (slf_one HSD5.out HRN5.out HBU6.out)
        have HB6 : Hid (Below wo.heap.size wo ((((w5.setCell ⟨wo.heap.size + 1, 0, none⟩ (.int .i64 rr)).setCell ⟨wo.heap.size + 1, 1, none⟩ (.slice a5 L5 c5)).setCell ⟨wo.heap.size + 1, 2, none⟩ (.int .i64 rl)).setCell ⟨wo.heap.size + 1, 3, none⟩ (.bool rd))) := Lib.hid ((below_trans HB3.out HB5.out).trans (HBU6.out.below (by omega)))
        have r0 := HRD6.out.cell (i := 0) rfl
        have r1 := HRD6.out.cell (i := 1) rfl
        have r2 := HRD6.out.cell (i := 2) rfl
        have r3 := HRD6.out.cell (i := 3) rfl
        have y0 := HRC6.out.cell (i := 0) rfl
        have y1 := HRC6.out.cell (i := 1) rfl
        have y2 := HRC6.out.cell (i := 2) rfl
        go_wp2_with fail
        generalize hv : (((w5.setCell ⟨wo.heap.size + 1, 0, none⟩ (.int .i64 rr)).setCell ⟨wo.heap.size + 1, 1, none⟩ (.slice a5 L5 c5)).setCell ⟨wo.heap.size + 1, 2, none⟩ (.int .i64 rl)).setCell ⟨wo.heap.size + 1, 3, none⟩ (.bool rd) = w6 at *
        clear hv n0 n1 n2 n3 tn0 tn1 tn2 tn3 r0 r1 r2 r3 y0 y1 y2 HRD5 HSD5 HRC5 HRN5 HRT5 HS5 HB5
        have HC := rcall_any w6 ⟨rm, fs, lf, dn⟩ aD cD 1 n m ⟨by simp only; rw [← HL.out]; exact HSD6.out, HGD.out.fits⟩ HFX.out.n HFX.out.m (by omega) (by omega)
        rw [← HRS.out] at HC
        simp only at HC
        rw [← HL.out] at HC
        refine HC.mono ?_
        clear HC
        rintro e w7 ⟨a7, c7, rfl, hs7, hb7⟩
        simp only at hs7 ⊢
        rw [← HL5.out] at hs7 ⊢
        have HS7 := Lib.hid hs7
        have HB7 := Lib.hid hb7
        clear hs7 hb7
        have HRD7 := Lib.hid (HRD6.out.below HB7.out)
        have HSD7 := Lib.hid (HSD6.out.old HB7.out)
        have HRN7 := Lib.hid (HRN6.out.below HB7.out)
        have HSN7 := Lib.hid (HS6.out.old HB7.out)
        have HRT7 := Lib.hid (HRT6.out.below HB7.out)
        have t0 := HRT7.out.cell (i := 0) rfl
        have t1 := HRT7.out.cell (i := 1) rfl
        have t2 := HRT7.out.cell (i := 2) rfl
        have t3 := HRT7.out.cell (i := 3) rfl
        have tt0 := HRT7.out.thaw 0
        have tt1 := HRT7.out.thaw 1
        have tt2 := HRT7.out.thaw 2
        have tt3 := HRT7.out.thaw 3
        have HBU8 : Hid (But (wo.heap.size + 1 + 1) w7 ((((w7.setCell ⟨wo.heap.size + 1 + 1, 0, none⟩ (.int .i64 rr)).setCell ⟨wo.heap.size + 1 + 1, 1, none⟩ (.slice a7 L5 c7)).setCell ⟨wo.heap.size + 1 + 1, 2, none⟩ (.int .i64 rl)).setCell ⟨wo.heap.size + 1 + 1, 3, none⟩ (.bool rd))) := Lib.hid (put4_but _ _ _ _ _ _)
        have HRT8 : Hid (Row ((((w7.setCell ⟨wo.heap.size + 1 + 1, 0, none⟩ (.int .i64 rr)).setCell ⟨wo.heap.size + 1 + 1, 1, none⟩ (.slice a7 L5 c7)).setCell ⟨wo.heap.size + 1 + 1, 2, none⟩ (.int .i64 rl)).setCell ⟨wo.heap.size + 1 + 1, 3, none⟩ (.bool rd)) (wo.heap.size + 1 + 1) 24 [.int .i64 rr, .slice a7 L5 c7, .int .i64 rl, .bool rd]) := Lib.hid (put4_row HRT7.out _ _ _ _)
        have HRD8 := Lib.hid (HBU8.out.row HRD7.out (by have := HDL.out; omega))
        have HRN8 := Lib.hid (HBU8.out.row HRN7.out (by omega))
        have HSN8 := Lib.hid (slf_one HSN7.out HRT7.out HBU8.out)
        have HST8 := Lib.hid (slf_one HS7.out HRT7.out HBU8.out)
        have HSD8 := Lib.hid (slf_one HSD7.out HRT7.out HBU8.out)
        have HB8 : Hid (Below wo.heap.size wo ((((w7.setCell ⟨wo.heap.size + 1 + 1, 0, none⟩ (.int .i64 rr)).setCell ⟨wo.heap.size + 1 + 1, 1, none⟩ (.slice a7 L5 c7)).setCell ⟨wo.heap.size + 1 + 1, 2, none⟩ (.int .i64 rl)).setCell ⟨wo.heap.size + 1 + 1, 3, none⟩ (.bool rd))) := Lib.hid ((below_trans HB6.out HB7.out).trans (HBU8.out.below (by omega)))
        have n0 := HRN8.out.cell (i := 0) rfl
        have n1 := HRN8.out.cell (i := 1) rfl
        have n2 := HRN8.out.cell (i := 2) rfl
        have n3 := HRN8.out.cell (i := 3) rfl
        have m0 := HRT8.out.cell (i := 0) rfl
        have m1 := HRT8.out.cell (i := 1) rfl
        have m2 := HRT8.out.cell (i := 2) rfl
        have m3 := HRT8.out.cell (i := 3) rfl
        have une : ((ke : Int) != (ke : Int)) = false := by simp
        have HLK := Lib.hid (like_any ((((w7.setCell ⟨wo.heap.size + 1 + 1, 0, none⟩ (.int .i64 rr)).setCell ⟨wo.heap.size + 1 + 1, 1, none⟩ (.slice a7 L5 c7)).setCell ⟨wo.heap.size + 1 + 1, 2, none⟩ (.int .i64 rl)).setCell ⟨wo.heap.size + 1 + 1, 3, none⟩ (.bool rd)) ⟨rr, rf, rl, rd⟩ a5 a7 c5 c7 (by simp only; rw [← HL5.out]; exact HSN8.out) (by simp only; rw [← HL5.out]; exact HST8.out))
        simp only at HLK
        rw [← HL5.out] at HLK
        go_wp2_with fail
        generalize hv : (((w7.setCell ⟨wo.heap.size + 1 + 1, 0, none⟩ (.int .i64 rr)).setCell ⟨wo.heap.size + 1 + 1, 1, none⟩ (.slice a7 L5 c7)).setCell ⟨wo.heap.size + 1 + 1, 2, none⟩ (.int .i64 rl)).setCell ⟨wo.heap.size + 1 + 1, 3, none⟩ (.bool rd) = w8 at *
        clear hv n0 n1 n2 n3 m0 m1 m2 m3 t0 t1 t2 t3 tt0 tt1 tt2 tt3
        refine HLK.out.mono ?_
        rintro e w9 ⟨rfl, hb9⟩
        have HRD9 := Lib.hid (HRD8.out.below hb9)
        have HSD9 := Lib.hid (HSD8.out.old hb9)
        have HRN9 := Lib.hid (HRN8.out.below hb9)
        have HSN9 := Lib.hid (HSN8.out.old hb9)
        have HB9 := Lib.hid (below_trans HBW.out (below_trans HB8.out hb9))
        clear hb9 HLK HRD8 HSD8 HRN8 HSN8 HB8 HRT8 HRC HRN HRT HRD2 HSD2 HB3 HSZ HRC0
        clear HS7 HB7 HRD7 HSD7 HRN7 HSN7 HRT7 HB6 HRD6 HSD6 HRN6 HS6 HRT6 HRC6
        by_cases k0 : ke = 0
        · subst k0
          have n0 := HRN9.out.cell (i := 0) rfl
          have n1 := HRN9.out.cell (i := 1) rfl
          have n2 := HRN9.out.cell (i := 2) rfl
          have n3 := HRN9.out.cell (i := 3) rfl
          have r0 := HRD9.out.cell (i := 0) rfl
          have r1 := HRD9.out.cell (i := 1) rfl
          have r2 := HRD9.out.cell (i := 2) rfl
          have r3 := HRD9.out.cell (i := 3) rfl
          have tr0 := HRD9.out.thaw 0
          have tr1 := HRD9.out.thaw 1
          have tr2 := HRD9.out.thaw 2
          have tr3 := HRD9.out.thaw 3
          have HBUT : Hid (But w.heap.size w9 ((((w9.setCell ⟨w.heap.size, 0, none⟩ (.int .i64 rr)).setCell ⟨w.heap.size, 1, none⟩ (.slice a5 L5 c5)).setCell ⟨w.heap.size, 2, none⟩ (.int .i64 rl)).setCell ⟨w.heap.size, 3, none⟩ (.bool rd))) := Lib.hid (put4_but _ _ _ _ _ _)
          have HRD10 : Hid (Row ((((w9.setCell ⟨w.heap.size, 0, none⟩ (.int .i64 rr)).setCell ⟨w.heap.size, 1, none⟩ (.slice a5 L5 c5)).setCell ⟨w.heap.size, 2, none⟩ (.int .i64 rl)).setCell ⟨w.heap.size, 3, none⟩ (.bool rd)) w.heap.size 24 [.int .i64 rr, .slice a5 L5 c5, .int .i64 rl, .bool rd]) := Lib.hid (put4_row HRD9.out _ _ _ _)
          have HSN10 := Lib.hid (slf_one HSN9.out HRD9.out HBUT.out)
          have HB10 := Lib.hid (HB9.out.trans (HBUT.out.below (Nat.le_refl _)))
          have HPS : Hid (PS w ⟨rr, rf, rl, rd⟩ a5 c5 ((((w9.setCell ⟨w.heap.size, 0, none⟩ (.int .i64 rr)).setCell ⟨w.heap.size, 1, none⟩ (.slice a5 L5 c5)).setCell ⟨w.heap.size, 2, none⟩ (.int .i64 rl)).setCell ⟨w.heap.size, 3, none⟩ (.bool rd))) := Lib.hid ⟨HB10.out, HGN.out, by simp only; rw [← HL5.out]; exact HRD10.out, by simp only; rw [← HL5.out]; exact HSN10.out⟩
          have z0 := HRD10.out.cell (i := 0) rfl
          have z1 := HRD10.out.cell (i := 1) rfl
          have z2 := HRD10.out.cell (i := 2) rfl
          have z3 := HRD10.out.cell (i := 3) rfl
          go_wp2_with fail
          generalize hv : (((w9.setCell ⟨w.heap.size, 0, none⟩ (.int .i64 rr)).setCell ⟨w.heap.size, 1, none⟩ (.slice a5 L5 c5)).setCell ⟨w.heap.size, 2, none⟩ (.int .i64 rl)).setCell ⟨w.heap.size, 3, none⟩ (.bool rd) = v10 at *
          clear hv n0 n1 n2 n3 r0 r1 r2 r3 tr0 tr1 tr2 tr3 z0 z1 z2 z3
          have HC := right_any v10 ⟨rr, rf, rl, rd⟩ a5 c5 ⟨HPS.out.fs, HPS.out.rgt.fits⟩
          simp only at HC
          rw [← HL5.out] at HC
          refine HC.mono ?_
          clear HC
          rintro e w11 ⟨q, rfl, hq, hb11⟩
          obtain rfl : q = true := hq.2 HPS.out.rgt
          have HPS2 := Lib.hid (HPS.out.below hb11)
          clear hq hb11
          go_wp2
          go_roundw
          case rel => exact ⟨k + 1, _, _, _, by omega, by go_num, HPS2⟩
          case measure => simp [intOf]; omega
        have v0 : ((ke : Int) == 0) = false := by rw [beq_eq_false_iff_ne]; omega
        by_cases k1 : ke = 132
        · subst k1
          cases dn with
          | true =>
            have n0 := HRN9.out.cell (i := 0) rfl
            have n1 := HRN9.out.cell (i := 1) rfl
            have n2 := HRN9.out.cell (i := 2) rfl
            have n3 := HRN9.out.cell (i := 3) rfl
            have r0 := HRD9.out.cell (i := 0) rfl
            have r1 := HRD9.out.cell (i := 1) rfl
            have r2 := HRD9.out.cell (i := 2) rfl
            have r3 := HRD9.out.cell (i := 3) rfl
            go_wp2_with fail
            clear n0 n1 n2 n3 r0 r1 r2 r3
            have HC := right_any w9 ⟨rm, fs, lf, true⟩ aD cD ⟨by simp only; rw [← HL.out]; exact HSD9.out, HGD.out.fits⟩
            simp only at HC
            rw [← HL.out] at HC
            refine HC.mono ?_
            clear HC
            rintro e w11 ⟨q, rfl, hq, hb11⟩
            obtain rfl : q = true := hq.2 HGD.out
            have HPS : Hid (PS w ⟨rm, fs, lf, true⟩ aD cD w11) := Lib.hid ⟨below_trans HB9.out hb11, HGD.out, by simp only; rw [← HL.out]; exact HRD9.out.below hb11, by simp only; rw [← HL.out]; exact HSD9.out.old hb11⟩
            clear hq hb11
            go_wp2
            go_roundw
            case rel => exact ⟨k + 1, _, _, _, by omega, by go_num, HPS⟩
            case measure => simp [intOf]; omega
          | false =>
            have n0 := HRN9.out.cell (i := 0) rfl
            have n1 := HRN9.out.cell (i := 1) rfl
            have n2 := HRN9.out.cell (i := 2) rfl
            have n3 := HRN9.out.cell (i := 3) rfl
            have r0 := HRD9.out.cell (i := 0) rfl
            have r1 := HRD9.out.cell (i := 1) rfl
            have r2 := HRD9.out.cell (i := 2) rfl
            have r3 := HRD9.out.cell (i := 3) rfl
            have tr0 := HRD9.out.thaw 0
            have tr1 := HRD9.out.thaw 1
            have tr2 := HRD9.out.thaw 2
            have tr3 := HRD9.out.thaw 3
            have HBUT : Hid (But w.heap.size w9 ((((w9.setCell ⟨w.heap.size, 0, none⟩ (.int .i64 rr)).setCell ⟨w.heap.size, 1, none⟩ (.slice a5 L5 c5)).setCell ⟨w.heap.size, 2, none⟩ (.int .i64 rl)).setCell ⟨w.heap.size, 3, none⟩ (.bool rd))) := Lib.hid (put4_but _ _ _ _ _ _)
            have HRD10 : Hid (Row ((((w9.setCell ⟨w.heap.size, 0, none⟩ (.int .i64 rr)).setCell ⟨w.heap.size, 1, none⟩ (.slice a5 L5 c5)).setCell ⟨w.heap.size, 2, none⟩ (.int .i64 rl)).setCell ⟨w.heap.size, 3, none⟩ (.bool rd)) w.heap.size 24 [.int .i64 rr, .slice a5 L5 c5, .int .i64 rl, .bool rd]) := Lib.hid (put4_row HRD9.out _ _ _ _)
            have HSN10 := Lib.hid (slf_one HSN9.out HRD9.out HBUT.out)
            have HB10 := Lib.hid (HB9.out.trans (HBUT.out.below (Nat.le_refl _)))
            have HPS : Hid (PS w ⟨rr, rf, rl, rd⟩ a5 c5 ((((w9.setCell ⟨w.heap.size, 0, none⟩ (.int .i64 rr)).setCell ⟨w.heap.size, 1, none⟩ (.slice a5 L5 c5)).setCell ⟨w.heap.size, 2, none⟩ (.int .i64 rl)).setCell ⟨w.heap.size, 3, none⟩ (.bool rd))) := Lib.hid ⟨HB10.out, HGN.out, by simp only; rw [← HL5.out]; exact HRD10.out, by simp only; rw [← HL5.out]; exact HSN10.out⟩
            have z0 := HRD10.out.cell (i := 0) rfl
            have z1 := HRD10.out.cell (i := 1) rfl
            have z2 := HRD10.out.cell (i := 2) rfl
            have z3 := HRD10.out.cell (i := 3) rfl
            go_wp2_with fail
            generalize hv : (((w9.setCell ⟨w.heap.size, 0, none⟩ (.int .i64 rr)).setCell ⟨w.heap.size, 1, none⟩ (.slice a5 L5 c5)).setCell ⟨w.heap.size, 2, none⟩ (.int .i64 rl)).setCell ⟨w.heap.size, 3, none⟩ (.bool rd) = v10 at *
            clear hv n0 n1 n2 n3 r0 r1 r2 r3 tr0 tr1 tr2 tr3 z0 z1 z2 z3
            have HC := right_any v10 ⟨rr, rf, rl, rd⟩ a5 c5 ⟨HPS.out.fs, HPS.out.rgt.fits⟩
            simp only at HC
            rw [← HL5.out] at HC
            refine HC.mono ?_
            clear HC
            rintro e w11 ⟨q, rfl, hq, hb11⟩
            obtain rfl : q = true := hq.2 HPS.out.rgt
            have HPS2 := Lib.hid (HPS.out.below hb11)
            clear hq hb11
            go_wp2
            go_roundw
            case rel => exact ⟨k + 1, _, _, _, by omega, by go_num, HPS2⟩
            case measure => simp [intOf]; omega
        have v1 : ((ke : Int) == 132) = false := by rw [beq_eq_false_iff_ne]; omega
        clear k0 k1
        have n0 := HRN9.out.cell (i := 0) rfl
        have n1 := HRN9.out.cell (i := 1) rfl
        have n2 := HRN9.out.cell (i := 2) rfl
        have n3 := HRN9.out.cell (i := 3) rfl
        have r0 := HRD9.out.cell (i := 0) rfl
        have r1 := HRD9.out.cell (i := 1) rfl
        have r2 := HRD9.out.cell (i := 2) rfl
        have r3 := HRD9.out.cell (i := 3) rfl
        go_wp2_with fail
        clear n0 n1 n2 n3 r0 r1 r2 r3
        have HC := right_any w9 ⟨rm, fs, lf, dn⟩ aD cD ⟨by simp only; rw [← HL.out]; exact HSD9.out, HGD.out.fits⟩
        simp only at HC
        rw [← HL.out] at HC
        refine HC.mono ?_
        clear HC
        rintro e w11 ⟨q, rfl, hq, hb11⟩
        obtain rfl : q = true := hq.2 HGD.out
        have HPS : Hid (PS w ⟨rm, fs, lf, dn⟩ aD cD w11) := Lib.hid ⟨below_trans HB9.out hb11, HGD.out, by simp only; rw [← HL.out]; exact HRD9.out.below hb11, by simp only; rw [← HL.out]; exact HSD9.out.old hb11⟩
        clear hq hb11
        go_wp2
        go_roundw
        case rel => exact ⟨k + 1, _, _, _, by omega, by go_num, HPS⟩
        case measure => simp [intOf]; omega
      · skip
        obtain ⟨W2, HW2⟩ : ∃ W, Hid (W = ((wo.alloc (.cells #[.int .i64 2, .string n, .string m, .int .i64 kk] 26)).alloc (.cells #[.int .i64 0, .slice none 0 0, .int .i64 0, .bool false] 24)).alloc (.cells #[.int .i64 0, .slice none 0 0, .int .i64 0, .bool false] 24)) := ⟨_, Lib.hid rfl⟩
        have HB3 : Hid (Below wo.heap.size wo W2) := Lib.hid (by rw [HW2.out]; exact below3 _ _ _ _)
        have HSZ : Hid (W2.heap.size = wo.heap.size + 3) := Lib.hid (by rw [HW2.out]; simp)
        have HRC : Hid (Row W2 wo.heap.size 26 [.int .i64 2, .string n, .string m, .int .i64 kk]) := Lib.hid (by rw [HW2.out]; exact ((row_new wo #[.int .i64 2, .string n, .string m, .int .i64 kk] _).alloc _).alloc _)
        have HRN : Hid (Row W2 (wo.heap.size + 1) 24 [.int .i64 0, .slice none 0 0, .int .i64 0, .bool false]) := Lib.hid (by
          rw [HW2.out]
          have h := row_new (wo.alloc (.cells #[.int .i64 2, .string n, .string m, .int .i64 kk] 26)) #[.int .i64 0, .slice none 0 0, .int .i64 0, .bool false] 24
          simp only [World.size_alloc] at h
          exact h.alloc _)
        have HRT : Hid (Row W2 (wo.heap.size + 1 + 1) 24 [.int .i64 0, .slice none 0 0, .int .i64 0, .bool false]) := Lib.hid (by
          rw [HW2.out]
          have h := row_new ((wo.alloc (.cells #[.int .i64 2, .string n, .string m, .int .i64 kk] 26)).alloc (.cells #[.int .i64 0, .slice none 0 0, .int .i64 0, .bool false] 24)) #[.int .i64 0, .slice none 0 0, .int .i64 0, .bool false] 24
          simp only [World.size_alloc] at h
          exact h)
        have HRD2 := Lib.hid (HRD.out.below HB3.out)
        have HSD2 := Lib.hid (HSD.out.old HB3.out)
        have HDL : Hid (w.heap.size < wo.heap.size) := Lib.hid HRD.out.lt
        have r0 := HRD2.out.cell (i := 0) rfl
        have r1 := HRD2.out.cell (i := 1) rfl
        have r2 := HRD2.out.cell (i := 2) rfl
        have r3 := HRD2.out.cell (i := 3) rfl
        have y0 := HRC.out.cell (i := 0) rfl
        have y1 := HRC.out.cell (i := 1) rfl
        have y2 := HRC.out.cell (i := 2) rfl
        have y3 := HRC.out.cell (i := 3) rfl
        rw [HW2.out] at r0 r1 r2 r3 y0 y1 y2 y3
        go_wp2_with fail
        rw [← HW2.out]
        clear r0 r1 r2 r3 y0 y1 y2 y3 c0 c1 c2 c3 x0 x1 x2 x3 HW2
        have HC := call_any W2 ⟨rm, fs, lf, dn⟩ aD cD ⟨2, n, m, kk⟩ ⟨by simp only; rw [← HL.out]; exact HSD2.out, HGD.out.fits⟩ HFX.out
        have HGN0 : Hid (RgtD (callF 2 ⟨rm, fs, lf, dn⟩ n m).1) := Lib.hid call_right
        simp only at HC
        rw [← HL.out] at HC
        obtain ⟨r, HRS⟩ : ∃ r, Hid (r = callF 2 ⟨rm, fs, lf, dn⟩ n m) := ⟨_, Lib.hid rfl⟩
        rw [← HRS.out] at HC HGN0
        refine HC.mono ?_
        clear HC
        rintro e w5 ⟨a5, c5, rfl, hs5, hb5⟩
        obtain ⟨⟨rr, rf, rl, rd⟩, ke⟩ := r
        have HGN : Hid (RgtD ⟨rr, rf, rl, rd⟩) := HGN0
        clear HGN0
        simp only at hs5 ⊢
        obtain ⟨L5, HL5⟩ : ∃ L, Hid (L = rf.length) := ⟨_, Lib.hid rfl⟩
        rw [← HL5.out] at hs5 ⊢
        have HS5 := Lib.hid hs5
        have HB5 := Lib.hid hb5
        clear hs5 hb5
        have HRD5 := Lib.hid (HRD2.out.below HB5.out)
        have HSD5 := Lib.hid (HSD2.out.old HB5.out)
        have HRC5 := Lib.hid (HRC.out.below HB5.out)
        have HRN5 := Lib.hid (HRN.out.below HB5.out)
        have HRT5 := Lib.hid (HRT.out.below HB5.out)
        have n0 := HRN5.out.cell (i := 0) rfl
        have n1 := HRN5.out.cell (i := 1) rfl
        have n2 := HRN5.out.cell (i := 2) rfl
        have n3 := HRN5.out.cell (i := 3) rfl
        have tn0 := HRN5.out.thaw 0
        have tn1 := HRN5.out.thaw 1
        have tn2 := HRN5.out.thaw 2
        have tn3 := HRN5.out.thaw 3
        have HBU6 : Hid (But (wo.heap.size + 1) w5 ((((w5.setCell ⟨wo.heap.size + 1, 0, none⟩ (.int .i64 rr)).setCell ⟨wo.heap.size + 1, 1, none⟩ (.slice a5 L5 c5)).setCell ⟨wo.heap.size + 1, 2, none⟩ (.int .i64 rl)).setCell ⟨wo.heap.size + 1, 3, none⟩ (.bool rd))) := Lib.hid (put4_but _ _ _ _ _ _)
        have HRN6 : Hid (Row ((((w5.setCell ⟨wo.heap.size + 1, 0, none⟩ (.int .i64 rr)).setCell ⟨wo.heap.size + 1, 1, none⟩ (.slice a5 L5 c5)).setCell ⟨wo.heap.size + 1, 2, none⟩ (.int .i64 rl)).setCell ⟨wo.heap.size + 1, 3, none⟩ (.bool rd)) (wo.heap.size + 1) 24 [.int .i64 rr, .slice a5 L5 c5, .int .i64 rl, .bool rd]) := Lib.hid (put4_row HRN5.out _ _ _ _)
        have HRD6 := Lib.hid (HBU6.out.row HRD5.out (by have := HDL.out; omega))
        have HRC6 := Lib.hid (HBU6.out.row HRC5.out (by omega))
        have HRT6 := Lib.hid (HBU6.out.row HRT5.out (by omega))
        have HS6 := Lib.hid (slf_one HS5.out HRN5.out HBU6.out)
        have HSD6 := Lib.hid (slf_one HSD5.out HRN5.out HBU6.out)
        have HB6 : Hid (Below wo.heap.size wo ((((w5.setCell ⟨wo.heap.size + 1, 0, none⟩ (.int .i64 rr)).setCell ⟨wo.heap.size + 1, 1, none⟩ (.slice a5 L5 c5)).setCell ⟨wo.heap.size + 1, 2, none⟩ (.int .i64 rl)).setCell ⟨wo.heap.size + 1, 3, none⟩ (.bool rd))) := Lib.hid ((below_trans HB3.out HB5.out).trans (HBU6.out.below (by omega)))
        have r0 := HRD6.out.cell (i := 0) rfl
        have r1 := HRD6.out.cell (i := 1) rfl
        have r2 := HRD6.out.cell (i := 2) rfl
        have r3 := HRD6.out.cell (i := 3) rfl
        have y0 := HRC6.out.cell (i := 0) rfl
        have y1 := HRC6.out.cell (i := 1) rfl
        have y2 := HRC6.out.cell (i := 2) rfl
        go_wp2_with fail
        generalize hv : (((w5.setCell ⟨wo.heap.size + 1, 0, none⟩ (.int .i64 rr)).setCell ⟨wo.heap.size + 1, 1, none⟩ (.slice a5 L5 c5)).setCell ⟨wo.heap.size + 1, 2, none⟩ (.int .i64 rl)).setCell ⟨wo.heap.size + 1, 3, none⟩ (.bool rd) = w6 at *
        clear hv n0 n1 n2 n3 tn0 tn1 tn2 tn3 r0 r1 r2 r3 y0 y1 y2 HRD5 HSD5 HRC5 HRN5 HRT5 HS5 HB5
        have HC := rcall_any w6 ⟨rm, fs, lf, dn⟩ aD cD 2 n m ⟨by simp only; rw [← HL.out]; exact HSD6.out, HGD.out.fits⟩ HFX.out.n HFX.out.m (by omega) (by omega)
        rw [← HRS.out] at HC
        simp only at HC
        rw [← HL.out] at HC
        refine HC.mono ?_
        clear HC
        rintro e w7 ⟨a7, c7, rfl, hs7, hb7⟩
        simp only at hs7 ⊢
        rw [← HL5.out] at hs7 ⊢
        have HS7 := Lib.hid hs7
        have HB7 := Lib.hid hb7
        clear hs7 hb7
        have HRD7 := Lib.hid (HRD6.out.below HB7.out)
        have HSD7 := Lib.hid (HSD6.out.old HB7.out)
        have HRN7 := Lib.hid (HRN6.out.below HB7.out)
        have HSN7 := Lib.hid (HS6.out.old HB7.out)
        have HRT7 := Lib.hid (HRT6.out.below HB7.out)
        have t0 := HRT7.out.cell (i := 0) rfl
        have t1 := HRT7.out.cell (i := 1) rfl
        have t2 := HRT7.out.cell (i := 2) rfl
        have t3 := HRT7.out.cell (i := 3) rfl
        have tt0 := HRT7.out.thaw 0
        have tt1 := HRT7.out.thaw 1
        have tt2 := HRT7.out.thaw 2
        have tt3 := HRT7.out.thaw 3
        have HBU8 : Hid (But (wo.heap.size + 1 + 1) w7 ((((w7.setCell ⟨wo.heap.size + 1 + 1, 0, none⟩ (.int .i64 rr)).setCell ⟨wo.heap.size + 1 + 1, 1, none⟩ (.slice a7 L5 c7)).setCell ⟨wo.heap.size + 1 + 1, 2, none⟩ (.int .i64 rl)).setCell ⟨wo.heap.size + 1 + 1, 3, none⟩ (.bool rd))) := Lib.hid (put4_but _ _ _ _ _ _)
        have HRT8 : Hid (Row ((((w7.setCell ⟨wo.heap.size + 1 + 1, 0, none⟩ (.int .i64 rr)).setCell ⟨wo.heap.size + 1 + 1, 1, none⟩ (.slice a7 L5 c7)).setCell ⟨wo.heap.size + 1 + 1, 2, none⟩ (.int .i64 rl)).setCell ⟨wo.heap.size + 1 + 1, 3, none⟩ (.bool rd)) (wo.heap.size + 1 + 1) 24 [.int .i64 rr, .slice a7 L5 c7, .int .i64 rl, .bool rd]) := Lib.hid (put4_row HRT7.out _ _ _ _)
        have HRD8 := Lib.hid (HBU8.out.row HRD7.out (by have := HDL.out; omega))
        have HRN8 := Lib.hid (HBU8.out.row HRN7.out (by omega))
        have HSN8 := Lib.hid (slf_one HSN7.out HRT7.out HBU8.out)
        have HST8 := Lib.hid (slf_one HS7.out HRT7.out HBU8.out)
        have HSD8 := Lib.hid (slf_one HSD7.out HRT7.out HBU8.out)
        have HB8 : Hid (Below wo.heap.size wo ((((w7.setCell ⟨wo.heap.size + 1 + 1, 0, none⟩ (.int .i64 rr)).setCell ⟨wo.heap.size + 1 + 1, 1, none⟩ (.slice a7 L5 c7)).setCell ⟨wo.heap.size + 1 + 1, 2, none⟩ (.int .i64 rl)).setCell ⟨wo.heap.size + 1 + 1, 3, none⟩ (.bool rd))) := Lib.hid ((below_trans HB6.out HB7.out).trans (HBU8.out.below (by omega)))
        have n0 := HRN8.out.cell (i := 0) rfl
        have n1 := HRN8.out.cell (i := 1) rfl
        have n2 := HRN8.out.cell (i := 2) rfl
        have n3 := HRN8.out.cell (i := 3) rfl
        have m0 := HRT8.out.cell (i := 0) rfl
        have m1 := HRT8.out.cell (i := 1) rfl
        have m2 := HRT8.out.cell (i := 2) rfl
        have m3 := HRT8.out.cell (i := 3) rfl
        have une : ((ke : Int) != (ke : Int)) = false := by simp
        have HLK := Lib.hid (like_any ((((w7.setCell ⟨wo.heap.size + 1 + 1, 0, none⟩ (.int .i64 rr)).setCell ⟨wo.heap.size + 1 + 1, 1, none⟩ (.slice a7 L5 c7)).setCell ⟨wo.heap.size + 1 + 1, 2, none⟩ (.int .i64 rl)).setCell ⟨wo.heap.size + 1 + 1, 3, none⟩ (.bool rd)) ⟨rr, rf, rl, rd⟩ a5 a7 c5 c7 (by simp only; rw [← HL5.out]; exact HSN8.out) (by simp only; rw [← HL5.out]; exact HST8.out))
        simp only at HLK
        rw [← HL5.out] at HLK
        go_wp2_with fail
        generalize hv : (((w7.setCell ⟨wo.heap.size + 1 + 1, 0, none⟩ (.int .i64 rr)).setCell ⟨wo.heap.size + 1 + 1, 1, none⟩ (.slice a7 L5 c7)).setCell ⟨wo.heap.size + 1 + 1, 2, none⟩ (.int .i64 rl)).setCell ⟨wo.heap.size + 1 + 1, 3, none⟩ (.bool rd) = w8 at *
        clear hv n0 n1 n2 n3 m0 m1 m2 m3 t0 t1 t2 t3 tt0 tt1 tt2 tt3
        refine HLK.out.mono ?_
        rintro e w9 ⟨rfl, hb9⟩
        have HRD9 := Lib.hid (HRD8.out.below hb9)
        have HSD9 := Lib.hid (HSD8.out.old hb9)
        have HRN9 := Lib.hid (HRN8.out.below hb9)
        have HSN9 := Lib.hid (HSN8.out.old hb9)
        have HB9 := Lib.hid (below_trans HBW.out (below_trans HB8.out hb9))
        clear hb9 HLK HRD8 HSD8 HRN8 HSN8 HB8 HRT8 HRC HRN HRT HRD2 HSD2 HB3 HSZ HRC0
        clear HS7 HB7 HRD7 HSD7 HRN7 HSN7 HRT7 HB6 HRD6 HSD6 HRN6 HS6 HRT6 HRC6
        by_cases k0 : ke = 0
        · subst k0
          have n0 := HRN9.out.cell (i := 0) rfl
          have n1 := HRN9.out.cell (i := 1) rfl
          have n2 := HRN9.out.cell (i := 2) rfl
          have n3 := HRN9.out.cell (i := 3) rfl
          have r0 := HRD9.out.cell (i := 0) rfl
          have r1 := HRD9.out.cell (i := 1) rfl
          have r2 := HRD9.out.cell (i := 2) rfl
          have r3 := HRD9.out.cell (i := 3) rfl
          have tr0 := HRD9.out.thaw 0
          have tr1 := HRD9.out.thaw 1
          have tr2 := HRD9.out.thaw 2
          have tr3 := HRD9.out.thaw 3
          have HBUT : Hid (But w.heap.size w9 ((((w9.setCell ⟨w.heap.size, 0, none⟩ (.int .i64 rr)).setCell ⟨w.heap.size, 1, none⟩ (.slice a5 L5 c5)).setCell ⟨w.heap.size, 2, none⟩ (.int .i64 rl)).setCell ⟨w.heap.size, 3, none⟩ (.bool rd))) := Lib.hid (put4_but _ _ _ _ _ _)
          have HRD10 : Hid (Row ((((w9.setCell ⟨w.heap.size, 0, none⟩ (.int .i64 rr)).setCell ⟨w.heap.size, 1, none⟩ (.slice a5 L5 c5)).setCell ⟨w.heap.size, 2, none⟩ (.int .i64 rl)).setCell ⟨w.heap.size, 3, none⟩ (.bool rd)) w.heap.size 24 [.int .i64 rr, .slice a5 L5 c5, .int .i64 rl, .bool rd]) := Lib.hid (put4_row HRD9.out _ _ _ _)
          have HSN10 := Lib.hid (slf_one HSN9.out HRD9.out HBUT.out)
          have HB10 := Lib.hid (HB9.out.trans (HBUT.out.below (Nat.le_refl _)))
          have HPS : Hid (PS w ⟨rr, rf, rl, rd⟩ a5 c5 ((((w9.setCell ⟨w.heap.size, 0, none⟩ (.int .i64 rr)).setCell ⟨w.heap.size, 1, none⟩ (.slice a5 L5 c5)).setCell ⟨w.heap.size, 2, none⟩ (.int .i64 rl)).setCell ⟨w.heap.size, 3, none⟩ (.bool rd))) := Lib.hid ⟨HB10.out, HGN.out, by simp only; rw [← HL5.out]; exact HRD10.out, by simp only; rw [← HL5.out]; exact HSN10.out⟩
          have z0 := HRD10.out.cell (i := 0) rfl
          have z1 := HRD10.out.cell (i := 1) rfl
          have z2 := HRD10.out.cell (i := 2) rfl
          have z3 := HRD10.out.cell (i := 3) rfl
          go_wp2_with fail
          generalize hv : (((w9.setCell ⟨w.heap.size, 0, none⟩ (.int .i64 rr)).setCell ⟨w.heap.size, 1, none⟩ (.slice a5 L5 c5)).setCell ⟨w.heap.size, 2, none⟩ (.int .i64 rl)).setCell ⟨w.heap.size, 3, none⟩ (.bool rd) = v10 at *
          clear hv n0 n1 n2 n3 r0 r1 r2 r3 tr0 tr1 tr2 tr3 z0 z1 z2 z3
          have HC := right_any v10 ⟨rr, rf, rl, rd⟩ a5 c5 ⟨HPS.out.fs, HPS.out.rgt.fits⟩
          simp only at HC
          rw [← HL5.out] at HC
          refine HC.mono ?_
          clear HC
          rintro e w11 ⟨q, rfl, hq, hb11⟩
          obtain rfl : q = true := hq.2 HPS.out.rgt
          have HPS2 := Lib.hid (HPS.out.below hb11)
          clear hq hb11
          go_wp2
          go_roundw
          case rel => exact ⟨k + 1, _, _, _, by omega, by go_num, HPS2⟩
          case measure => simp [intOf]; omega
        have v0 : ((ke : Int) == 0) = false := by rw [beq_eq_false_iff_ne]; omega
        by_cases k1 : ke = 132
        · subst k1
          cases dn with
          | true =>
            have n0 := HRN9.out.cell (i := 0) rfl
            have n1 := HRN9.out.cell (i := 1) rfl
            have n2 := HRN9.out.cell (i := 2) rfl
            have n3 := HRN9.out.cell (i := 3) rfl
            have r0 := HRD9.out.cell (i := 0) rfl
            have r1 := HRD9.out.cell (i := 1) rfl
            have r2 := HRD9.out.cell (i := 2) rfl
            have r3 := HRD9.out.cell (i := 3) rfl
            go_wp2_with fail
            clear n0 n1 n2 n3 r0 r1 r2 r3
            have HC := right_any w9 ⟨rm, fs, lf, true⟩ aD cD ⟨by simp only; rw [← HL.out]; exact HSD9.out, HGD.out.fits⟩
            simp only at HC
            rw [← HL.out] at HC
            refine HC.mono ?_
            clear HC
            rintro e w11 ⟨q, rfl, hq, hb11⟩
            obtain rfl : q = true := hq.2 HGD.out
            have HPS : Hid (PS w ⟨rm, fs, lf, true⟩ aD cD w11) := Lib.hid ⟨below_trans HB9.out hb11, HGD.out, by simp only; rw [← HL.out]; exact HRD9.out.below hb11, by simp only; rw [← HL.out]; exact HSD9.out.old hb11⟩
            clear hq hb11
            go_wp2
            go_roundw
            case rel => exact ⟨k + 1, _, _, _, by omega, by go_num, HPS⟩
            case measure => simp [intOf]; omega
          | false =>
            have n0 := HRN9.out.cell (i := 0) rfl
            have n1 := HRN9.out.cell (i := 1) rfl
            have n2 := HRN9.out.cell (i := 2) rfl
            have n3 := HRN9.out.cell (i := 3) rfl
            have r0 := HRD9.out.cell (i := 0) rfl
            have r1 := HRD9.out.cell (i := 1) rfl
            have r2 := HRD9.out.cell (i := 2) rfl
            have r3 := HRD9.out.cell (i := 3) rfl
            have tr0 := HRD9.out.thaw 0
            have tr1 := HRD9.out.thaw 1
            have tr2 := HRD9.out.thaw 2
            have tr3 := HRD9.out.thaw 3
            have HBUT : Hid (But w.heap.size w9 ((((w9.setCell ⟨w.heap.size, 0, none⟩ (.int .i64 rr)).setCell ⟨w.heap.size, 1, none⟩ (.slice a5 L5 c5)).setCell ⟨w.heap.size, 2, none⟩ (.int .i64 rl)).setCell ⟨w.heap.size, 3, none⟩ (.bool rd))) := Lib.hid (put4_but _ _ _ _ _ _)
            have HRD10 : Hid (Row ((((w9.setCell ⟨w.heap.size, 0, none⟩ (.int .i64 rr)).setCell ⟨w.heap.size, 1, none⟩ (.slice a5 L5 c5)).setCell ⟨w.heap.size, 2, none⟩ (.int .i64 rl)).setCell ⟨w.heap.size, 3, none⟩ (.bool rd)) w.heap.size 24 [.int .i64 rr, .slice a5 L5 c5, .int .i64 rl, .bool rd]) := Lib.hid (put4_row HRD9.out _ _ _ _)
            have HSN10 := Lib.hid (slf_one HSN9.out HRD9.out HBUT.out)
            have HB10 := Lib.hid (HB9.out.trans (HBUT.out.below (Nat.le_refl _)))
            have HPS : Hid (PS w ⟨rr, rf, rl, rd⟩ a5 c5 ((((w9.setCell ⟨w.heap.size, 0, none⟩ (.int .i64 rr)).setCell ⟨w.heap.size, 1, none⟩ (.slice a5 L5 c5)).setCell ⟨w.heap.size, 2, none⟩ (.int .i64 rl)).setCell ⟨w.heap.size, 3, none⟩ (.bool rd))) := Lib.hid ⟨HB10.out, HGN.out, by simp only; rw [← HL5.out]; exact HRD10.out, by simp only; rw [← HL5.out]; exact HSN10.out⟩
            have z0 := HRD10.out.cell (i := 0) rfl
            have z1 := HRD10.out.cell (i := 1) rfl
            have z2 := HRD10.out.cell (i := 2) rfl
            have z3 := HRD10.out.cell (i := 3) rfl
            go_wp2_with fail
            generalize hv : (((w9.setCell ⟨w.heap.size, 0, none⟩ (.int .i64 rr)).setCell ⟨w.heap.size, 1, none⟩ (.slice a5 L5 c5)).setCell ⟨w.heap.size, 2, none⟩ (.int .i64 rl)).setCell ⟨w.heap.size, 3, none⟩ (.bool rd) = v10 at *
            clear hv n0 n1 n2 n3 r0 r1 r2 r3 tr0 tr1 tr2 tr3 z0 z1 z2 z3
            have HC := right_any v10 ⟨rr, rf, rl, rd⟩ a5 c5 ⟨HPS.out.fs, HPS.out.rgt.fits⟩
            simp only at HC
            rw [← HL5.out] at HC
            refine HC.mono ?_
            clear HC
            rintro e w11 ⟨q, rfl, hq, hb11⟩
            obtain rfl : q = true := hq.2 HPS.out.rgt
            have HPS2 := Lib.hid (HPS.out.below hb11)
            clear hq hb11
            go_wp2
            go_roundw
            case rel => exact ⟨k + 1, _, _, _, by omega, by go_num, HPS2⟩
            case measure => simp [intOf]; omega
        have v1 : ((ke : Int) == 132) = false := by rw [beq_eq_false_iff_ne]; omega
        clear k0 k1
        have n0 := HRN9.out.cell (i := 0) rfl
        have n1 := HRN9.out.cell (i := 1) rfl
        have n2 := HRN9.out.cell (i := 2) rfl
        have n3 := HRN9.out.cell (i := 3) rfl
        have r0 := HRD9.out.cell (i := 0) rfl
        have r1 := HRD9.out.cell (i := 1) rfl
        have r2 := HRD9.out.cell (i := 2) rfl
        have r3 := HRD9.out.cell (i := 3) rfl
        go_wp2_with fail
        clear n0 n1 n2 n3 r0 r1 r2 r3
        have HC := right_any w9 ⟨rm, fs, lf, dn⟩ aD cD ⟨by simp only; rw [← HL.out]; exact HSD9.out, HGD.out.fits⟩
        simp only at HC
        rw [← HL.out] at HC
        refine HC.mono ?_
        clear HC
        rintro e w11 ⟨q, rfl, hq, hb11⟩
        obtain rfl : q = true := hq.2 HGD.out
        have HPS : Hid (PS w ⟨rm, fs, lf, dn⟩ aD cD w11) := Lib.hid ⟨below_trans HB9.out hb11, HGD.out, by simp only; rw [← HL.out]; exact HRD9.out.below hb11, by simp only; rw [← HL.out]; exact HSD9.out.old hb11⟩
        clear hq hb11
        go_wp2
        go_roundw
        case rel => exact ⟨k + 1, _, _, _, by omega, by go_num, HPS⟩
        case measure => simp [intOf]; omega
      · skip
        obtain ⟨W2, HW2⟩ : ∃ W, Hid (W = ((wo.alloc (.cells #[.int .i64 3, .string n, .string m, .int .i64 kk] 26)).alloc (.cells #[.int .i64 0, .slice none 0 0, .int .i64 0, .bool false] 24)).alloc (.cells #[.int .i64 0, .slice none 0 0, .int .i64 0, .bool false] 24)) := ⟨_, Lib.hid rfl⟩
        have HB3 : Hid (Below wo.heap.size wo W2) := Lib.hid (by rw [HW2.out]; exact below3 _ _ _ _)
        have HSZ : Hid (W2.heap.size = wo.heap.size + 3) := Lib.hid (by rw [HW2.out]; simp)
        have HRC : Hid (Row W2 wo.heap.size 26 [.int .i64 3, .string n, .string m, .int .i64 kk]) := Lib.hid (by rw [HW2.out]; exact ((row_new wo #[.int .i64 3, .string n, .string m, .int .i64 kk] _).alloc _).alloc _)
        have HRN : Hid (Row W2 (wo.heap.size + 1) 24 [.int .i64 0, .slice none 0 0, .int .i64 0, .bool false]) := Lib.hid (by
          rw [HW2.out]
          have h := row_new (wo.alloc (.cells #[.int .i64 3, .string n, .string m, .int .i64 kk] 26)) #[.int .i64 0, .slice none 0 0, .int .i64 0, .bool false] 24
          simp only [World.size_alloc] at h
          exact h.alloc _)
        have HRT : Hid (Row W2 (wo.heap.size + 1 + 1) 24 [.int .i64 0, .slice none 0 0, .int .i64 0, .bool false]) := Lib.hid (by
          rw [HW2.out]
          have h := row_new ((wo.alloc (.cells #[.int .i64 3, .string n, .string m, .int .i64 kk] 26)).alloc (.cells #[.int .i64 0, .slice none 0 0, .int .i64 0, .bool false] 24)) #[.int .i64 0, .slice none 0 0, .int .i64 0, .bool false] 24
          simp only [World.size_alloc] at h
          exact h)
        have HRD2 := Lib.hid (HRD.out.below HB3.out)
        have HSD2 := Lib.hid (HSD.out.old HB3.out)
        have HDL : Hid (w.heap.size < wo.heap.size) := Lib.hid HRD.out.lt
        have r0 := HRD2.out.cell (i := 0) rfl
        have r1 := HRD2.out.cell (i := 1) rfl
        have r2 := HRD2.out.cell (i := 2) rfl
        have r3 := HRD2.out.cell (i := 3) rfl
        have y0 := HRC.out.cell (i := 0) rfl
        have y1 := HRC.out.cell (i := 1) rfl
        have y2 := HRC.out.cell (i := 2) rfl
        have y3 := HRC.out.cell (i := 3) rfl
        rw [HW2.out] at r0 r1 r2 r3 y0 y1 y2 y3
        go_wp2_with fail
        rw [← HW2.out]
        clear r0 r1 r2 r3 y0 y1 y2 y3 c0 c1 c2 c3 x0 x1 x2 x3 HW2
        have HC := call_any W2 ⟨rm, fs, lf, dn⟩ aD cD ⟨3, n, m, kk⟩ ⟨by simp only; rw [← HL.out]; exact HSD2.out, HGD.out.fits⟩ HFX.out
        have HGN0 : Hid (RgtD (callF 3 ⟨rm, fs, lf, dn⟩ n m).1) := Lib.hid call_right
        simp only at HC
        rw [← HL.out] at HC
        obtain ⟨r, HRS⟩ : ∃ r, Hid (r = callF 3 ⟨rm, fs, lf, dn⟩ n m) := ⟨_, Lib.hid rfl⟩
        rw [← HRS.out] at HC HGN0
        refine HC.mono ?_
        clear HC
        rintro e w5 ⟨a5, c5, rfl, hs5, hb5⟩
        obtain ⟨⟨rr, rf, rl, rd⟩, ke⟩ := r
        have HGN : Hid (RgtD ⟨rr, rf, rl, rd⟩) := HGN0
        clear HGN0
        simp only at hs5 ⊢
        obtain ⟨L5, HL5⟩ : ∃ L, Hid (L = rf.length) := ⟨_, Lib.hid rfl⟩
        rw [← HL5.out] at hs5 ⊢
        have HS5 := Lib.hid hs5
        have HB5 := Lib.hid hb5
        clear hs5 hb5
        have HRD5 := Lib.hid (HRD2.out.below HB5.out)
        have HSD5 := Lib.hid (HSD2.out.old HB5.out)
        have HRC5 := Lib.hid (HRC.out.below HB5.out)
        have HRN5 := Lib.hid (HRN.out.below HB5.out)
        have HRT5 := Lib.hid (HRT.out.below HB5.out)
        have n0 := HRN5.out.cell (i := 0) rfl
        have n1 := HRN5.out.cell (i := 1) rfl
        have n2 := HRN5.out.cell (i := 2) rfl
        have n3 := HRN5.out.cell (i := 3) rfl
        have tn0 := HRN5.out.thaw 0
        have tn1 := HRN5.out.thaw 1
        have tn2 := HRN5.out.thaw 2
        have tn3 := HRN5.out.thaw 3
        have HBU6 : Hid (But (wo.heap.size + 1) w5 ((((w5.setCell ⟨wo.heap.size + 1, 0, none⟩ (.int .i64 rr)).setCell ⟨wo.heap.size + 1, 1, none⟩ (.slice a5 L5 c5)).setCell ⟨wo.heap.size + 1, 2, none⟩ (.int .i64 rl)).setCell ⟨wo.heap.size + 1, 3, none⟩ (.bool rd))) := Lib.hid (put4_but _ _ _ _ _ _)
        have HRN6 : Hid (Row ((((w5.setCell ⟨wo.heap.size + 1, 0, none⟩ (.int .i64 rr)).setCell ⟨wo.heap.size + 1, 1, none⟩ (.slice a5 L5 c5)).setCell ⟨wo.heap.size + 1, 2, none⟩ (.int .i64 rl)).setCell ⟨wo.heap.size + 1, 3, none⟩ (.bool rd)) (wo.heap.size + 1) 24 [.int .i64 rr, .slice a5 L5 c5, .int .i64 rl, .bool rd]) := Lib.hid (put4_row HRN5.out _ _ _ _)
        have HRD6 := Lib.hid (HBU6.out.row HRD5.out (by have := HDL.out; omega))
        have HRC6 := Lib.hid (HBU6.out.row HRC5.out (by omega))
        have HRT6 := Lib.hid (HBU6.out.row HRT5.out (by omega))
        have HS6 := Lib.hid (slf_one HS5.out HRN5.out HBU6.out)
        have HSD6 := Lib.hid (slf_one HSD5.out HRN5.out HBU6.out)
        have HB6 : Hid (Below wo.heap.size wo ((((w5.setCell ⟨wo.heap.size + 1, 0, none⟩ (.int .i64 rr)).setCell ⟨wo.heap.size + 1, 1, none⟩ (.slice a5 L5 c5)).setCell ⟨wo.heap.size + 1, 2, none⟩ (.int .i64 rl)).setCell ⟨wo.heap.size + 1, 3, none⟩ (.bool rd))) := Lib.hid ((below_trans HB3.out HB5.out).trans (HBU6.out.below (by omega)))
        have r0 := HRD6.out.cell (i := 0) rfl
        have r1 := HRD6.out.cell (i := 1) rfl
        have r2 := HRD6.out.cell (i := 2) rfl
        have r3 := HRD6.out.cell (i := 3) rfl
        have y0 := HRC6.out.cell (i := 0) rfl
        have y1 := HRC6.out.cell (i := 1) rfl
        have y2 := HRC6.out.cell (i := 2) rfl
        go_wp2_with fail
        generalize hv : (((w5.setCell ⟨wo.heap.size + 1, 0, none⟩ (.int .i64 rr)).setCell ⟨wo.heap.size + 1, 1, none⟩ (.slice a5 L5 c5)).setCell ⟨wo.heap.size + 1, 2, none⟩ (.int .i64 rl)).setCell ⟨wo.heap.size + 1, 3, none⟩ (.bool rd) = w6 at *
        clear hv n0 n1 n2 n3 tn0 tn1 tn2 tn3 r0 r1 r2 r3 y0 y1 y2 HRD5 HSD5 HRC5 HRN5 HRT5 HS5 HB5
        have HC := rcall_any w6 ⟨rm, fs, lf, dn⟩ aD cD 3 n m ⟨by simp only; rw [← HL.out]; exact HSD6.out, HGD.out.fits⟩ HFX.out.n HFX.out.m (by omega) (by omega)
        rw [← HRS.out] at HC
        simp only at HC
        rw [← HL.out] at HC
        refine HC.mono ?_
        clear HC
        rintro e w7 ⟨a7, c7, rfl, hs7, hb7⟩
        simp only at hs7 ⊢
        rw [← HL5.out] at hs7 ⊢
        have HS7 := Lib.hid hs7
        have HB7 := Lib.hid hb7
        clear hs7 hb7
        have HRD7 := Lib.hid (HRD6.out.below HB7.out)
        have HSD7 := Lib.hid (HSD6.out.old HB7.out)
        have HRN7 := Lib.hid (HRN6.out.below HB7.out)
        have HSN7 := Lib.hid (HS6.out.old HB7.out)
        have HRT7 := Lib.hid (HRT6.out.below HB7.out)
        have t0 := HRT7.out.cell (i := 0) rfl
        have t1 := HRT7.out.cell (i := 1) rfl
        have t2 := HRT7.out.cell (i := 2) rfl
        have t3 := HRT7.out.cell (i := 3) rfl
        have tt0 := HRT7.out.thaw 0
        have tt1 := HRT7.out.thaw 1
        have tt2 := HRT7.out.thaw 2
        have tt3 := HRT7.out.thaw 3
        have HBU8 : Hid (But (wo.heap.size + 1 + 1) w7 ((((w7.setCell ⟨wo.heap.size + 1 + 1, 0, none⟩ (.int .i64 rr)).setCell ⟨wo.heap.size + 1 + 1, 1, none⟩ (.slice a7 L5 c7)).setCell ⟨wo.heap.size + 1 + 1, 2, none⟩ (.int .i64 rl)).setCell ⟨wo.heap.size + 1 + 1, 3, none⟩ (.bool rd))) := Lib.hid (put4_but _ _ _ _ _ _)
        have HRT8 : Hid (Row ((((w7.setCell ⟨wo.heap.size + 1 + 1, 0, none⟩ (.int .i64 rr)).setCell ⟨wo.heap.size + 1 + 1, 1, none⟩ (.slice a7 L5 c7)).setCell ⟨wo.heap.size + 1 + 1, 2, none⟩ (.int .i64 rl)).setCell ⟨wo.heap.size + 1 + 1, 3, none⟩ (.bool rd)) (wo.heap.size + 1 + 1) 24 [.int .i64 rr, .slice a7 L5 c7, .int .i64 rl, .bool rd]) := Lib.hid (put4_row HRT7.out _ _ _ _)
        have HRD8 := Lib.hid (HBU8.out.row HRD7.out (by have := HDL.out; omega))
        have HRN8 := Lib.hid (HBU8.out.row HRN7.out (by omega))
        have HSN8 := Lib.hid (slf_one HSN7.out HRT7.out HBU8.out)
        have HST8 := Lib.hid (slf_one HS7.out HRT7.out HBU8.out)
        have HSD8 := Lib.hid (slf_one HSD7.out HRT7.out HBU8.out)
        have HB8 : Hid (Below wo.heap.size wo ((((w7.setCell ⟨wo.heap.size + 1 + 1, 0, none⟩ (.int .i64 rr)).setCell ⟨wo.heap.size + 1 + 1, 1, none⟩ (.slice a7 L5 c7)).setCell ⟨wo.heap.size + 1 + 1, 2, none⟩ (.int .i64 rl)).setCell ⟨wo.heap.size + 1 + 1, 3, none⟩ (.bool rd))) := Lib.hid ((below_trans HB6.out HB7.out).trans (HBU8.out.below (by omega)))
        have n0 := HRN8.out.cell (i := 0) rfl
        have n1 := HRN8.out.cell (i := 1) rfl
        have n2 := HRN8.out.cell (i := 2) rfl
        have n3 := HRN8.out.cell (i := 3) rfl
        have m0 := HRT8.out.cell (i := 0) rfl
        have m1 := HRT8.out.cell (i := 1) rfl
        have m2 := HRT8.out.cell (i := 2) rfl
        have m3 := HRT8.out.cell (i := 3) rfl
        have une : ((ke : Int) != (ke : Int)) = false := by simp
        have HLK := Lib.hid (like_any ((((w7.setCell ⟨wo.heap.size + 1 + 1, 0, none⟩ (.int .i64 rr)).setCell ⟨wo.heap.size + 1 + 1, 1, none⟩ (.slice a7 L5 c7)).setCell ⟨wo.heap.size + 1 + 1, 2, none⟩ (.int .i64 rl)).setCell ⟨wo.heap.size + 1 + 1, 3, none⟩ (.bool rd)) ⟨rr, rf, rl, rd⟩ a5 a7 c5 c7 (by simp only; rw [← HL5.out]; exact HSN8.out) (by simp only; rw [← HL5.out]; exact HST8.out))
        simp only at HLK
        rw [← HL5.out] at HLK
        go_wp2_with fail
        generalize hv : (((w7.setCell ⟨wo.heap.size + 1 + 1, 0, none⟩ (.int .i64 rr)).setCell ⟨wo.heap.size + 1 + 1, 1, none⟩ (.slice a7 L5 c7)).setCell ⟨wo.heap.size + 1 + 1, 2, none⟩ (.int .i64 rl)).setCell ⟨wo.heap.size + 1 + 1, 3, none⟩ (.bool rd) = w8 at *
        clear hv n0 n1 n2 n3 m0 m1 m2 m3 t0 t1 t2 t3 tt0 tt1 tt2 tt3
        refine HLK.out.mono ?_
        rintro e w9 ⟨rfl, hb9⟩
        have HRD9 := Lib.hid (HRD8.out.below hb9)
        have HSD9 := Lib.hid (HSD8.out.old hb9)
        have HRN9 := Lib.hid (HRN8.out.below hb9)
        have HSN9 := Lib.hid (HSN8.out.old hb9)
        have HB9 := Lib.hid (below_trans HBW.out (below_trans HB8.out hb9))
        clear hb9 HLK HRD8 HSD8 HRN8 HSN8 HB8 HRT8 HRC HRN HRT HRD2 HSD2 HB3 HSZ HRC0
        clear HS7 HB7 HRD7 HSD7 HRN7 HSN7 HRT7 HB6 HRD6 HSD6 HRN6 HS6 HRT6 HRC6
        by_cases k0 : ke = 0
        · subst k0
          have n0 := HRN9.out.cell (i := 0) rfl
          have n1 := HRN9.out.cell (i := 1) rfl
          have n2 := HRN9.out.cell (i := 2) rfl
          have n3 := HRN9.out.cell (i := 3) rfl
          have r0 := HRD9.out.cell (i := 0) rfl
          have r1 := HRD9.out.cell (i := 1) rfl
          have r2 := HRD9.out.cell (i := 2) rfl
          have r3 := HRD9.out.cell (i := 3) rfl
          have tr0 := HRD9.out.thaw 0
          have tr1 := HRD9.out.thaw 1
          have tr2 := HRD9.out.thaw 2
          have tr3 := HRD9.out.thaw 3
          have HBUT : Hid (But w.heap.size w9 ((((w9.setCell ⟨w.heap.size, 0, none⟩ (.int .i64 rr)).setCell ⟨w.heap.size, 1, none⟩ (.slice a5 L5 c5)).setCell ⟨w.heap.size, 2, none⟩ (.int .i64 rl)).setCell ⟨w.heap.size, 3, none⟩ (.bool rd))) := Lib.hid (put4_but _ _ _ _ _ _)
          have HRD10 : Hid (Row ((((w9.setCell ⟨w.heap.size, 0, none⟩ (.int .i64 rr)).setCell ⟨w.heap.size, 1, none⟩ (.slice a5 L5 c5)).setCell ⟨w.heap.size, 2, none⟩ (.int .i64 rl)).setCell ⟨w.heap.size, 3, none⟩ (.bool rd)) w.heap.size 24 [.int .i64 rr, .slice a5 L5 c5, .int .i64 rl, .bool rd]) := Lib.hid (put4_row HRD9.out _ _ _ _)
          have HSN10 := Lib.hid (slf_one HSN9.out HRD9.out HBUT.out)
          have HB10 := Lib.hid (HB9.out.trans (HBUT.out.below (Nat.le_refl _)))
          have HPS : Hid (PS w ⟨rr, rf, rl, rd⟩ a5 c5 ((((w9.setCell ⟨w.heap.size, 0, none⟩ (.int .i64 rr)).setCell ⟨w.heap.size, 1, none⟩ (.slice a5 L5 c5)).setCell ⟨w.heap.size, 2, none⟩ (.int .i64 rl)).setCell ⟨w.heap.size, 3, none⟩ (.bool rd))) := Lib.hid ⟨HB10.out, HGN.out, by simp only; rw [← HL5.out]; exact HRD10.out, by simp only; rw [← HL5.out]; exact HSN10.out⟩
          have z0 := HRD10.out.cell (i := 0) rfl
          have z1 := HRD10.out.cell (i := 1) rfl
          have z2 := HRD10.out.cell (i := 2) rfl
          have z3 := HRD10.out.cell (i := 3) rfl
          go_wp2_with fail
          generalize hv : (((w9.setCell ⟨w.heap.size, 0, none⟩ (.int .i64 rr)).setCell ⟨w.heap.size, 1, none⟩ (.slice a5 L5 c5)).setCell ⟨w.heap.size, 2, none⟩ (.int .i64 rl)).setCell ⟨w.heap.size, 3, none⟩ (.bool rd) = v10 at *
          clear hv n0 n1 n2 n3 r0 r1 r2 r3 tr0 tr1 tr2 tr3 z0 z1 z2 z3
          have HC := right_any v10 ⟨rr, rf, rl, rd⟩ a5 c5 ⟨HPS.out.fs, HPS.out.rgt.fits⟩
          simp only at HC
          rw [← HL5.out] at HC
          refine HC.mono ?_
          clear HC
          rintro e w11 ⟨q, rfl, hq, hb11⟩
          obtain rfl : q = true := hq.2 HPS.out.rgt
          have HPS2 := Lib.hid (HPS.out.below hb11)
          clear hq hb11
          go_wp2
          go_roundw
          case rel => exact ⟨k + 1, _, _, _, by omega, by go_num, HPS2⟩
          case measure => simp [intOf]; omega
        have v0 : ((ke : Int) == 0) = false := by rw [beq_eq_false_iff_ne]; omega
        by_cases k1 : ke = 132
        · subst k1
          cases dn with
          | true =>
            have n0 := HRN9.out.cell (i := 0) rfl
            have n1 := HRN9.out.cell (i := 1) rfl
            have n2 := HRN9.out.cell (i := 2) rfl
            have n3 := HRN9.out.cell (i := 3) rfl
            have r0 := HRD9.out.cell (i := 0) rfl
            have r1 := HRD9.out.cell (i := 1) rfl
            have r2 := HRD9.out.cell (i := 2) rfl
            have r3 := HRD9.out.cell (i := 3) rfl
            go_wp2_with fail
            clear n0 n1 n2 n3 r0 r1 r2 r3
            have HC := right_any w9 ⟨rm, fs, lf, true⟩ aD cD ⟨by simp only; rw [← HL.out]; exact HSD9.out, HGD.out.fits⟩
            simp only at HC
            rw [← HL.out] at HC
            refine HC.mono ?_
            clear HC
            rintro e w11 ⟨q, rfl, hq, hb11⟩
            obtain rfl : q = true := hq.2 HGD.out
            have HPS : Hid (PS w ⟨rm, fs, lf, true⟩ aD cD w11) := Lib.hid ⟨below_trans HB9.out hb11, HGD.out, by simp only; rw [← HL.out]; exact HRD9.out.below hb11, by simp only; rw [← HL.out]; exact HSD9.out.old hb11⟩
            clear hq hb11
            go_wp2
            go_roundw
            case rel => exact ⟨k + 1, _, _, _, by omega, by go_num, HPS⟩
            case measure => simp [intOf]; omega
          | false =>
            have n0 := HRN9.out.cell (i := 0) rfl
            have n1 := HRN9.out.cell (i := 1) rfl
            have n2 := HRN9.out.cell (i := 2) rfl
            have n3 := HRN9.out.cell (i := 3) rfl
            have r0 := HRD9.out.cell (i := 0) rfl
            have r1 := HRD9.out.cell (i := 1) rfl
            have r2 := HRD9.out.cell (i := 2) rfl
            have r3 := HRD9.out.cell (i := 3) rfl
            have tr0 := HRD9.out.thaw 0
            have tr1 := HRD9.out.thaw 1
            have tr2 := HRD9.out.thaw 2
            have tr3 := HRD9.out.thaw 3
            have HBUT : Hid (But w.heap.size w9 ((((w9.setCell ⟨w.heap.size, 0, none⟩ (.int .i64 rr)).setCell ⟨w.heap.size, 1, none⟩ (.slice a5 L5 c5)).setCell ⟨w.heap.size, 2, none⟩ (.int .i64 rl)).setCell ⟨w.heap.size, 3, none⟩ (.bool rd))) := Lib.hid (put4_but _ _ _ _ _ _)
            have HRD10 : Hid (Row ((((w9.setCell ⟨w.heap.size, 0, none⟩ (.int .i64 rr)).setCell ⟨w.heap.size, 1, none⟩ (.slice a5 L5 c5)).setCell ⟨w.heap.size, 2, none⟩ (.int .i64 rl)).setCell ⟨w.heap.size, 3, none⟩ (.bool rd)) w.heap.size 24 [.int .i64 rr, .slice a5 L5 c5, .int .i64 rl, .bool rd]) := Lib.hid (put4_row HRD9.out _ _ _ _)
            have HSN10 := Lib.hid (slf_one HSN9.out HRD9.out HBUT.out)
            have HB10 := Lib.hid (HB9.out.trans (HBUT.out.below (Nat.le_refl _)))
            have HPS : Hid (PS w ⟨rr, rf, rl, rd⟩ a5 c5 ((((w9.setCell ⟨w.heap.size, 0, none⟩ (.int .i64 rr)).setCell ⟨w.heap.size, 1, none⟩ (.slice a5 L5 c5)).setCell ⟨w.heap.size, 2, none⟩ (.int .i64 rl)).setCell ⟨w.heap.size, 3, none⟩ (.bool rd))) := Lib.hid ⟨HB10.out, HGN.out, by simp only; rw [← HL5.out]; exact HRD10.out, by simp only; rw [← HL5.out]; exact HSN10.out⟩
            have z0 := HRD10.out.cell (i := 0) rfl
            have z1 := HRD10.out.cell (i := 1) rfl
            have z2 := HRD10.out.cell (i := 2) rfl
            have z3 := HRD10.out.cell (i := 3) rfl
            go_wp2_with fail
            generalize hv : (((w9.setCell ⟨w.heap.size, 0, none⟩ (.int .i64 rr)).setCell ⟨w.heap.size, 1, none⟩ (.slice a5 L5 c5)).setCell ⟨w.heap.size, 2, none⟩ (.int .i64 rl)).setCell ⟨w.heap.size, 3, none⟩ (.bool rd) = v10 at *
            clear hv n0 n1 n2 n3 r0 r1 r2 r3 tr0 tr1 tr2 tr3 z0 z1 z2 z3
            have HC := right_any v10 ⟨rr, rf, rl, rd⟩ a5 c5 ⟨HPS.out.fs, HPS.out.rgt.fits⟩
            simp only at HC
            rw [← HL5.out] at HC
            refine HC.mono ?_
            clear HC
            rintro e w11 ⟨q, rfl, hq, hb11⟩
            obtain rfl : q = true := hq.2 HPS.out.rgt
            have HPS2 := Lib.hid (HPS.out.below hb11)
            clear hq hb11
            go_wp2
            go_roundw
            case rel => exact ⟨k + 1, _, _, _, by omega, by go_num, HPS2⟩
            case measure => simp [intOf]; omega
        have v1 : ((ke : Int) == 132) = false := by rw [beq_eq_false_iff_ne]; omega
        clear k0 k1
        have n0 := HRN9.out.cell (i := 0) rfl
        have n1 := HRN9.out.cell (i := 1) rfl
        have n2 := HRN9.out.cell (i := 2) rfl
        have n3 := HRN9.out.cell (i := 3) rfl
        have r0 := HRD9.out.cell (i := 0) rfl
        have r1 := HRD9.out.cell (i := 1) rfl
        have r2 := HRD9.out.cell (i := 2) rfl
        have r3 := HRD9.out.cell (i := 3) rfl
        go_wp2_with fail
        clear n0 n1 n2 n3 r0 r1 r2 r3
        have HC := right_any w9 ⟨rm, fs, lf, dn⟩ aD cD ⟨by simp only; rw [← HL.out]; exact HSD9.out, HGD.out.fits⟩
        simp only at HC
        rw [← HL.out] at HC
        refine HC.mono ?_
        clear HC
        rintro e w11 ⟨q, rfl, hq, hb11⟩
        obtain rfl : q = true := hq.2 HGD.out
        have HPS : Hid (PS w ⟨rm, fs, lf, dn⟩ aD cD w11) := Lib.hid ⟨below_trans HB9.out hb11, HGD.out, by simp only; rw [← HL.out]; exact HRD9.out.below hb11, by simp only; rw [← HL.out]; exact HSD9.out.old hb11⟩
        clear hq hb11
        go_wp2
        go_roundw
        case rel => exact ⟨k + 1, _, _, _, by omega, by go_num, HPS⟩
        case measure => simp [intOf]; omega
      · skip
        obtain ⟨W2, HW2⟩ : ∃ W, Hid (W = ((wo.alloc (.cells #[.int .i64 4, .string n, .string m, .int .i64 kk] 26)).alloc (.cells #[.int .i64 0, .slice none 0 0, .int .i64 0, .bool false] 24)).alloc (.cells #[.int .i64 0, .slice none 0 0, .int .i64 0, .bool false] 24)) := ⟨_, Lib.hid rfl⟩
        have HB3 : Hid (Below wo.heap.size wo W2) := Lib.hid (by rw [HW2.out]; exact below3 _ _ _ _)
        have HSZ : Hid (W2.heap.size = wo.heap.size + 3) := Lib.hid (by rw [HW2.out]; simp)
        have HRC : Hid (Row W2 wo.heap.size 26 [.int .i64 4, .string n, .string m, .int .i64 kk]) := Lib.hid (by rw [HW2.out]; exact ((row_new wo #[.int .i64 4, .string n, .string m, .int .i64 kk] _).alloc _).alloc _)
        have HRN : Hid (Row W2 (wo.heap.size + 1) 24 [.int .i64 0, .slice none 0 0, .int .i64 0, .bool false]) := Lib.hid (by
          rw [HW2.out]
          have h := row_new (wo.alloc (.cells #[.int .i64 4, .string n, .string m, .int .i64 kk] 26)) #[.int .i64 0, .slice none 0 0, .int .i64 0, .bool false] 24
          simp only [World.size_alloc] at h
          exact h.alloc _)
        have HRT : Hid (Row W2 (wo.heap.size + 1 + 1) 24 [.int .i64 0, .slice none 0 0, .int .i64 0, .bool false]) := Lib.hid (by
          rw [HW2.out]
          have h := row_new ((wo.alloc (.cells #[.int .i64 4, .string n, .string m, .int .i64 kk] 26)).alloc (.cells #[.int .i64 0, .slice none 0 0, .int .i64 0, .bool false] 24)) #[.int .i64 0, .slice none 0 0, .int .i64 0, .bool false] 24
          simp only [World.size_alloc] at h
          exact h)
        have HRD2 := Lib.hid (HRD.out.below HB3.out)
        have HSD2 := Lib.hid (HSD.out.old HB3.out)
        have HDL : Hid (w.heap.size < wo.heap.size) := Lib.hid HRD.out.lt
        have r0 := HRD2.out.cell (i := 0) rfl
        have r1 := HRD2.out.cell (i := 1) rfl
        have r2 := HRD2.out.cell (i := 2) rfl
        have r3 := HRD2.out.cell (i := 3) rfl
        have y0 := HRC.out.cell (i := 0) rfl
        have y1 := HRC.out.cell (i := 1) rfl
        have y2 := HRC.out.cell (i := 2) rfl
        have y3 := HRC.out.cell (i := 3) rfl
        rw [HW2.out] at r0 r1 r2 r3 y0 y1 y2 y3
        go_wp2_with fail
        rw [← HW2.out]
        clear r0 r1 r2 r3 y0 y1 y2 y3 c0 c1 c2 c3 x0 x1 x2 x3 HW2
        have HC := call_any W2 ⟨rm, fs, lf, dn⟩ aD cD ⟨4, n, m, kk⟩ ⟨by simp only; rw [← HL.out]; exact HSD2.out, HGD.out.fits⟩ HFX.out
        have HGN0 : Hid (RgtD (callF 4 ⟨rm, fs, lf, dn⟩ n m).1) := Lib.hid call_right
        simp only at HC
        rw [← HL.out] at HC
        obtain ⟨r, HRS⟩ : ∃ r, Hid (r = callF 4 ⟨rm, fs, lf, dn⟩ n m) := ⟨_, Lib.hid rfl⟩
        rw [← HRS.out] at HC HGN0
        refine HC.mono ?_
        clear HC
        rintro e w5 ⟨a5, c5, rfl, hs5, hb5⟩
        obtain ⟨⟨rr, rf, rl, rd⟩, ke⟩ := r
        have HGN : Hid (RgtD ⟨rr, rf, rl, rd⟩) := HGN0
        clear HGN0
        simp only at hs5 ⊢
        obtain ⟨L5, HL5⟩ : ∃ L, Hid (L = rf.length) := ⟨_, Lib.hid rfl⟩
        rw [← HL5.out] at hs5 ⊢
        have HS5 := Lib.hid hs5
        have HB5 := Lib.hid hb5
        clear hs5 hb5
        have HRD5 := Lib.hid (HRD2.out.below HB5.out)
        have HSD5 := Lib.hid (HSD2.out.old HB5.out)
        have HRC5 := Lib.hid (HRC.out.below HB5.out)
        have HRN5 := Lib.hid (HRN.out.below HB5.out)
        have HRT5 := Lib.hid (HRT.out.below HB5.out)
        have n0 := HRN5.out.cell (i := 0) rfl
        have n1 := HRN5.out.cell (i := 1) rfl
        have n2 := HRN5.out.cell (i := 2) rfl
        have n3 := HRN5.out.cell (i := 3) rfl
        have tn0 := HRN5.out.thaw 0
        have tn1 := HRN5.out.thaw 1
        have tn2 := HRN5.out.thaw 2
        have tn3 := HRN5.out.thaw 3
        have HBU6 : Hid (But (wo.heap.size + 1) w5 ((((w5.setCell ⟨wo.heap.size + 1, 0, none⟩ (.int .i64 rr)).setCell ⟨wo.heap.size + 1, 1, none⟩ (.slice a5 L5 c5)).setCell ⟨wo.heap.size + 1, 2, none⟩ (.int .i64 rl)).setCell ⟨wo.heap.size + 1, 3, none⟩ (.bool rd))) := Lib.hid (put4_but _ _ _ _ _ _)
        have HRN6 : Hid (Row ((((w5.setCell ⟨wo.heap.size + 1, 0, none⟩ (.int .i64 rr)).setCell ⟨wo.heap.size + 1, 1, none⟩ (.slice a5 L5 c5)).setCell ⟨wo.heap.size + 1, 2, none⟩ (.int .i64 rl)).setCell ⟨wo.heap.size + 1, 3, none⟩ (.bool rd)) (wo.heap.size + 1) 24 [.int .i64 rr, .slice a5 L5 c5, .int .i64 rl, .bool rd]) := Lib.hid (put4_row HRN5.out _ _ _ _)
        have HRD6 := Lib.hid (HBU6.out.row HRD5.out (by have := HDL.out; omega))
        have HRC6 := Lib.hid (HBU6.out.row HRC5.out (by omega))
        have HRT6 := Lib.hid (HBU6.out.row HRT5.out (by omega))
        have HS6 := Lib.hid (slf_one HS5.out HRN5.out HBU6.out)
        have HSD6 := Lib.hid (slf_one HSD5.out HRN5.out HBU6.out)
        have HB6 : Hid (Below wo.heap.size wo ((((w5.setCell ⟨wo.heap.size + 1, 0, none⟩ (.int .i64 rr)).setCell ⟨wo.heap.size + 1, 1, none⟩ (.slice a5 L5 c5)).setCell ⟨wo.heap.size + 1, 2, none⟩ (.int .i64 rl)).setCell ⟨wo.heap.size + 1, 3, none⟩ (.bool rd))) := Lib.hid ((below_trans HB3.out HB5.out).trans (HBU6.out.below (by omega)))
        have r0 := HRD6.out.cell (i := 0) rfl
        have r1 := HRD6.out.cell (i := 1) rfl
        have r2 := HRD6.out.cell (i := 2) rfl
        have r3 := HRD6.out.cell (i := 3) rfl
        have y0 := HRC6.out.cell (i := 0) rfl
        have y1 := HRC6.out.cell (i := 1) rfl
        have y2 := HRC6.out.cell (i := 2) rfl
        go_wp2_with fail
        generalize hv : (((w5.setCell ⟨wo.heap.size + 1, 0, none⟩ (.int .i64 rr)).setCell ⟨wo.heap.size + 1, 1, none⟩ (.slice a5 L5 c5)).setCell ⟨wo.heap.size + 1, 2, none⟩ (.int .i64 rl)).setCell ⟨wo.heap.size + 1, 3, none⟩ (.bool rd) = w6 at *
        clear hv n0 n1 n2 n3 tn0 tn1 tn2 tn3 r0 r1 r2 r3 y0 y1 y2 HRD5 HSD5 HRC5 HRN5 HRT5 HS5 HB5
        have HC := rcall_any w6 ⟨rm, fs, lf, dn⟩ aD cD 4 n m ⟨by simp only; rw [← HL.out]; exact HSD6.out, HGD.out.fits⟩ HFX.out.n HFX.out.m (by omega) (by omega)
        rw [← HRS.out] at HC
        simp only at HC
        rw [← HL.out] at HC
        refine HC.mono ?_
        clear HC
        rintro e w7 ⟨a7, c7, rfl, hs7, hb7⟩
        simp only at hs7 ⊢
        rw [← HL5.out] at hs7 ⊢
        have HS7 := Lib.hid hs7
        have HB7 := Lib.hid hb7
        clear hs7 hb7
        have HRD7 := Lib.hid (HRD6.out.below HB7.out)
        have HSD7 := Lib.hid (HSD6.out.old HB7.out)
        have HRN7 := Lib.hid (HRN6.out.below HB7.out)
        have HSN7 := Lib.hid (HS6.out.old HB7.out)
        have HRT7 := Lib.hid (HRT6.out.below HB7.out)
        have t0 := HRT7.out.cell (i := 0) rfl
        have t1 := HRT7.out.cell (i := 1) rfl
        have t2 := HRT7.out.cell (i := 2) rfl
        have t3 := HRT7.out.cell (i := 3) rfl
        have tt0 := HRT7.out.thaw 0
        have tt1 := HRT7.out.thaw 1
        have tt2 := HRT7.out.thaw 2
        have tt3 := HRT7.out.thaw 3
        have HBU8 : Hid (But (wo.heap.size + 1 + 1) w7 ((((w7.setCell ⟨wo.heap.size + 1 + 1, 0, none⟩ (.int .i64 rr)).setCell ⟨wo.heap.size + 1 + 1, 1, none⟩ (.slice a7 L5 c7)).setCell ⟨wo.heap.size + 1 + 1, 2, none⟩ (.int .i64 rl)).setCell ⟨wo.heap.size + 1 + 1, 3, none⟩ (.bool rd))) := Lib.hid (put4_but _ _ _ _ _ _)
        have HRT8 : Hid (Row ((((w7.setCell ⟨wo.heap.size + 1 + 1, 0, none⟩ (.int .i64 rr)).setCell ⟨wo.heap.size + 1 + 1, 1, none⟩ (.slice a7 L5 c7)).setCell ⟨wo.heap.size + 1 + 1, 2, none⟩ (.int .i64 rl)).setCell ⟨wo.heap.size + 1 + 1, 3, none⟩ (.bool rd)) (wo.heap.size + 1 + 1) 24 [.int .i64 rr, .slice a7 L5 c7, .int .i64 rl, .bool rd]) := Lib.hid (put4_row HRT7.out _ _ _ _)
        have HRD8 := Lib.hid (HBU8.out.row HRD7.out (by have := HDL.out; omega))
        have HRN8 := Lib.hid (HBU8.out.row HRN7.out (by omega))
        have HSN8 := Lib.hid (slf_one HSN7.out HRT7.out HBU8.out)
        have HST8 := Lib.hid (slf_one HS7.out HRT7.out HBU8.out)
        have HSD8 := Lib.hid (slf_one HSD7.out HRT7.out HBU8.out)
        have HB8 : Hid (Below wo.heap.size wo ((((w7.setCell ⟨wo.heap.size + 1 + 1, 0, none⟩ (.int .i64 rr)).setCell ⟨wo.heap.size + 1 + 1, 1, none⟩ (.slice a7 L5 c7)).setCell ⟨wo.heap.size + 1 + 1, 2, none⟩ (.int .i64 rl)).setCell ⟨wo.heap.size + 1 + 1, 3, none⟩ (.bool rd))) := Lib.hid ((below_trans HB6.out HB7.out).trans (HBU8.out.below (by omega)))
        have n0 := HRN8.out.cell (i := 0) rfl
        have n1 := HRN8.out.cell (i := 1) rfl
        have n2 := HRN8.out.cell (i := 2) rfl
        have n3 := HRN8.out.cell (i := 3) rfl
        have m0 := HRT8.out.cell (i := 0) rfl
        have m1 := HRT8.out.cell (i := 1) rfl
        have m2 := HRT8.out.cell (i := 2) rfl
        have m3 := HRT8.out.cell (i := 3) rfl
        have une : ((ke : Int) != (ke : Int)) = false := by simp
        have HLK := Lib.hid (like_any ((((w7.setCell ⟨wo.heap.size + 1 + 1, 0, none⟩ (.int .i64 rr)).setCell ⟨wo.heap.size + 1 + 1, 1, none⟩ (.slice a7 L5 c7)).setCell ⟨wo.heap.size + 1 + 1, 2, none⟩ (.int .i64 rl)).setCell ⟨wo.heap.size + 1 + 1, 3, none⟩ (.bool rd)) ⟨rr, rf, rl, rd⟩ a5 a7 c5 c7 (by simp only; rw [← HL5.out]; exact HSN8.out) (by simp only; rw [← HL5.out]; exact HST8.out))
        simp only at HLK
        rw [← HL5.out] at HLK
        go_wp2_with fail
        generalize hv : (((w7.setCell ⟨wo.heap.size + 1 + 1, 0, none⟩ (.int .i64 rr)).setCell ⟨wo.heap.size + 1 + 1, 1, none⟩ (.slice a7 L5 c7)).setCell ⟨wo.heap.size + 1 + 1, 2, none⟩ (.int .i64 rl)).setCell ⟨wo.heap.size + 1 + 1, 3, none⟩ (.bool rd) = w8 at *
        clear hv n0 n1 n2 n3 m0 m1 m2 m3 t0 t1 t2 t3 tt0 tt1 tt2 tt3
        refine HLK.out.mono ?_
        rintro e w9 ⟨rfl, hb9⟩
        have HRD9 := Lib.hid (HRD8.out.below hb9)
        have HSD9 := Lib.hid (HSD8.out.old hb9)
        have HRN9 := Lib.hid (HRN8.out.below hb9)
        have HSN9 := Lib.hid (HSN8.out.old hb9)
        have HB9 := Lib.hid (below_trans HBW.out (below_trans HB8.out hb9))
        clear hb9 HLK HRD8 HSD8 HRN8 HSN8 HB8 HRT8 HRC HRN HRT HRD2 HSD2 HB3 HSZ HRC0
        clear HS7 HB7 HRD7 HSD7 HRN7 HSN7 HRT7 HB6 HRD6 HSD6 HRN6 HS6 HRT6 HRC6
        by_cases k0 : ke = 0
        · subst k0
          have n0 := HRN9.out.cell (i := 0) rfl
          have n1 := HRN9.out.cell (i := 1) rfl
          have n2 := HRN9.out.cell (i := 2) rfl
          have n3 := HRN9.out.cell (i := 3) rfl
          have r0 := HRD9.out.cell (i := 0) rfl
          have r1 := HRD9.out.cell (i := 1) rfl
          have r2 := HRD9.out.cell (i := 2) rfl
          have r3 := HRD9.out.cell (i := 3) rfl
          have tr0 := HRD9.out.thaw 0
          have tr1 := HRD9.out.thaw 1
          have tr2 := HRD9.out.thaw 2
          have tr3 := HRD9.out.thaw 3
          have HBUT : Hid (But w.heap.size w9 ((((w9.setCell ⟨w.heap.size, 0, none⟩ (.int .i64 rr)).setCell ⟨w.heap.size, 1, none⟩ (.slice a5 L5 c5)).setCell ⟨w.heap.size, 2, none⟩ (.int .i64 rl)).setCell ⟨w.heap.size, 3, none⟩ (.bool rd))) := Lib.hid (put4_but _ _ _ _ _ _)
          have HRD10 : Hid (Row ((((w9.setCell ⟨w.heap.size, 0, none⟩ (.int .i64 rr)).setCell ⟨w.heap.size, 1, none⟩ (.slice a5 L5 c5)).setCell ⟨w.heap.size, 2, none⟩ (.int .i64 rl)).setCell ⟨w.heap.size, 3, none⟩ (.bool rd)) w.heap.size 24 [.int .i64 rr, .slice a5 L5 c5, .int .i64 rl, .bool rd]) := Lib.hid (put4_row HRD9.out _ _ _ _)
          have HSN10 := Lib.hid (slf_one HSN9.out HRD9.out HBUT.out)
          have HB10 := Lib.hid (HB9.out.trans (HBUT.out.below (Nat.le_refl _)))
          have HPS : Hid (PS w ⟨rr, rf, rl, rd⟩ a5 c5 ((((w9.setCell ⟨w.heap.size, 0, none⟩ (.int .i64 rr)).setCell ⟨w.heap.size, 1, none⟩ (.slice a5 L5 c5)).setCell ⟨w.heap.size, 2, none⟩ (.int .i64 rl)).setCell ⟨w.heap.size, 3, none⟩ (.bool rd))) := Lib.hid ⟨HB10.out, HGN.out, by simp only; rw [← HL5.out]; exact HRD10.out, by simp only; rw [← HL5.out]; exact HSN10.out⟩
          have z0 := HRD10.out.cell (i := 0) rfl
          have z1 := HRD10.out.cell (i := 1) rfl
          have z2 := HRD10.out.cell (i := 2) rfl
          have z3 := HRD10.out.cell (i := 3) rfl
          go_wp2_with fail
          generalize hv : (((w9.setCell ⟨w.heap.size, 0, none⟩ (.int .i64 rr)).setCell ⟨w.heap.size, 1, none⟩ (.slice a5 L5 c5)).setCell ⟨w.heap.size, 2, none⟩ (.int .i64 rl)).setCell ⟨w.heap.size, 3, none⟩ (.bool rd) = v10 at *
          clear hv n0 n1 n2 n3 r0 r1 r2 r3 tr0 tr1 tr2 tr3 z0 z1 z2 z3
          have HC := right_any v10 ⟨rr, rf, rl, rd⟩ a5 c5 ⟨HPS.out.fs, HPS.out.rgt.fits⟩
          simp only at HC
          rw [← HL5.out] at HC
          refine HC.mono ?_
          clear HC
          rintro e w11 ⟨q, rfl, hq, hb11⟩
          obtain rfl : q = true := hq.2 HPS.out.rgt
          have HPS2 := Lib.hid (HPS.out.below hb11)
          clear hq hb11
          go_wp2
          go_roundw
          case rel => exact ⟨k + 1, _, _, _, by omega, by go_num, HPS2⟩
          case measure => simp [intOf]; omega
        have v0 : ((ke : Int) == 0) = false := by rw [beq_eq_false_iff_ne]; omega
        by_cases k1 : ke = 132
        · subst k1
          cases dn with
          | true =>
            have n0 := HRN9.out.cell (i := 0) rfl
            have n1 := HRN9.out.cell (i := 1) rfl
            have n2 := HRN9.out.cell (i := 2) rfl
            have n3 := HRN9.out.cell (i := 3) rfl
            have r0 := HRD9.out.cell (i := 0) rfl
            have r1 := HRD9.out.cell (i := 1) rfl
            have r2 := HRD9.out.cell (i := 2) rfl
            have r3 := HRD9.out.cell (i := 3) rfl
            go_wp2_with fail
            clear n0 n1 n2 n3 r0 r1 r2 r3
            have HC := right_any w9 ⟨rm, fs, lf, true⟩ aD cD ⟨by simp only; rw [← HL.out]; exact HSD9.out, HGD.out.fits⟩
            simp only at HC
            rw [← HL.out] at HC
            refine HC.mono ?_
            clear HC
            rintro e w11 ⟨q, rfl, hq, hb11⟩
            obtain rfl : q = true := hq.2 HGD.out
            have HPS : Hid (PS w ⟨rm, fs, lf, true⟩ aD cD w11) := Lib.hid ⟨below_trans HB9.out hb11, HGD.out, by simp only; rw [← HL.out]; exact HRD9.out.below hb11, by simp only; rw [← HL.out]; exact HSD9.out.old hb11⟩
            clear hq hb11
            go_wp2
            go_roundw
            case rel => exact ⟨k + 1, _, _, _, by omega, by go_num, HPS⟩
            case measure => simp [intOf]; omega
          | false =>
            have n0 := HRN9.out.cell (i := 0) rfl
            have n1 := HRN9.out.cell (i := 1) rfl
            have n2 := HRN9.out.cell (i := 2) rfl
            have n3 := HRN9.out.cell (i := 3) rfl
            have r0 := HRD9.out.cell (i := 0) rfl
            have r1 := HRD9.out.cell (i := 1) rfl
            have r2 := HRD9.out.cell (i := 2) rfl
            have r3 := HRD9.out.cell (i := 3) rfl
            have tr0 := HRD9.out.thaw 0
            have tr1 := HRD9.out.thaw 1
            have tr2 := HRD9.out.thaw 2
            have tr3 := HRD9.out.thaw 3
            have HBUT : Hid (But w.heap.size w9 ((((w9.setCell ⟨w.heap.size, 0, none⟩ (.int .i64 rr)).setCell ⟨w.heap.size, 1, none⟩ (.slice a5 L5 c5)).setCell ⟨w.heap.size, 2, none⟩ (.int .i64 rl)).setCell ⟨w.heap.size, 3, none⟩ (.bool rd))) := Lib.hid (put4_but _ _ _ _ _ _)
            have HRD10 : Hid (Row ((((w9.setCell ⟨w.heap.size, 0, none⟩ (.int .i64 rr)).setCell ⟨w.heap.size, 1, none⟩ (.slice a5 L5 c5)).setCell ⟨w.heap.size, 2, none⟩ (.int .i64 rl)).setCell ⟨w.heap.size, 3, none⟩ (.bool rd)) w.heap.size 24 [.int .i64 rr, .slice a5 L5 c5, .int .i64 rl, .bool rd]) := Lib.hid (put4_row HRD9.out _ _ _ _)
            have HSN10 := Lib.hid (slf_one HSN9.out HRD9.out HBUT.out)
            have HB10 := Lib.hid (HB9.out.trans (HBUT.out.below (Nat.le_refl _)))
            have HPS : Hid (PS w ⟨rr, rf, rl, rd⟩ a5 c5 ((((w9.setCell ⟨w.heap.size, 0, none⟩ (.int .i64 rr)).setCell ⟨w.heap.size, 1, none⟩ (.slice a5 L5 c5)).setCell ⟨w.heap.size, 2, none⟩ (.int .i64 rl)).setCell ⟨w.heap.size, 3, none⟩ (.bool rd))) := Lib.hid ⟨HB10.out, HGN.out, by simp only; rw [← HL5.out]; exact HRD10.out, by simp only; rw [← HL5.out]; exact HSN10.out⟩
            have z0 := HRD10.out.cell (i := 0) rfl
            have z1 := HRD10.out.cell (i := 1) rfl
            have z2 := HRD10.out.cell (i := 2) rfl
            have z3 := HRD10.out.cell (i := 3) rfl
            go_wp2_with fail
            generalize hv : (((w9.setCell ⟨w.heap.size, 0, none⟩ (.int .i64 rr)).setCell ⟨w.heap.size, 1, none⟩ (.slice a5 L5 c5)).setCell ⟨w.heap.size, 2, none⟩ (.int .i64 rl)).setCell ⟨w.heap.size, 3, none⟩ (.bool rd) = v10 at *
            clear hv n0 n1 n2 n3 r0 r1 r2 r3 tr0 tr1 tr2 tr3 z0 z1 z2 z3
            have HC := right_any v10 ⟨rr, rf, rl, rd⟩ a5 c5 ⟨HPS.out.fs, HPS.out.rgt.fits⟩
            simp only at HC
            rw [← HL5.out] at HC
            refine HC.mono ?_
            clear HC
            rintro e w11 ⟨q, rfl, hq, hb11⟩
            obtain rfl : q = true := hq.2 HPS.out.rgt
            have HPS2 := Lib.hid (HPS.out.below hb11)
            clear hq hb11
            go_wp2
            go_roundw
            case rel => exact ⟨k + 1, _, _, _, by omega, by go_num, HPS2⟩
            case measure => simp [intOf]; omega
        have v1 : ((ke : Int) == 132) = false := by rw [beq_eq_false_iff_ne]; omega
        clear k0 k1
        have n0 := HRN9.out.cell (i := 0) rfl
        have n1 := HRN9.out.cell (i := 1) rfl
        have n2 := HRN9.out.cell (i := 2) rfl
        have n3 := HRN9.out.cell (i := 3) rfl
        have r0 := HRD9.out.cell (i := 0) rfl
        have r1 := HRD9.out.cell (i := 1) rfl
        have r2 := HRD9.out.cell (i := 2) rfl
        have r3 := HRD9.out.cell (i := 3) rfl
        go_wp2_with fail
        clear n0 n1 n2 n3 r0 r1 r2 r3
        have HC := right_any w9 ⟨rm, fs, lf, dn⟩ aD cD ⟨by simp only; rw [← HL.out]; exact HSD9.out, HGD.out.fits⟩
        simp only at HC
        rw [← HL.out] at HC
        refine HC.mono ?_
        clear HC
        rintro e w11 ⟨q, rfl, hq, hb11⟩
        obtain rfl : q = true := hq.2 HGD.out
        have HPS : Hid (PS w ⟨rm, fs, lf, dn⟩ aD cD w11) := Lib.hid ⟨below_trans HB9.out hb11, HGD.out, by simp only; rw [← HL.out]; exact HRD9.out.below hb11, by simp only; rw [← HL.out]; exact HSD9.out.old hb11⟩
        clear hq hb11
        go_wp2
        go_roundw
        case rel => exact ⟨k + 1, _, _, _, by omega, by go_num, HPS⟩
        case measure => simp [intOf]; omega
      · skip
        obtain ⟨q1, HQ1⟩ : ∃ r : Int, (if kk < -1 then -1 else kk) = r := ⟨_, rfl⟩
        obtain ⟨q2, HQ2⟩ : ∃ r : Int, (if 1073741824 < q1 then 1073741824 else q1) = r := ⟨_, rfl⟩
        have HCL := Lib.hid (clamp_cut kk q1 q2 HQ1 HQ2)
        cases dn with
        | true =>
          obtain ⟨W2, HW2⟩ : ∃ W, Hid (W = ((wo.alloc (.cells #[.int .i64 5, .string n, .string m, .int .i64 kk] 26)).alloc (.cells #[.int .i64 0, .slice none 0 0, .int .i64 0, .bool false] 24)).alloc (.cells #[.int .i64 0, .slice none 0 0, .int .i64 0, .bool false] 24)) := ⟨_, Lib.hid rfl⟩
          have HB3 : Hid (Below wo.heap.size wo W2) := Lib.hid (by rw [HW2.out]; exact below3 _ _ _ _)
          have HSZ : Hid (W2.heap.size = wo.heap.size + 3) := Lib.hid (by rw [HW2.out]; simp)
          have HRC : Hid (Row W2 wo.heap.size 26 [.int .i64 5, .string n, .string m, .int .i64 kk]) := Lib.hid (by rw [HW2.out]; exact ((row_new wo #[.int .i64 5, .string n, .string m, .int .i64 kk] _).alloc _).alloc _)
          have HRN : Hid (Row W2 (wo.heap.size + 1) 24 [.int .i64 0, .slice none 0 0, .int .i64 0, .bool false]) := Lib.hid (by
            rw [HW2.out]
            have h := row_new (wo.alloc (.cells #[.int .i64 5, .string n, .string m, .int .i64 kk] 26)) #[.int .i64 0, .slice none 0 0, .int .i64 0, .bool false] 24
            simp only [World.size_alloc] at h
            exact h.alloc _)
          have HRT : Hid (Row W2 (wo.heap.size + 1 + 1) 24 [.int .i64 0, .slice none 0 0, .int .i64 0, .bool false]) := Lib.hid (by
            rw [HW2.out]
            have h := row_new ((wo.alloc (.cells #[.int .i64 5, .string n, .string m, .int .i64 kk] 26)).alloc (.cells #[.int .i64 0, .slice none 0 0, .int .i64 0, .bool false] 24)) #[.int .i64 0, .slice none 0 0, .int .i64 0, .bool false] 24
            simp only [World.size_alloc] at h
            exact h)
          have HRD2 := Lib.hid (HRD.out.below HB3.out)
          have HSD2 := Lib.hid (HSD.out.old HB3.out)
          have HDL : Hid (w.heap.size < wo.heap.size) := Lib.hid HRD.out.lt
          have r0 := HRD2.out.cell (i := 0) rfl
          have r1 := HRD2.out.cell (i := 1) rfl
          have r2 := HRD2.out.cell (i := 2) rfl
          have r3 := HRD2.out.cell (i := 3) rfl
          have y0 := HRC.out.cell (i := 0) rfl
          have y1 := HRC.out.cell (i := 1) rfl
          have y2 := HRC.out.cell (i := 2) rfl
          have y3 := HRC.out.cell (i := 3) rfl
          rw [HW2.out] at r0 r1 r2 r3 y0 y1 y2 y3
          go_wp2_with fail
          rw [← HW2.out]
          clear r0 r1 r2 r3 y0 y1 y2 y3 c0 c1 c2 c3 x0 x1 x2 x3 HW2
          have HC := cut_any W2 ⟨rm, fs, lf, true⟩ aD cD q2 ⟨by simp only; rw [← HL.out]; exact HSD2.out, HGD.out.fits⟩
          rw [cut_down HGD.out HCL.out rfl] at HC
          simp only at HC
          rw [← HL.out] at HC
          refine HC.mono ?_
          clear HC
          rintro e w5 ⟨a5, c5, rfl, hs5, hb5⟩
          simp only [List.length_nil] at hs5 ⊢
          have HGN := Lib.hid zero_right
          have HS5 := Lib.hid hs5
          have HB5 := Lib.hid hb5
          clear hs5 hb5
          have HRD5 := Lib.hid (HRD2.out.below HB5.out)
          have HSD5 := Lib.hid (HSD2.out.old HB5.out)
          have HRC5 := Lib.hid (HRC.out.below HB5.out)
          have HRN5 := Lib.hid (HRN.out.below HB5.out)
          have HRT5 := Lib.hid (HRT.out.below HB5.out)
          have n0 := HRN5.out.cell (i := 0) rfl
          have n1 := HRN5.out.cell (i := 1) rfl
          have n2 := HRN5.out.cell (i := 2) rfl
          have n3 := HRN5.out.cell (i := 3) rfl
          have tn0 := HRN5.out.thaw 0
          have tn1 := HRN5.out.thaw 1
          have tn2 := HRN5.out.thaw 2
          have tn3 := HRN5.out.thaw 3
          have HBU6 : Hid (But (wo.heap.size + 1) w5 ((((w5.setCell ⟨wo.heap.size + 1, 0, none⟩ (.int .i64 0)).setCell ⟨wo.heap.size + 1, 1, none⟩ (.slice a5 0 c5)).setCell ⟨wo.heap.size + 1, 2, none⟩ (.int .i64 0)).setCell ⟨wo.heap.size + 1, 3, none⟩ (.bool false))) := Lib.hid (put4_but _ _ _ _ _ _)
          have HRN6 : Hid (Row ((((w5.setCell ⟨wo.heap.size + 1, 0, none⟩ (.int .i64 0)).setCell ⟨wo.heap.size + 1, 1, none⟩ (.slice a5 0 c5)).setCell ⟨wo.heap.size + 1, 2, none⟩ (.int .i64 0)).setCell ⟨wo.heap.size + 1, 3, none⟩ (.bool false)) (wo.heap.size + 1) 24 [.int .i64 0, .slice a5 0 c5, .int .i64 0, .bool false]) := Lib.hid (put4_row HRN5.out _ _ _ _)
          have HRD6 := Lib.hid (HBU6.out.row HRD5.out (by have := HDL.out; omega))
          have HRC6 := Lib.hid (HBU6.out.row HRC5.out (by omega))
          have HRT6 := Lib.hid (HBU6.out.row HRT5.out (by omega))
          have HS6 := Lib.hid (slf_one HS5.out HRN5.out HBU6.out)
          have HSD6 := Lib.hid (slf_one HSD5.out HRN5.out HBU6.out)
          have r0 := HRD6.out.cell (i := 0) rfl
          have r1 := HRD6.out.cell (i := 1) rfl
          have r2 := HRD6.out.cell (i := 2) rfl
          have r3 := HRD6.out.cell (i := 3) rfl
          have t0 := HRT6.out.cell (i := 0) rfl
          have t1 := HRT6.out.cell (i := 1) rfl
          have t2 := HRT6.out.cell (i := 2) rfl
          have t3 := HRT6.out.cell (i := 3) rfl
          have tt0 := HRT6.out.thaw 0
          have tt1 := HRT6.out.thaw 1
          have tt2 := HRT6.out.thaw 2
          have tt3 := HRT6.out.thaw 3
          have HBU7 : Hid (But (wo.heap.size + 1 + 1) ((((w5.setCell ⟨wo.heap.size + 1, 0, none⟩ (.int .i64 0)).setCell ⟨wo.heap.size + 1, 1, none⟩ (.slice a5 0 c5)).setCell ⟨wo.heap.size + 1, 2, none⟩ (.int .i64 0)).setCell ⟨wo.heap.size + 1, 3, none⟩ (.bool false)) ((((((((w5.setCell ⟨wo.heap.size + 1, 0, none⟩ (.int .i64 0)).setCell ⟨wo.heap.size + 1, 1, none⟩ (.slice a5 0 c5)).setCell ⟨wo.heap.size + 1, 2, none⟩ (.int .i64 0)).setCell ⟨wo.heap.size + 1, 3, none⟩ (.bool false)).setCell ⟨wo.heap.size + 1 + 1, 0, none⟩ (.int .i64 rm)).setCell ⟨wo.heap.size + 1 + 1, 1, none⟩ (.slice aD L cD)).setCell ⟨wo.heap.size + 1 + 1, 2, none⟩ (.int .i64 lf)).setCell ⟨wo.heap.size + 1 + 1, 3, none⟩ (.bool true))) := Lib.hid (put4_but _ _ _ _ _ _)
          have HRT7 : Hid (Row ((((((((w5.setCell ⟨wo.heap.size + 1, 0, none⟩ (.int .i64 0)).setCell ⟨wo.heap.size + 1, 1, none⟩ (.slice a5 0 c5)).setCell ⟨wo.heap.size + 1, 2, none⟩ (.int .i64 0)).setCell ⟨wo.heap.size + 1, 3, none⟩ (.bool false)).setCell ⟨wo.heap.size + 1 + 1, 0, none⟩ (.int .i64 rm)).setCell ⟨wo.heap.size + 1 + 1, 1, none⟩ (.slice aD L cD)).setCell ⟨wo.heap.size + 1 + 1, 2, none⟩ (.int .i64 lf)).setCell ⟨wo.heap.size + 1 + 1, 3, none⟩ (.bool true)) (wo.heap.size + 1 + 1) 24 [.int .i64 rm, .slice aD L cD, .int .i64 lf, .bool true]) := Lib.hid (put4_row HRT6.out _ _ _ _)
          have HRC7 := Lib.hid (HBU7.out.row HRC6.out (by omega))
          have y3 := HRC7.out.cell (i := 3) rfl
          have m2 := HRT7.out.cell (i := 2) rfl
          have tm2 := HRT7.out.thaw 2
          have HBU8 : Hid (But (wo.heap.size + 1 + 1) ((((w5.setCell ⟨wo.heap.size + 1, 0, none⟩ (.int .i64 0)).setCell ⟨wo.heap.size + 1, 1, none⟩ (.slice a5 0 c5)).setCell ⟨wo.heap.size + 1, 2, none⟩ (.int .i64 0)).setCell ⟨wo.heap.size + 1, 3, none⟩ (.bool false)) (((((((((w5.setCell ⟨wo.heap.size + 1, 0, none⟩ (.int .i64 0)).setCell ⟨wo.heap.size + 1, 1, none⟩ (.slice a5 0 c5)).setCell ⟨wo.heap.size + 1, 2, none⟩ (.int .i64 0)).setCell ⟨wo.heap.size + 1, 3, none⟩ (.bool false)).setCell ⟨wo.heap.size + 1 + 1, 0, none⟩ (.int .i64 rm)).setCell ⟨wo.heap.size + 1 + 1, 1, none⟩ (.slice aD L cD)).setCell ⟨wo.heap.size + 1 + 1, 2, none⟩ (.int .i64 lf)).setCell ⟨wo.heap.size + 1 + 1, 3, none⟩ (.bool true)).setCell ⟨wo.heap.size + 1 + 1, 2, none⟩ (.int .i64 q2))) := Lib.hid (HBU7.out.set 2 _)
          have HRT8 : Hid (Row (((((((((w5.setCell ⟨wo.heap.size + 1, 0, none⟩ (.int .i64 0)).setCell ⟨wo.heap.size + 1, 1, none⟩ (.slice a5 0 c5)).setCell ⟨wo.heap.size + 1, 2, none⟩ (.int .i64 0)).setCell ⟨wo.heap.size + 1, 3, none⟩ (.bool false)).setCell ⟨wo.heap.size + 1 + 1, 0, none⟩ (.int .i64 rm)).setCell ⟨wo.heap.size + 1 + 1, 1, none⟩ (.slice aD L cD)).setCell ⟨wo.heap.size + 1 + 1, 2, none⟩ (.int .i64 lf)).setCell ⟨wo.heap.size + 1 + 1, 3, none⟩ (.bool true)).setCell ⟨wo.heap.size + 1 + 1, 2, none⟩ (.int .i64 q2)) (wo.heap.size + 1 + 1) 24 [.int .i64 rm, .slice aD L cD, .int .i64 q2, .bool true]) := Lib.hid (HRT7.out.set 2 _)
          have HRD8 := Lib.hid (HBU8.out.row HRD6.out (by have := HDL.out; omega))
          have d3 := HRD8.out.cell (i := 3) rfl
          have e0 := HRT8.out.cell (i := 0) rfl
          have e1 := HRT8.out.cell (i := 1) rfl
          have e2 := HRT8.out.cell (i := 2) rfl
          have e3 := HRT8.out.cell (i := 3) rfl
          have te0 := HRT8.out.thaw 0
          have te1 := HRT8.out.thaw 1
          have te2 := HRT8.out.thaw 2
          have te3 := HRT8.out.thaw 3
          have HBU9 : Hid (But (wo.heap.size + 1 + 1) ((((w5.setCell ⟨wo.heap.size + 1, 0, none⟩ (.int .i64 0)).setCell ⟨wo.heap.size + 1, 1, none⟩ (.slice a5 0 c5)).setCell ⟨wo.heap.size + 1, 2, none⟩ (.int .i64 0)).setCell ⟨wo.heap.size + 1, 3, none⟩ (.bool false)) (((((((((((((w5.setCell ⟨wo.heap.size + 1, 0, none⟩ (.int .i64 0)).setCell ⟨wo.heap.size + 1, 1, none⟩ (.slice a5 0 c5)).setCell ⟨wo.heap.size + 1, 2, none⟩ (.int .i64 0)).setCell ⟨wo.heap.size + 1, 3, none⟩ (.bool false)).setCell ⟨wo.heap.size + 1 + 1, 0, none⟩ (.int .i64 rm)).setCell ⟨wo.heap.size + 1 + 1, 1, none⟩ (.slice aD L cD)).setCell ⟨wo.heap.size + 1 + 1, 2, none⟩ (.int .i64 lf)).setCell ⟨wo.heap.size + 1 + 1, 3, none⟩ (.bool true)).setCell ⟨wo.heap.size + 1 + 1, 2, none⟩ (.int .i64 q2)).setCell ⟨wo.heap.size + 1 + 1, 0, none⟩ (.int .i64 0)).setCell ⟨wo.heap.size + 1 + 1, 1, none⟩ (.slice none 0 0)).setCell ⟨wo.heap.size + 1 + 1, 2, none⟩ (.int .i64 0)).setCell ⟨wo.heap.size + 1 + 1, 3, none⟩ (.bool false))) := Lib.hid ((((HBU8.out.set 0 _).set 1 _).set 2 _).set 3 _)
          have HRT9 : Hid (Row (((((((((((((w5.setCell ⟨wo.heap.size + 1, 0, none⟩ (.int .i64 0)).setCell ⟨wo.heap.size + 1, 1, none⟩ (.slice a5 0 c5)).setCell ⟨wo.heap.size + 1, 2, none⟩ (.int .i64 0)).setCell ⟨wo.heap.size + 1, 3, none⟩ (.bool false)).setCell ⟨wo.heap.size + 1 + 1, 0, none⟩ (.int .i64 rm)).setCell ⟨wo.heap.size + 1 + 1, 1, none⟩ (.slice aD L cD)).setCell ⟨wo.heap.size + 1 + 1, 2, none⟩ (.int .i64 lf)).setCell ⟨wo.heap.size + 1 + 1, 3, none⟩ (.bool true)).setCell ⟨wo.heap.size + 1 + 1, 2, none⟩ (.int .i64 q2)).setCell ⟨wo.heap.size + 1 + 1, 0, none⟩ (.int .i64 0)).setCell ⟨wo.heap.size + 1 + 1, 1, none⟩ (.slice none 0 0)).setCell ⟨wo.heap.size + 1 + 1, 2, none⟩ (.int .i64 0)).setCell ⟨wo.heap.size + 1 + 1, 3, none⟩ (.bool false)) (wo.heap.size + 1 + 1) 24 [.int .i64 0, .slice none 0 0, .int .i64 0, .bool false]) := Lib.hid (put4_row HRT8.out _ _ _ _)
          have HRD9x := Lib.hid (HBU9.out.row HRD6.out (by have := HDL.out; omega))
          have HRN9x := Lib.hid (HBU9.out.row HRN6.out (by omega))
          have HSN9x := Lib.hid (slf_one HS6.out HRT6.out HBU9.out)
          have HSD9x := Lib.hid (slf_one HSD6.out HRT6.out HBU9.out)
          have HB9x : Hid (Below wo.heap.size wo (((((((((((((w5.setCell ⟨wo.heap.size + 1, 0, none⟩ (.int .i64 0)).setCell ⟨wo.heap.size + 1, 1, none⟩ (.slice a5 0 c5)).setCell ⟨wo.heap.size + 1, 2, none⟩ (.int .i64 0)).setCell ⟨wo.heap.size + 1, 3, none⟩ (.bool false)).setCell ⟨wo.heap.size + 1 + 1, 0, none⟩ (.int .i64 rm)).setCell ⟨wo.heap.size + 1 + 1, 1, none⟩ (.slice aD L cD)).setCell ⟨wo.heap.size + 1 + 1, 2, none⟩ (.int .i64 lf)).setCell ⟨wo.heap.size + 1 + 1, 3, none⟩ (.bool true)).setCell ⟨wo.heap.size + 1 + 1, 2, none⟩ (.int .i64 q2)).setCell ⟨wo.heap.size + 1 + 1, 0, none⟩ (.int .i64 0)).setCell ⟨wo.heap.size + 1 + 1, 1, none⟩ (.slice none 0 0)).setCell ⟨wo.heap.size + 1 + 1, 2, none⟩ (.int .i64 0)).setCell ⟨wo.heap.size + 1 + 1, 3, none⟩ (.bool false))) := Lib.hid (((below_trans HB3.out HB5.out).trans (HBU6.out.below (by omega))).trans (HBU9.out.below (by omega)))
          have g0 := HRN9x.out.cell (i := 0) rfl
          have g1 := HRN9x.out.cell (i := 1) rfl
          have g2 := HRN9x.out.cell (i := 2) rfl
          have g3 := HRN9x.out.cell (i := 3) rfl
          have h0 := HRT9.out.cell (i := 0) rfl
          have h1 := HRT9.out.cell (i := 1) rfl
          have h2 := HRT9.out.cell (i := 2) rfl
          have h3 := HRT9.out.cell (i := 3) rfl
          have HLK := Lib.hid (likez_any (((((((((((((w5.setCell ⟨wo.heap.size + 1, 0, none⟩ (.int .i64 0)).setCell ⟨wo.heap.size + 1, 1, none⟩ (.slice a5 0 c5)).setCell ⟨wo.heap.size + 1, 2, none⟩ (.int .i64 0)).setCell ⟨wo.heap.size + 1, 3, none⟩ (.bool false)).setCell ⟨wo.heap.size + 1 + 1, 0, none⟩ (.int .i64 rm)).setCell ⟨wo.heap.size + 1 + 1, 1, none⟩ (.slice aD L cD)).setCell ⟨wo.heap.size + 1 + 1, 2, none⟩ (.int .i64 lf)).setCell ⟨wo.heap.size + 1 + 1, 3, none⟩ (.bool true)).setCell ⟨wo.heap.size + 1 + 1, 2, none⟩ (.int .i64 q2)).setCell ⟨wo.heap.size + 1 + 1, 0, none⟩ (.int .i64 0)).setCell ⟨wo.heap.size + 1 + 1, 1, none⟩ (.slice none 0 0)).setCell ⟨wo.heap.size + 1 + 1, 2, none⟩ (.int .i64 0)).setCell ⟨wo.heap.size + 1 + 1, 3, none⟩ (.bool false)) a5 c5 HSN9x.out)
          go_wp2_with fail
          generalize hv : ((((((((((((w5.setCell ⟨wo.heap.size + 1, 0, none⟩ (.int .i64 0)).setCell ⟨wo.heap.size + 1, 1, none⟩ (.slice a5 0 c5)).setCell ⟨wo.heap.size + 1, 2, none⟩ (.int .i64 0)).setCell ⟨wo.heap.size + 1, 3, none⟩ (.bool false)).setCell ⟨wo.heap.size + 1 + 1, 0, none⟩ (.int .i64 rm)).setCell ⟨wo.heap.size + 1 + 1, 1, none⟩ (.slice aD L cD)).setCell ⟨wo.heap.size + 1 + 1, 2, none⟩ (.int .i64 lf)).setCell ⟨wo.heap.size + 1 + 1, 3, none⟩ (.bool true)).setCell ⟨wo.heap.size + 1 + 1, 2, none⟩ (.int .i64 q2)).setCell ⟨wo.heap.size + 1 + 1, 0, none⟩ (.int .i64 0)).setCell ⟨wo.heap.size + 1 + 1, 1, none⟩ (.slice none 0 0)).setCell ⟨wo.heap.size + 1 + 1, 2, none⟩ (.int .i64 0)).setCell ⟨wo.heap.size + 1 + 1, 3, none⟩ (.bool false) = w8 at *
          clear hv e0 e1 e2 e3 te0 te1 te2 te3 g0 g1 g2 g3 h0 h1 h2 h3 d3 m2 tm2 y3 t0 t1 t2 t3 tt0 tt1 tt2 tt3 r0 r1 r2 r3 n0 n1 n2 n3 tn0 tn1 tn2 tn3 HQ1 HQ2
          refine HLK.out.mono ?_
          rintro e w9 ⟨rfl, hb9⟩
          have HRD9 := Lib.hid (HRD9x.out.below hb9)
          have HSD9 := Lib.hid (HSD9x.out.old hb9)
          have HRN9 := Lib.hid (HRN9x.out.below hb9)
          have HSN9 := Lib.hid (HSN9x.out.old hb9)
          have HB9 := Lib.hid (below_trans HBW.out (below_trans HB9x.out hb9))
          clear hb9 HLK HRD9x HSD9x HRN9x HSN9x HB9x
          have n0 := HRN9.out.cell (i := 0) rfl
          have n1 := HRN9.out.cell (i := 1) rfl
          have n2 := HRN9.out.cell (i := 2) rfl
          have n3 := HRN9.out.cell (i := 3) rfl
          have r0 := HRD9.out.cell (i := 0) rfl
          have r1 := HRD9.out.cell (i := 1) rfl
          have r2 := HRD9.out.cell (i := 2) rfl
          have r3 := HRD9.out.cell (i := 3) rfl
          go_wp2_with fail
          clear n0 n1 n2 n3 r0 r1 r2 r3
          have HC := right_any w9 ⟨rm, fs, lf, true⟩ aD cD ⟨by simp only; rw [← HL.out]; exact HSD9.out, HGD.out.fits⟩
          simp only at HC
          rw [← HL.out] at HC
          refine HC.mono ?_
          clear HC
          rintro e w11 ⟨q, rfl, hq, hb11⟩
          obtain rfl : q = true := hq.2 HGD.out
          have HPS : Hid (PS w ⟨rm, fs, lf, true⟩ aD cD w11) := Lib.hid ⟨below_trans HB9.out hb11, HGD.out, by simp only; rw [← HL.out]; exact HRD9.out.below hb11, by simp only; rw [← HL.out]; exact HSD9.out.old hb11⟩
          clear hq hb11
          go_wp2
          go_roundw
          case rel => exact ⟨k + 1, _, _, _, by omega, by go_num, HPS⟩
          case measure => simp [intOf]; omega
        | false =>
          obtain ⟨W2, HW2⟩ : ∃ W, Hid (W = ((wo.alloc (.cells #[.int .i64 5, .string n, .string m, .int .i64 kk] 26)).alloc (.cells #[.int .i64 0, .slice none 0 0, .int .i64 0, .bool false] 24)).alloc (.cells #[.int .i64 0, .slice none 0 0, .int .i64 0, .bool false] 24)) := ⟨_, Lib.hid rfl⟩
          have HB3 : Hid (Below wo.heap.size wo W2) := Lib.hid (by rw [HW2.out]; exact below3 _ _ _ _)
          have HSZ : Hid (W2.heap.size = wo.heap.size + 3) := Lib.hid (by rw [HW2.out]; simp)
          have HRC : Hid (Row W2 wo.heap.size 26 [.int .i64 5, .string n, .string m, .int .i64 kk]) := Lib.hid (by rw [HW2.out]; exact ((row_new wo #[.int .i64 5, .string n, .string m, .int .i64 kk] _).alloc _).alloc _)
          have HRN : Hid (Row W2 (wo.heap.size + 1) 24 [.int .i64 0, .slice none 0 0, .int .i64 0, .bool false]) := Lib.hid (by
            rw [HW2.out]
            have h := row_new (wo.alloc (.cells #[.int .i64 5, .string n, .string m, .int .i64 kk] 26)) #[.int .i64 0, .slice none 0 0, .int .i64 0, .bool false] 24
            simp only [World.size_alloc] at h
            exact h.alloc _)
          have HRT : Hid (Row W2 (wo.heap.size + 1 + 1) 24 [.int .i64 0, .slice none 0 0, .int .i64 0, .bool false]) := Lib.hid (by
            rw [HW2.out]
            have h := row_new ((wo.alloc (.cells #[.int .i64 5, .string n, .string m, .int .i64 kk] 26)).alloc (.cells #[.int .i64 0, .slice none 0 0, .int .i64 0, .bool false] 24)) #[.int .i64 0, .slice none 0 0, .int .i64 0, .bool false] 24
            simp only [World.size_alloc] at h
            exact h)
          have HRD2 := Lib.hid (HRD.out.below HB3.out)
          have HSD2 := Lib.hid (HSD.out.old HB3.out)
          have HDL : Hid (w.heap.size < wo.heap.size) := Lib.hid HRD.out.lt
          have r0 := HRD2.out.cell (i := 0) rfl
          have r1 := HRD2.out.cell (i := 1) rfl
          have r2 := HRD2.out.cell (i := 2) rfl
          have r3 := HRD2.out.cell (i := 3) rfl
          have y0 := HRC.out.cell (i := 0) rfl
          have y1 := HRC.out.cell (i := 1) rfl
          have y2 := HRC.out.cell (i := 2) rfl
          have y3 := HRC.out.cell (i := 3) rfl
          rw [HW2.out] at r0 r1 r2 r3 y0 y1 y2 y3
          go_wp2_with fail
          rw [← HW2.out]
          clear r0 r1 r2 r3 y0 y1 y2 y3 c0 c1 c2 c3 x0 x1 x2 x3 HW2
          have HC := cut_any W2 ⟨rm, fs, lf, false⟩ aD cD q2 ⟨by simp only; rw [← HL.out]; exact HSD2.out, HGD.out.fits⟩
          have HGN : Hid (RgtD ⟨rm, fs, q2, false⟩) := Lib.hid (by have := @cut_right ⟨rm, fs, lf, false⟩ q2; rw [cut_up HGD.out HCL.out rfl] at this; exact this)
          rw [cut_up HGD.out HCL.out rfl] at HC
          simp only at HC
          rw [← HL.out] at HC
          refine HC.mono ?_
          clear HC
          rintro e w5 ⟨a5, c5, rfl, hs5, hb5⟩
          simp only at hs5 ⊢
          rw [← HL.out] at hs5 ⊢
          have HS5 := Lib.hid hs5
          have HB5 := Lib.hid hb5
          clear hs5 hb5
          have HRD5 := Lib.hid (HRD2.out.below HB5.out)
          have HSD5 := Lib.hid (HSD2.out.old HB5.out)
          have HRC5 := Lib.hid (HRC.out.below HB5.out)
          have HRN5 := Lib.hid (HRN.out.below HB5.out)
          have HRT5 := Lib.hid (HRT.out.below HB5.out)
          have n0 := HRN5.out.cell (i := 0) rfl
          have n1 := HRN5.out.cell (i := 1) rfl
          have n2 := HRN5.out.cell (i := 2) rfl
          have n3 := HRN5.out.cell (i := 3) rfl
          have tn0 := HRN5.out.thaw 0
          have tn1 := HRN5.out.thaw 1
          have tn2 := HRN5.out.thaw 2
          have tn3 := HRN5.out.thaw 3
          have HBU6 : Hid (But (wo.heap.size + 1) w5 ((((w5.setCell ⟨wo.heap.size + 1, 0, none⟩ (.int .i64 rm)).setCell ⟨wo.heap.size + 1, 1, none⟩ (.slice a5 L c5)).setCell ⟨wo.heap.size + 1, 2, none⟩ (.int .i64 q2)).setCell ⟨wo.heap.size + 1, 3, none⟩ (.bool false))) := Lib.hid (put4_but _ _ _ _ _ _)
          have HRN6 : Hid (Row ((((w5.setCell ⟨wo.heap.size + 1, 0, none⟩ (.int .i64 rm)).setCell ⟨wo.heap.size + 1, 1, none⟩ (.slice a5 L c5)).setCell ⟨wo.heap.size + 1, 2, none⟩ (.int .i64 q2)).setCell ⟨wo.heap.size + 1, 3, none⟩ (.bool false)) (wo.heap.size + 1) 24 [.int .i64 rm, .slice a5 L c5, .int .i64 q2, .bool false]) := Lib.hid (put4_row HRN5.out _ _ _ _)
          have HRD6 := Lib.hid (HBU6.out.row HRD5.out (by have := HDL.out; omega))
          have HRC6 := Lib.hid (HBU6.out.row HRC5.out (by omega))
          have HRT6 := Lib.hid (HBU6.out.row HRT5.out (by omega))
          have HS6 := Lib.hid (slf_one HS5.out HRN5.out HBU6.out)
          have HSD6 := Lib.hid (slf_one HSD5.out HRN5.out HBU6.out)
          have r0 := HRD6.out.cell (i := 0) rfl
          have r1 := HRD6.out.cell (i := 1) rfl
          have r2 := HRD6.out.cell (i := 2) rfl
          have r3 := HRD6.out.cell (i := 3) rfl
          have t0 := HRT6.out.cell (i := 0) rfl
          have t1 := HRT6.out.cell (i := 1) rfl
          have t2 := HRT6.out.cell (i := 2) rfl
          have t3 := HRT6.out.cell (i := 3) rfl
          have tt0 := HRT6.out.thaw 0
          have tt1 := HRT6.out.thaw 1
          have tt2 := HRT6.out.thaw 2
          have tt3 := HRT6.out.thaw 3
          have HBU7 : Hid (But (wo.heap.size + 1 + 1) ((((w5.setCell ⟨wo.heap.size + 1, 0, none⟩ (.int .i64 rm)).setCell ⟨wo.heap.size + 1, 1, none⟩ (.slice a5 L c5)).setCell ⟨wo.heap.size + 1, 2, none⟩ (.int .i64 q2)).setCell ⟨wo.heap.size + 1, 3, none⟩ (.bool false)) ((((((((w5.setCell ⟨wo.heap.size + 1, 0, none⟩ (.int .i64 rm)).setCell ⟨wo.heap.size + 1, 1, none⟩ (.slice a5 L c5)).setCell ⟨wo.heap.size + 1, 2, none⟩ (.int .i64 q2)).setCell ⟨wo.heap.size + 1, 3, none⟩ (.bool false)).setCell ⟨wo.heap.size + 1 + 1, 0, none⟩ (.int .i64 rm)).setCell ⟨wo.heap.size + 1 + 1, 1, none⟩ (.slice aD L cD)).setCell ⟨wo.heap.size + 1 + 1, 2, none⟩ (.int .i64 lf)).setCell ⟨wo.heap.size + 1 + 1, 3, none⟩ (.bool false))) := Lib.hid (put4_but _ _ _ _ _ _)
          have HRT7 : Hid (Row ((((((((w5.setCell ⟨wo.heap.size + 1, 0, none⟩ (.int .i64 rm)).setCell ⟨wo.heap.size + 1, 1, none⟩ (.slice a5 L c5)).setCell ⟨wo.heap.size + 1, 2, none⟩ (.int .i64 q2)).setCell ⟨wo.heap.size + 1, 3, none⟩ (.bool false)).setCell ⟨wo.heap.size + 1 + 1, 0, none⟩ (.int .i64 rm)).setCell ⟨wo.heap.size + 1 + 1, 1, none⟩ (.slice aD L cD)).setCell ⟨wo.heap.size + 1 + 1, 2, none⟩ (.int .i64 lf)).setCell ⟨wo.heap.size + 1 + 1, 3, none⟩ (.bool false)) (wo.heap.size + 1 + 1) 24 [.int .i64 rm, .slice aD L cD, .int .i64 lf, .bool false]) := Lib.hid (put4_row HRT6.out _ _ _ _)
          have HRC7 := Lib.hid (HBU7.out.row HRC6.out (by omega))
          have y3 := HRC7.out.cell (i := 3) rfl
          have m2 := HRT7.out.cell (i := 2) rfl
          have tm2 := HRT7.out.thaw 2
          have HBU8 : Hid (But (wo.heap.size + 1 + 1) ((((w5.setCell ⟨wo.heap.size + 1, 0, none⟩ (.int .i64 rm)).setCell ⟨wo.heap.size + 1, 1, none⟩ (.slice a5 L c5)).setCell ⟨wo.heap.size + 1, 2, none⟩ (.int .i64 q2)).setCell ⟨wo.heap.size + 1, 3, none⟩ (.bool false)) (((((((((w5.setCell ⟨wo.heap.size + 1, 0, none⟩ (.int .i64 rm)).setCell ⟨wo.heap.size + 1, 1, none⟩ (.slice a5 L c5)).setCell ⟨wo.heap.size + 1, 2, none⟩ (.int .i64 q2)).setCell ⟨wo.heap.size + 1, 3, none⟩ (.bool false)).setCell ⟨wo.heap.size + 1 + 1, 0, none⟩ (.int .i64 rm)).setCell ⟨wo.heap.size + 1 + 1, 1, none⟩ (.slice aD L cD)).setCell ⟨wo.heap.size + 1 + 1, 2, none⟩ (.int .i64 lf)).setCell ⟨wo.heap.size + 1 + 1, 3, none⟩ (.bool false)).setCell ⟨wo.heap.size + 1 + 1, 2, none⟩ (.int .i64 q2))) := Lib.hid (HBU7.out.set 2 _)
          have HRT8 : Hid (Row (((((((((w5.setCell ⟨wo.heap.size + 1, 0, none⟩ (.int .i64 rm)).setCell ⟨wo.heap.size + 1, 1, none⟩ (.slice a5 L c5)).setCell ⟨wo.heap.size + 1, 2, none⟩ (.int .i64 q2)).setCell ⟨wo.heap.size + 1, 3, none⟩ (.bool false)).setCell ⟨wo.heap.size + 1 + 1, 0, none⟩ (.int .i64 rm)).setCell ⟨wo.heap.size + 1 + 1, 1, none⟩ (.slice aD L cD)).setCell ⟨wo.heap.size + 1 + 1, 2, none⟩ (.int .i64 lf)).setCell ⟨wo.heap.size + 1 + 1, 3, none⟩ (.bool false)).setCell ⟨wo.heap.size + 1 + 1, 2, none⟩ (.int .i64 q2)) (wo.heap.size + 1 + 1) 24 [.int .i64 rm, .slice aD L cD, .int .i64 q2, .bool false]) := Lib.hid (HRT7.out.set 2 _)
          have HRD8 := Lib.hid (HBU8.out.row HRD6.out (by have := HDL.out; omega))
          have d3 := HRD8.out.cell (i := 3) rfl
          have HRD9x := Lib.hid (HBU8.out.row HRD6.out (by have := HDL.out; omega))
          have HRN9x := Lib.hid (HBU8.out.row HRN6.out (by omega))
          have HSN9x := Lib.hid (slf_one HS6.out HRT6.out HBU8.out)
          have HSD9x := Lib.hid (slf_one HSD6.out HRT6.out HBU8.out)
          have HB9x : Hid (Below wo.heap.size wo (((((((((w5.setCell ⟨wo.heap.size + 1, 0, none⟩ (.int .i64 rm)).setCell ⟨wo.heap.size + 1, 1, none⟩ (.slice a5 L c5)).setCell ⟨wo.heap.size + 1, 2, none⟩ (.int .i64 q2)).setCell ⟨wo.heap.size + 1, 3, none⟩ (.bool false)).setCell ⟨wo.heap.size + 1 + 1, 0, none⟩ (.int .i64 rm)).setCell ⟨wo.heap.size + 1 + 1, 1, none⟩ (.slice aD L cD)).setCell ⟨wo.heap.size + 1 + 1, 2, none⟩ (.int .i64 lf)).setCell ⟨wo.heap.size + 1 + 1, 3, none⟩ (.bool false)).setCell ⟨wo.heap.size + 1 + 1, 2, none⟩ (.int .i64 q2))) := Lib.hid (((below_trans HB3.out HB5.out).trans (HBU6.out.below (by omega))).trans (HBU8.out.below (by omega)))
          have g0 := HRN9x.out.cell (i := 0) rfl
          have g1 := HRN9x.out.cell (i := 1) rfl
          have g2 := HRN9x.out.cell (i := 2) rfl
          have g3 := HRN9x.out.cell (i := 3) rfl
          have h0 := HRT8.out.cell (i := 0) rfl
          have h1 := HRT8.out.cell (i := 1) rfl
          have h2 := HRT8.out.cell (i := 2) rfl
          have h3 := HRT8.out.cell (i := 3) rfl
          have HLK := Lib.hid (like_any (((((((((w5.setCell ⟨wo.heap.size + 1, 0, none⟩ (.int .i64 rm)).setCell ⟨wo.heap.size + 1, 1, none⟩ (.slice a5 L c5)).setCell ⟨wo.heap.size + 1, 2, none⟩ (.int .i64 q2)).setCell ⟨wo.heap.size + 1, 3, none⟩ (.bool false)).setCell ⟨wo.heap.size + 1 + 1, 0, none⟩ (.int .i64 rm)).setCell ⟨wo.heap.size + 1 + 1, 1, none⟩ (.slice aD L cD)).setCell ⟨wo.heap.size + 1 + 1, 2, none⟩ (.int .i64 lf)).setCell ⟨wo.heap.size + 1 + 1, 3, none⟩ (.bool false)).setCell ⟨wo.heap.size + 1 + 1, 2, none⟩ (.int .i64 q2)) ⟨rm, fs, q2, false⟩ a5 aD c5 cD (by simp only; rw [← HL.out]; exact HSN9x.out) (by simp only; rw [← HL.out]; exact HSD9x.out))
          simp only at HLK
          rw [← HL.out] at HLK
          go_wp2_with fail
          generalize hv : ((((((((w5.setCell ⟨wo.heap.size + 1, 0, none⟩ (.int .i64 rm)).setCell ⟨wo.heap.size + 1, 1, none⟩ (.slice a5 L c5)).setCell ⟨wo.heap.size + 1, 2, none⟩ (.int .i64 q2)).setCell ⟨wo.heap.size + 1, 3, none⟩ (.bool false)).setCell ⟨wo.heap.size + 1 + 1, 0, none⟩ (.int .i64 rm)).setCell ⟨wo.heap.size + 1 + 1, 1, none⟩ (.slice aD L cD)).setCell ⟨wo.heap.size + 1 + 1, 2, none⟩ (.int .i64 lf)).setCell ⟨wo.heap.size + 1 + 1, 3, none⟩ (.bool false)).setCell ⟨wo.heap.size + 1 + 1, 2, none⟩ (.int .i64 q2) = w8 at *
          clear hv g0 g1 g2 g3 h0 h1 h2 h3 d3 m2 tm2 y3 t0 t1 t2 t3 tt0 tt1 tt2 tt3 r0 r1 r2 r3 n0 n1 n2 n3 tn0 tn1 tn2 tn3 HQ1 HQ2
          refine HLK.out.mono ?_
          rintro e w9 ⟨rfl, hb9⟩
          have HRD9 := Lib.hid (HRD9x.out.below hb9)
          have HSD9 := Lib.hid (HSD9x.out.old hb9)
          have HRN9 := Lib.hid (HRN9x.out.below hb9)
          have HSN9 := Lib.hid (HSN9x.out.old hb9)
          have HB9 := Lib.hid (below_trans HBW.out (below_trans HB9x.out hb9))
          clear hb9 HLK HRD9x HSD9x HRN9x HSN9x HB9x
          have n0 := HRN9.out.cell (i := 0) rfl
          have n1 := HRN9.out.cell (i := 1) rfl
          have n2 := HRN9.out.cell (i := 2) rfl
          have n3 := HRN9.out.cell (i := 3) rfl
          have r0 := HRD9.out.cell (i := 0) rfl
          have r1 := HRD9.out.cell (i := 1) rfl
          have r2 := HRD9.out.cell (i := 2) rfl
          have r3 := HRD9.out.cell (i := 3) rfl
          have tr0 := HRD9.out.thaw 0
          have tr1 := HRD9.out.thaw 1
          have tr2 := HRD9.out.thaw 2
          have tr3 := HRD9.out.thaw 3
          have HBUT : Hid (But w.heap.size w9 ((((w9.setCell ⟨w.heap.size, 0, none⟩ (.int .i64 rm)).setCell ⟨w.heap.size, 1, none⟩ (.slice a5 L c5)).setCell ⟨w.heap.size, 2, none⟩ (.int .i64 q2)).setCell ⟨w.heap.size, 3, none⟩ (.bool false))) := Lib.hid (put4_but _ _ _ _ _ _)
          have HRD10 : Hid (Row ((((w9.setCell ⟨w.heap.size, 0, none⟩ (.int .i64 rm)).setCell ⟨w.heap.size, 1, none⟩ (.slice a5 L c5)).setCell ⟨w.heap.size, 2, none⟩ (.int .i64 q2)).setCell ⟨w.heap.size, 3, none⟩ (.bool false)) w.heap.size 24 [.int .i64 rm, .slice a5 L c5, .int .i64 q2, .bool false]) := Lib.hid (put4_row HRD9.out _ _ _ _)
          have HSN10 := Lib.hid (slf_one HSN9.out HRD9.out HBUT.out)
          have HB10 := Lib.hid (HB9.out.trans (HBUT.out.below (Nat.le_refl _)))
          have HPS : Hid (PS w ⟨rm, fs, q2, false⟩ a5 c5 ((((w9.setCell ⟨w.heap.size, 0, none⟩ (.int .i64 rm)).setCell ⟨w.heap.size, 1, none⟩ (.slice a5 L c5)).setCell ⟨w.heap.size, 2, none⟩ (.int .i64 q2)).setCell ⟨w.heap.size, 3, none⟩ (.bool false))) := Lib.hid ⟨HB10.out, HGN.out, by simp only; rw [← HL.out]; exact HRD10.out, by simp only; rw [← HL.out]; exact HSN10.out⟩
          have z0 := HRD10.out.cell (i := 0) rfl
          have z1 := HRD10.out.cell (i := 1) rfl
          have z2 := HRD10.out.cell (i := 2) rfl
          have z3 := HRD10.out.cell (i := 3) rfl
          go_wp2_with fail
          generalize hv : (((w9.setCell ⟨w.heap.size, 0, none⟩ (.int .i64 rm)).setCell ⟨w.heap.size, 1, none⟩ (.slice a5 L c5)).setCell ⟨w.heap.size, 2, none⟩ (.int .i64 q2)).setCell ⟨w.heap.size, 3, none⟩ (.bool false) = v10 at *
          clear hv n0 n1 n2 n3 r0 r1 r2 r3 tr0 tr1 tr2 tr3 z0 z1 z2 z3
          have HC := right_any v10 ⟨rm, fs, q2, false⟩ a5 c5 ⟨HPS.out.fs, HPS.out.rgt.fits⟩
          simp only at HC
          rw [← HL.out] at HC
          refine HC.mono ?_
          clear HC
          rintro e w11 ⟨q, rfl, hq, hb11⟩
          obtain rfl : q = true := hq.2 HPS.out.rgt
          have HPS2 := Lib.hid (HPS.out.below hb11)
          clear hq hb11
          go_wp2
          go_roundw
          case rel => exact ⟨k + 1, _, _, _, by omega, by go_num, HPS2⟩
          case measure => simp [intOf]; omega
      · skip
        obtain ⟨W2, HW2⟩ : ∃ W, Hid (W = ((wo.alloc (.cells #[.int .i64 6, .string n, .string m, .int .i64 kk] 26)).alloc (.cells #[.int .i64 0, .slice none 0 0, .int .i64 0, .bool false] 24)).alloc (.cells #[.int .i64 0, .slice none 0 0, .int .i64 0, .bool false] 24)) := ⟨_, Lib.hid rfl⟩
        have HB3 : Hid (Below wo.heap.size wo W2) := Lib.hid (by rw [HW2.out]; exact below3 _ _ _ _)
        have HSZ : Hid (W2.heap.size = wo.heap.size + 3) := Lib.hid (by rw [HW2.out]; simp)
        have HRC : Hid (Row W2 wo.heap.size 26 [.int .i64 6, .string n, .string m, .int .i64 kk]) := Lib.hid (by rw [HW2.out]; exact ((row_new wo #[.int .i64 6, .string n, .string m, .int .i64 kk] _).alloc _).alloc _)
        have HRN : Hid (Row W2 (wo.heap.size + 1) 24 [.int .i64 0, .slice none 0 0, .int .i64 0, .bool false]) := Lib.hid (by
          rw [HW2.out]
          have h := row_new (wo.alloc (.cells #[.int .i64 6, .string n, .string m, .int .i64 kk] 26)) #[.int .i64 0, .slice none 0 0, .int .i64 0, .bool false] 24
          simp only [World.size_alloc] at h
          exact h.alloc _)
        have HRT : Hid (Row W2 (wo.heap.size + 1 + 1) 24 [.int .i64 0, .slice none 0 0, .int .i64 0, .bool false]) := Lib.hid (by
          rw [HW2.out]
          have h := row_new ((wo.alloc (.cells #[.int .i64 6, .string n, .string m, .int .i64 kk] 26)).alloc (.cells #[.int .i64 0, .slice none 0 0, .int .i64 0, .bool false] 24)) #[.int .i64 0, .slice none 0 0, .int .i64 0, .bool false] 24
          simp only [World.size_alloc] at h
          exact h)
        have HRD2 := Lib.hid (HRD.out.below HB3.out)
        have HSD2 := Lib.hid (HSD.out.old HB3.out)
        have HDL : Hid (w.heap.size < wo.heap.size) := Lib.hid HRD.out.lt
        have r0 := HRD2.out.cell (i := 0) rfl
        have r1 := HRD2.out.cell (i := 1) rfl
        have r2 := HRD2.out.cell (i := 2) rfl
        have r3 := HRD2.out.cell (i := 3) rfl
        have y0 := HRC.out.cell (i := 0) rfl
        have y1 := HRC.out.cell (i := 1) rfl
        have y2 := HRC.out.cell (i := 2) rfl
        have y3 := HRC.out.cell (i := 3) rfl
        rw [HW2.out] at r0 r1 r2 r3 y0 y1 y2 y3
        go_wp2
        rw [← HW2.out]
        clear r0 r1 r2 r3 y0 y1 y2 y3 c0 c1 c2 c3 x0 x1 x2 x3 HW2
        have HLN : Hid (L ≤ 8) := Lib.hid (by have := HGD.out.fs.len; have h2 := HL.out; simp only at this; omega)
        have hln := HLN.out
        go_loopw [12, 81] (fun t i wr => ∃ (j : Nat) (v : Value), j ≤ L ∧ i = .int .i64 j ∧ v = t ∧ Hid (KS W2 kk j v wr)) (fun _ i _ => L - (intOf i).toNat)
        case atStart => exact ⟨0, _, Nat.zero_le _, rfl, rfl, Lib.hid (KS.start W2 kk)⟩
        case round =>
          obtain ⟨j, v, hj, rfl, rfl, HK⟩ := hrel
          by_cases hjl : j < L
          · have HRCq := Lib.hid (HRC.out.below HK.out.low)
            have y3 := HRCq.out.cell (i := 3) rfl
            obtain ⟨v', w', hr, HK2⟩ := HK.out.push (by have := HLN.out; omega)
            have HRUN := Lib.hid hr
            clear hr
            go_wp2_with (at_builtin; refine Lib.wpList_append_run _ rfl _ _ _ _ rfl _ _ rfl rfl _ _ HRUN.out ?_)
            go_roundw
            case rel => exact ⟨j + 1, _, by omega, by go_num, rfl, HK2⟩
            case measure => simp [intOf]; omega
          · obtain rfl : L = j := by omega
            obtain ⟨ak, ck, rfl, -, -, -⟩ := owns_form HK.out.own
            have HKL := Lib.hid HK.out.own
            have HBK := Lib.hid HK.out.low
            clear HK hj hjl
            have HRD3 := Lib.hid (HRD2.out.below HBK.out)
            have HSD3 := Lib.hid (HSD2.out.old HBK.out)
            have HRN3 := Lib.hid (HRN.out.below HBK.out)
            have HRT3 := Lib.hid (HRT.out.below HBK.out)
            have r0 := HRD3.out.cell (i := 0) rfl
            have r1 := HRD3.out.cell (i := 1) rfl
            have r2 := HRD3.out.cell (i := 2) rfl
            have r3 := HRD3.out.cell (i := 3) rfl
            go_wp2_with fail
            clear r0 r1 r2 r3
            have HC := crashok_any wr ⟨rm, fs, lf, dn⟩ aD cD ak ck (List.replicate L kk) ⟨by simp only; rw [← HL.out]; exact HSD3.out, HGD.out.fits⟩ (by rw [List.length_replicate]; exact rep_sl HKL.out) (rep_i64 HFX.out.k) HGD.out
            have HGN0 : Hid (RgtD ⟨rm, crFs (List.replicate L kk) fs, -1, false⟩) := Lib.hid (by have := @crash_right ⟨rm, fs, lf, dn⟩ (List.replicate L kk); rw [crash_yes HGD.out] at this; exact this)
            obtain ⟨cf, HCF⟩ : ∃ l, Hid (l = crFs (List.replicate L kk) fs) := ⟨_, Lib.hid rfl⟩
            have HLC : Hid (L = cf.length) := Lib.hid (by rw [HL.out, HCF.out, crs_len])
            simp only [List.length_replicate] at HC
            rw [← HL.out] at HC
            rw [← HCF.out] at HC HGN0
            have HGN := HGN0
            clear HGN0
            refine HC.mono ?_
            clear HC
            rintro e w5 ⟨a5, c5, rfl, hs5, hb5⟩
            have HS5 := Lib.hid hs5
            have HB5 := Lib.hid hb5
            clear hs5 hb5
            have HRD5 := Lib.hid (HRD3.out.below HB5.out)
            have HSD5 := Lib.hid (HSD3.out.old HB5.out)
            have HRN5 := Lib.hid (HRN3.out.below HB5.out)
            have HRT5 := Lib.hid (HRT3.out.below HB5.out)
            have HKL5 := Lib.hid (ownsRow_below HKL.out HB5.out)
            have n0 := HRN5.out.cell (i := 0) rfl
            have n1 := HRN5.out.cell (i := 1) rfl
            have n2 := HRN5.out.cell (i := 2) rfl
            have n3 := HRN5.out.cell (i := 3) rfl
            have tn0 := HRN5.out.thaw 0
            have tn1 := HRN5.out.thaw 1
            have tn2 := HRN5.out.thaw 2
            have tn3 := HRN5.out.thaw 3
            have HBU6 : Hid (But (wo.heap.size + 1) w5 ((((w5.setCell ⟨wo.heap.size + 1, 0, none⟩ (.int .i64 rm)).setCell ⟨wo.heap.size + 1, 1, none⟩ (.slice a5 L c5)).setCell ⟨wo.heap.size + 1, 2, none⟩ (.int .i64 (-1))).setCell ⟨wo.heap.size + 1, 3, none⟩ (.bool false))) := Lib.hid (put4_but _ _ _ _ _ _)
            have HRN6 : Hid (Row ((((w5.setCell ⟨wo.heap.size + 1, 0, none⟩ (.int .i64 rm)).setCell ⟨wo.heap.size + 1, 1, none⟩ (.slice a5 L c5)).setCell ⟨wo.heap.size + 1, 2, none⟩ (.int .i64 (-1))).setCell ⟨wo.heap.size + 1, 3, none⟩ (.bool false)) (wo.heap.size + 1) 24 [.int .i64 rm, .slice a5 L c5, .int .i64 (-1), .bool false]) := Lib.hid (put4_row HRN5.out _ _ _ _)
            have HRD6 := Lib.hid (HBU6.out.row HRD5.out (by have := HDL.out; omega))
            have HRT6 := Lib.hid (HBU6.out.row HRT5.out (by omega))
            have HS6 := Lib.hid (slf_one HS5.out HRN5.out HBU6.out)
            have HSD6 := Lib.hid (slf_one HSD5.out HRN5.out HBU6.out)
            have HKL6 := Lib.hid (owns_but HKL5.out HBU6.out (by have := HSZ.out; omega))
            have HB6 : Hid (Below wo.heap.size wo ((((w5.setCell ⟨wo.heap.size + 1, 0, none⟩ (.int .i64 rm)).setCell ⟨wo.heap.size + 1, 1, none⟩ (.slice a5 L c5)).setCell ⟨wo.heap.size + 1, 2, none⟩ (.int .i64 (-1))).setCell ⟨wo.heap.size + 1, 3, none⟩ (.bool false))) := Lib.hid ((below_trans (below_trans HB3.out HBK.out) HB5.out).trans (HBU6.out.below (by omega)))
            have r0 := HRD6.out.cell (i := 0) rfl
            have r1 := HRD6.out.cell (i := 1) rfl
            have r2 := HRD6.out.cell (i := 2) rfl
            have r3 := HRD6.out.cell (i := 3) rfl
            go_wp2_with fail
            generalize hv : (((w5.setCell ⟨wo.heap.size + 1, 0, none⟩ (.int .i64 rm)).setCell ⟨wo.heap.size + 1, 1, none⟩ (.slice a5 L c5)).setCell ⟨wo.heap.size + 1, 2, none⟩ (.int .i64 (-1))).setCell ⟨wo.heap.size + 1, 3, none⟩ (.bool false) = w6 at *
            clear hv n0 n1 n2 n3 tn0 tn1 tn2 tn3 r0 r1 r2 r3 HRD5 HSD5 HRN5 HRT5 HS5 HB5 HKL5
            have HC := rcrash_any w6 ⟨rm, fs, lf, dn⟩ aD cD ak ck (List.replicate L kk) ⟨by simp only; rw [← HL.out]; exact HSD6.out, HGD.out.fits⟩ (by have := HLN.out; have h2 := HL.out; simp only; omega) (by rw [List.length_replicate]; exact rep_sl HKL6.out)
            simp only [List.length_replicate] at HC
            rw [← HL.out, ← HCF.out] at HC
            refine HC.mono ?_
            clear HC
            rintro e w7 ⟨a7, c7, rfl, hs7, hb7⟩
            have HS7 := Lib.hid hs7
            have HB7 := Lib.hid hb7
            clear hs7 hb7
            have HRD7 := Lib.hid (HRD6.out.below HB7.out)
            have HSD7 := Lib.hid (HSD6.out.old HB7.out)
            have HRN7 := Lib.hid (HRN6.out.below HB7.out)
            have HSN7 := Lib.hid (HS6.out.old HB7.out)
            have HRT7 := Lib.hid (HRT6.out.below HB7.out)
            have t0 := HRT7.out.cell (i := 0) rfl
            have t1 := HRT7.out.cell (i := 1) rfl
            have t2 := HRT7.out.cell (i := 2) rfl
            have t3 := HRT7.out.cell (i := 3) rfl
            have tt0 := HRT7.out.thaw 0
            have tt1 := HRT7.out.thaw 1
            have tt2 := HRT7.out.thaw 2
            have tt3 := HRT7.out.thaw 3
            have HBU8 : Hid (But (wo.heap.size + 1 + 1) w7 ((((w7.setCell ⟨wo.heap.size + 1 + 1, 0, none⟩ (.int .i64 rm)).setCell ⟨wo.heap.size + 1 + 1, 1, none⟩ (.slice a7 L c7)).setCell ⟨wo.heap.size + 1 + 1, 2, none⟩ (.int .i64 (-1))).setCell ⟨wo.heap.size + 1 + 1, 3, none⟩ (.bool false))) := Lib.hid (put4_but _ _ _ _ _ _)
            have HRT8 : Hid (Row ((((w7.setCell ⟨wo.heap.size + 1 + 1, 0, none⟩ (.int .i64 rm)).setCell ⟨wo.heap.size + 1 + 1, 1, none⟩ (.slice a7 L c7)).setCell ⟨wo.heap.size + 1 + 1, 2, none⟩ (.int .i64 (-1))).setCell ⟨wo.heap.size + 1 + 1, 3, none⟩ (.bool false)) (wo.heap.size + 1 + 1) 24 [.int .i64 rm, .slice a7 L c7, .int .i64 (-1), .bool false]) := Lib.hid (put4_row HRT7.out _ _ _ _)
            have HRD8 := Lib.hid (HBU8.out.row HRD7.out (by have := HDL.out; omega))
            have HRN8 := Lib.hid (HBU8.out.row HRN7.out (by omega))
            have HSN8 := Lib.hid (slf_one HSN7.out HRT7.out HBU8.out)
            have HST8 := Lib.hid (slf_one HS7.out HRT7.out HBU8.out)
            have HSD8 := Lib.hid (slf_one HSD7.out HRT7.out HBU8.out)
            have HB8 : Hid (Below wo.heap.size wo ((((w7.setCell ⟨wo.heap.size + 1 + 1, 0, none⟩ (.int .i64 rm)).setCell ⟨wo.heap.size + 1 + 1, 1, none⟩ (.slice a7 L c7)).setCell ⟨wo.heap.size + 1 + 1, 2, none⟩ (.int .i64 (-1))).setCell ⟨wo.heap.size + 1 + 1, 3, none⟩ (.bool false))) := Lib.hid ((below_trans HB6.out HB7.out).trans (HBU8.out.below (by omega)))
            have n0 := HRN8.out.cell (i := 0) rfl
            have n1 := HRN8.out.cell (i := 1) rfl
            have n2 := HRN8.out.cell (i := 2) rfl
            have n3 := HRN8.out.cell (i := 3) rfl
            have m0 := HRT8.out.cell (i := 0) rfl
            have m1 := HRT8.out.cell (i := 1) rfl
            have m2 := HRT8.out.cell (i := 2) rfl
            have m3 := HRT8.out.cell (i := 3) rfl
            have HLK := Lib.hid (like_any ((((w7.setCell ⟨wo.heap.size + 1 + 1, 0, none⟩ (.int .i64 rm)).setCell ⟨wo.heap.size + 1 + 1, 1, none⟩ (.slice a7 L c7)).setCell ⟨wo.heap.size + 1 + 1, 2, none⟩ (.int .i64 (-1))).setCell ⟨wo.heap.size + 1 + 1, 3, none⟩ (.bool false)) ⟨rm, cf, -1, false⟩ a5 a7 c5 c7 (by simp only; rw [← HLC.out]; exact HSN8.out) (by simp only; rw [← HLC.out]; exact HST8.out))
            simp only at HLK
            rw [← HLC.out] at HLK
            go_wp2_with fail
            generalize hv : (((w7.setCell ⟨wo.heap.size + 1 + 1, 0, none⟩ (.int .i64 rm)).setCell ⟨wo.heap.size + 1 + 1, 1, none⟩ (.slice a7 L c7)).setCell ⟨wo.heap.size + 1 + 1, 2, none⟩ (.int .i64 (-1))).setCell ⟨wo.heap.size + 1 + 1, 3, none⟩ (.bool false) = w8 at *
            clear hv n0 n1 n2 n3 m0 m1 m2 m3 t0 t1 t2 t3 tt0 tt1 tt2 tt3
            refine HLK.out.mono ?_
            rintro e w9 ⟨rfl, hb9⟩
            have HRD9 := Lib.hid (HRD8.out.below hb9)
            have HSD9 := Lib.hid (HSD8.out.old hb9)
            have HRN9 := Lib.hid (HRN8.out.below hb9)
            have HSN9 := Lib.hid (HSN8.out.old hb9)
            have HB9 := Lib.hid (below_trans HBW.out (below_trans HB8.out hb9))
            clear hb9 HLK HRD8 HSD8 HRN8 HSN8 HB8 HRT8 HRC HRN HRT HRD2 HSD2 HB3 HSZ HRC0
            clear HS7 HB7 HRD7 HSD7 HRN7 HSN7 HRT7 HB6 HRD6 HSD6 HRN6 HS6 HRT6 HKL6 HKL HBK
            have n0 := HRN9.out.cell (i := 0) rfl
            have n1 := HRN9.out.cell (i := 1) rfl
            have n2 := HRN9.out.cell (i := 2) rfl
            have n3 := HRN9.out.cell (i := 3) rfl
            have r0 := HRD9.out.cell (i := 0) rfl
            have r1 := HRD9.out.cell (i := 1) rfl
            have r2 := HRD9.out.cell (i := 2) rfl
            have r3 := HRD9.out.cell (i := 3) rfl
            have tr0 := HRD9.out.thaw 0
            have tr1 := HRD9.out.thaw 1
            have tr2 := HRD9.out.thaw 2
            have tr3 := HRD9.out.thaw 3
            have HBUT : Hid (But w.heap.size w9 ((((w9.setCell ⟨w.heap.size, 0, none⟩ (.int .i64 rm)).setCell ⟨w.heap.size, 1, none⟩ (.slice a5 L c5)).setCell ⟨w.heap.size, 2, none⟩ (.int .i64 (-1))).setCell ⟨w.heap.size, 3, none⟩ (.bool false))) := Lib.hid (put4_but _ _ _ _ _ _)
            have HRD10 : Hid (Row ((((w9.setCell ⟨w.heap.size, 0, none⟩ (.int .i64 rm)).setCell ⟨w.heap.size, 1, none⟩ (.slice a5 L c5)).setCell ⟨w.heap.size, 2, none⟩ (.int .i64 (-1))).setCell ⟨w.heap.size, 3, none⟩ (.bool false)) w.heap.size 24 [.int .i64 rm, .slice a5 L c5, .int .i64 (-1), .bool false]) := Lib.hid (put4_row HRD9.out _ _ _ _)
            have HSN10 := Lib.hid (slf_one HSN9.out HRD9.out HBUT.out)
            have HB10 := Lib.hid (HB9.out.trans (HBUT.out.below (Nat.le_refl _)))
            have HPS : Hid (PS w ⟨rm, cf, -1, false⟩ a5 c5 ((((w9.setCell ⟨w.heap.size, 0, none⟩ (.int .i64 rm)).setCell ⟨w.heap.size, 1, none⟩ (.slice a5 L c5)).setCell ⟨w.heap.size, 2, none⟩ (.int .i64 (-1))).setCell ⟨w.heap.size, 3, none⟩ (.bool false))) := Lib.hid ⟨HB10.out, HGN.out, by simp only; rw [← HLC.out]; exact HRD10.out, by simp only; rw [← HLC.out]; exact HSN10.out⟩
            have z0 := HRD10.out.cell (i := 0) rfl
            have z1 := HRD10.out.cell (i := 1) rfl
            have z2 := HRD10.out.cell (i := 2) rfl
            have z3 := HRD10.out.cell (i := 3) rfl
            go_wp2_with fail
            generalize hv : (((w9.setCell ⟨w.heap.size, 0, none⟩ (.int .i64 rm)).setCell ⟨w.heap.size, 1, none⟩ (.slice a5 L c5)).setCell ⟨w.heap.size, 2, none⟩ (.int .i64 (-1))).setCell ⟨w.heap.size, 3, none⟩ (.bool false) = v10 at *
            clear hv n0 n1 n2 n3 r0 r1 r2 r3 tr0 tr1 tr2 tr3 z0 z1 z2 z3
            have HC := right_any v10 ⟨rm, cf, -1, false⟩ a5 c5 ⟨HPS.out.fs, HPS.out.rgt.fits⟩
            simp only at HC
            rw [← HLC.out] at HC
            refine HC.mono ?_
            clear HC
            rintro e w11 ⟨q, rfl, hq, hb11⟩
            obtain rfl : q = true := hq.2 HPS.out.rgt
            have HPS2 := Lib.hid (HPS.out.below hb11)
            clear hq hb11
            go_wp2
            go_roundw
            case rel => exact ⟨k + 1, _, _, _, by omega, by go_num, HPS2⟩
            case measure => simp [intOf]; omega
      · skip
        have v1 : (wh == 1) = false := by rw [beq_eq_false_iff_ne]; exact h1
        have v2 : (wh == 2) = false := by rw [beq_eq_false_iff_ne]; exact h2
        have v3 : (wh == 3) = false := by rw [beq_eq_false_iff_ne]; exact h3
        have v4 : (wh == 4) = false := by rw [beq_eq_false_iff_ne]; exact h4
        have v5 : (wh == 5) = false := by rw [beq_eq_false_iff_ne]; exact h5
        have v6 : (wh == 6) = false := by rw [beq_eq_false_iff_ne]; exact h6
        clear h1 h2 h3 h4 h5 h6
        obtain ⟨W2, HW2⟩ : ∃ W, Hid (W = ((wo.alloc (.cells #[.int .i64 wh, .string n, .string m, .int .i64 kk] 26)).alloc (.cells #[.int .i64 0, .slice none 0 0, .int .i64 0, .bool false] 24)).alloc (.cells #[.int .i64 0, .slice none 0 0, .int .i64 0, .bool false] 24)) := ⟨_, Lib.hid rfl⟩
        have HB3 : Hid (Below wo.heap.size wo W2) := Lib.hid (by rw [HW2.out]; exact below3 _ _ _ _)
        have HSZ : Hid (W2.heap.size = wo.heap.size + 3) := Lib.hid (by rw [HW2.out]; simp)
        have HRC : Hid (Row W2 wo.heap.size 26 [.int .i64 wh, .string n, .string m, .int .i64 kk]) := Lib.hid (by rw [HW2.out]; exact ((row_new wo #[.int .i64 wh, .string n, .string m, .int .i64 kk] _).alloc _).alloc _)
        have HRN : Hid (Row W2 (wo.heap.size + 1) 24 [.int .i64 0, .slice none 0 0, .int .i64 0, .bool false]) := Lib.hid (by
          rw [HW2.out]
          have h := row_new (wo.alloc (.cells #[.int .i64 wh, .string n, .string m, .int .i64 kk] 26)) #[.int .i64 0, .slice none 0 0, .int .i64 0, .bool false] 24
          simp only [World.size_alloc] at h
          exact h.alloc _)
        have HRT : Hid (Row W2 (wo.heap.size + 1 + 1) 24 [.int .i64 0, .slice none 0 0, .int .i64 0, .bool false]) := Lib.hid (by
          rw [HW2.out]
          have h := row_new ((wo.alloc (.cells #[.int .i64 wh, .string n, .string m, .int .i64 kk] 26)).alloc (.cells #[.int .i64 0, .slice none 0 0, .int .i64 0, .bool false] 24)) #[.int .i64 0, .slice none 0 0, .int .i64 0, .bool false] 24
          simp only [World.size_alloc] at h
          exact h)
        have HRD2 := Lib.hid (HRD.out.below HB3.out)
        have HSD2 := Lib.hid (HSD.out.old HB3.out)
        have HDL : Hid (w.heap.size < wo.heap.size) := Lib.hid HRD.out.lt
        have r0 := HRD2.out.cell (i := 0) rfl
        have r1 := HRD2.out.cell (i := 1) rfl
        have r2 := HRD2.out.cell (i := 2) rfl
        have r3 := HRD2.out.cell (i := 3) rfl
        have y0 := HRC.out.cell (i := 0) rfl
        have y1 := HRC.out.cell (i := 1) rfl
        have y2 := HRC.out.cell (i := 2) rfl
        have y3 := HRC.out.cell (i := 3) rfl
        rw [HW2.out] at r0 r1 r2 r3 y0 y1 y2 y3
        have HPS := Lib.hid (HP.out.below HB3.out)
        rw [HW2.out] at HPS
        go_wp2
        go_roundw
        case rel => exact ⟨k + 1, _, _, _, by omega, by go_num, HPS⟩
        case measure => simp [intOf]; omega
end Go.Proofs.Ytmhdodiipkkjpaa.Dk
