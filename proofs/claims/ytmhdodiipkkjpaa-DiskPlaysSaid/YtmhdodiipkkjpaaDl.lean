/- The laws of disks: alive; the law's call; HasPrefix. -/
import Derived.Test.YtmhdodiipkkjpaaDz1
import Derived.Test.YtmhdodiipkkjpaaDz2
import Derived.Test.YtmhdodiipkkjpaaDz3
import Derived.Test.YtmhdodiipkkjpaaDz4
import Derived.Test.YtmhdodiipkkjpaaDq
import Derived.Test.YtmhdodiipkkjpaaDs
import Derived.Test.YtmhdodiipkkjpaaDar
namespace Go.Proofs.Ytmhdodiipkkjpaa.Dk
open Go.RowKit

abbrev aD : Dsk := ⟨9, [], -1, false⟩
theorem aD_right : RgtD aD := ⟨by decide, by decide, ⟨by simp, fun f h => (by cases h), List.Pairwise.nil⟩, by simp [sizF], by decide⟩
theorem alive_math : writeF aD ⟨#[97]⟩ ⟨#[120]⟩ = (⟨9, [⟨⟨#[97]⟩, noB, noB ++ ⟨#[120]⟩⟩], -1, false⟩, 0) := by
  unfold writeF
  rw [findE_no aD_right (by decide) rfl rfl]
  simp only
  rw [if_pos ⟨trivial, by decide⟩]
  unfold putF
  rw [if_neg (by decide)]
  rfl

set_option maxHeartbeats 1600000 in
set_option maxRecDepth 100000 in
theorem alive_any (w : World) : Calls Try.prog 8 #[] w fun e w' => e = .returned (.bool true) ∧ Below w.heap.size w w' := by
  have HW := Lib.hid (write_any w aD none 0 ⟨#[97]⟩ ⟨#[120]⟩ ⟨fsn _, fun x hx => by cases hx⟩ (by decide) (by decide))
  simp only [List.length_nil] at HW
  go_enter Try.func8, Try.ntmps8
  go_wp2_with fail
  refine HW.out.mono ?_
  rintro e w1 ⟨a1, c1, rfl, hs, hb⟩
  have HB := Lib.hid (below_trans hb (below1 w1 (.cells #[.int .i64 9, .slice a1 1 c1, .int .i64 (-1), .bool false] 24)))
  have R := row_new w1 #[.int .i64 9, .slice a1 1 c1, .int .i64 (-1), .bool false] 24
  have r1 := R.cell (i := 1) rfl
  clear hs hb R
  rw [alive_math]
  simp only [List.length_singleton]
  go_wp2
  go_ret
  exact ⟨rfl, HB.out⟩

theorem ba_size (s : BA) : s.size = s.data.toList.length := by rw [Array.length_toList]; rfl
/-- What stands ahead of the rest. -/
theorem pre_cut (p r : BA) : ByteArray.extract (p ++ r) 0 p.size = p := by
  apply ByteArray.ext
  rw [ByteArray.data_extract, ByteArray.data_append]
  show (p.data ++ r.data).extract 0 p.data.size = p.data
  rw [Array.extract_append_left, Array.extract_size]

set_option maxHeartbeats 1600000 in
set_option maxRecDepth 100000 in
theorem prefix_any (w : World) (p r : BA) (_hs : p.size + r.size ≤ 1000000000) : Calls Try.prog 20 #[.string (p ++ r), .string p] w fun e w' => e = .returned (.bool true) ∧ w = w' := by
  have hsz : (p ++ r).size = p.size + r.size := ByteArray.size_append
  have HC := Lib.hid (pre_cut p r)
  have HIN : Hid (Calls Try.prog 33 #[.string (p ++ r), .string p] w fun e w' => e = .returned (.bool true) ∧ w = w') := Lib.hid (by
    generalize p ++ r = s at *
    have hc := HC.out
    have q1 : decide ((p.size : Int) ≤ (s.size : Int)) = true := decide_eq_true (by omega)
    have q2 : (p.size : Int) ≤ (s.size : Int) := by omega
    have q3 : (p.toList == p.toList) = true := by simp
    clear HC
    go_enter Try.func33, Try.ntmps33
    go_wp2
    go_ret
    exact ⟨rfl, rfl⟩)
  clear hsz HC
  go_enter Try.func20, Try.ntmps20
  go_wp2_with fail
  refine HIN.out.mono ?_
  rintro e w1 ⟨rfl, rfl⟩
  go_wp2
  go_ret
  exact ⟨rfl, rfl⟩


set_option maxHeartbeats 3200000 in
set_option maxRecDepth 100000 in
theorem call_any (w : World) (d : Dsk) (a : Option Addr) (cap : Nat) (x : Cal) (h : DAt w d a cap) (hx : FitC x) :
    Calls Try.prog 9 #[diV d (.slice a d.fs.length cap), caV x] w (DkP (callF x.what d x.n x.m) w) := by
  obtain ⟨wh, n, m, kk⟩ := x
  have hn := hx.n
  have hm := hx.m
  simp only at hn hm ⊢
  have HC1 := Lib.hid (fun W (hb : Below w.heap.size w W) => write_any W d a cap n m (h.old hb) hn hm)
  have HC2 := Lib.hid (fun W (hb : Below w.heap.size w W) => sync_any W d a cap n (h.old hb) hn)
  have HC3 := Lib.hid (fun W (hb : Below w.heap.size w W) => rename_any W d a cap n m (h.old hb) hn hm)
  have HC4 := Lib.hid (fun W (hb : Below w.heap.size w W) => remove_any W d a cap n (h.old hb) hn)
  clear h hx
  obtain ⟨rm, fs, lf, dn⟩ := d
  obtain ⟨L, HL⟩ : ∃ L, Hid (L = fs.length) := ⟨_, Lib.hid rfl⟩
  simp only at HC1 HC2 HC3 HC4 ⊢
  rw [← HL.out] at HC1 HC2 HC3 HC4 ⊢
  obtain ⟨W1, HW1⟩ : ∃ W, Hid (W = ((w.alloc (.cells #[.int .i64 rm, .slice a L cap, .int .i64 lf, .bool dn] 24)).alloc (.cells #[.int .i64 wh, .string n, .string m, .int .i64 kk] 26)).alloc (.cells #[.int .i64 0, .slice none 0 0, .int .i64 0, .bool false] 24)) := ⟨_, Lib.hid rfl⟩
  have HB1 : Hid (Below w.heap.size w W1) := Lib.hid (by rw [HW1.out]; exact below3 _ _ _ _)
  have HRD : Hid (Row W1 w.heap.size 24 [.int .i64 rm, .slice a L cap, .int .i64 lf, .bool dn]) := Lib.hid (by rw [HW1.out]; exact ((row_new w #[.int .i64 rm, .slice a L cap, .int .i64 lf, .bool dn] _).alloc _).alloc _)
  have HRC : Hid (Row W1 (w.heap.size + 1) 26 [.int .i64 wh, .string n, .string m, .int .i64 kk]) := Lib.hid (by
    rw [HW1.out]
    have h := row_new (w.alloc (.cells #[.int .i64 rm, .slice a L cap, .int .i64 lf, .bool dn] 24)) #[.int .i64 wh, .string n, .string m, .int .i64 kk] 26
    simp only [World.size_alloc] at h
    exact h.alloc _)
  have HRR : Hid (Row W1 (w.heap.size + 1 + 1) 24 [.int .i64 0, .slice none 0 0, .int .i64 0, .bool false]) := Lib.hid (by
    rw [HW1.out]
    have h := row_new ((w.alloc (.cells #[.int .i64 rm, .slice a L cap, .int .i64 lf, .bool dn] 24)).alloc (.cells #[.int .i64 wh, .string n, .string m, .int .i64 kk] 26)) #[.int .i64 0, .slice none 0 0, .int .i64 0, .bool false] 24
    simp only [World.size_alloc] at h
    exact h)
  have r0 := HRD.out.cell (i := 0) rfl
  have r1 := HRD.out.cell (i := 1) rfl
  have r2 := HRD.out.cell (i := 2) rfl
  have r3 := HRD.out.cell (i := 3) rfl
  have c0 := HRC.out.cell (i := 0) rfl
  have c1 := HRC.out.cell (i := 1) rfl
  have c2 := HRC.out.cell (i := 2) rfl
  rw [HW1.out] at r0 r1 r2 r3 c0 c1 c2
  by_cases h1 : wh = 1
  · subst h1
    go_enter Try.func9, Try.ntmps9
    go_wp2_with fail
    rw [← HW1.out]
    refine (HC1.out W1 HB1.out).mono ?_
    rintro e w7 ⟨a7, c7, rfl, hs7, hb7⟩
    have HB7 := Lib.hid hb7
    have HRR7 := Lib.hid (HRR.out.below HB7.out)
    have HS7 := Lib.hid hs7
    clear hb7 hs7 r0 r1 r2 r3 c0 c1 c2 HW1
    obtain ⟨r, HRS⟩ : ∃ r, Hid (r = writeF ⟨rm, fs, lf, dn⟩ n m) := ⟨_, Lib.hid rfl⟩
    have HRT : Hid (callF 1 ⟨rm, fs, lf, dn⟩ n m = r) := Lib.hid (by rw [HRS.out]; rfl)
    rw [← HRS.out] at HS7 ⊢
    obtain ⟨⟨rr, rf, rl, rd⟩, k⟩ := r
    simp only at HS7 ⊢
    obtain ⟨L7, HL7⟩ : ∃ L, Hid (L = rf.length) := ⟨_, Lib.hid rfl⟩
    rw [← HL7.out] at HS7 ⊢
    have HFIN : Hid (DkP (callF 1 ⟨rm, fs, lf, dn⟩ n m) w (.returned (.tuple #[.agg #[.int .i64 rr, .slice a7 L7 c7, .int .i64 rl, .bool rd], .int .i64 (k : Nat)])) (put4 w7 (w.heap.size + 1 + 1) (.int .i64 rr) (.slice a7 L7 c7) (.int .i64 rl) (.bool rd))) := Lib.hid (by rw [HRT.out]; exact DkP.put (a := a7) (cap := c7) (w7 := w7) (R := w.heap.size + 1 + 1) (by simp only; rw [← HL7.out]; exact HS7.out) (below_trans HB1.out HB7.out) (by omega) HRR7.out (by simp only; rw [← HL7.out]) (by simp only; rw [← HL7.out]))
    have k0 := HRR7.out.cell (i := 0) rfl
    have k1 := HRR7.out.cell (i := 1) rfl
    have k2 := HRR7.out.cell (i := 2) rfl
    have k3 := HRR7.out.cell (i := 3) rfl
    have tk0 := HRR7.out.thaw 0
    have tk1 := HRR7.out.thaw 1
    have tk2 := HRR7.out.thaw 2
    have tk3 := HRR7.out.thaw 3
    have R9 := put4_row HRR7.out (.int .i64 rr) (.slice a7 L7 c7) (.int .i64 rl) (.bool rd)
    have f0 := R9.cell (i := 0) rfl
    have f1 := R9.cell (i := 1) rfl
    have f2 := R9.cell (i := 2) rfl
    have f3 := R9.cell (i := 3) rfl
    clear R9 HRS HRT
    go_wp2
    exact bodyPost_ret (v := .tuple #[.agg #[.int .i64 rr, .slice a7 L7 c7, .int .i64 rl, .bool rd], .int .i64 (k : Nat)]) (by simp [results, Try.results9, go_sem, f0, f1, f2, f3]) rfl HFIN.out
  · have u1 : (wh == 1) = false := by rw [beq_eq_false_iff_ne]; exact h1
    by_cases h2 : wh = 2
    · subst h2
      go_enter Try.func9, Try.ntmps9
      go_wp2_with fail
      rw [← HW1.out]
      refine (HC2.out W1 HB1.out).mono ?_
      rintro e w7 ⟨a7, c7, rfl, hs7, hb7⟩
      have HB7 := Lib.hid hb7
      have HRR7 := Lib.hid (HRR.out.below HB7.out)
      have HS7 := Lib.hid hs7
      clear hb7 hs7 r0 r1 r2 r3 c0 c1 c2 HW1
      obtain ⟨r, HRS⟩ : ∃ r, Hid (r = syncF ⟨rm, fs, lf, dn⟩ n) := ⟨_, Lib.hid rfl⟩
      have HRT : Hid (callF 2 ⟨rm, fs, lf, dn⟩ n m = r) := Lib.hid (by rw [HRS.out]; rfl)
      rw [← HRS.out] at HS7 ⊢
      obtain ⟨⟨rr, rf, rl, rd⟩, k⟩ := r
      simp only at HS7 ⊢
      obtain ⟨L7, HL7⟩ : ∃ L, Hid (L = rf.length) := ⟨_, Lib.hid rfl⟩
      rw [← HL7.out] at HS7 ⊢
      have HFIN : Hid (DkP (callF 2 ⟨rm, fs, lf, dn⟩ n m) w (.returned (.tuple #[.agg #[.int .i64 rr, .slice a7 L7 c7, .int .i64 rl, .bool rd], .int .i64 (k : Nat)])) (put4 w7 (w.heap.size + 1 + 1) (.int .i64 rr) (.slice a7 L7 c7) (.int .i64 rl) (.bool rd))) := Lib.hid (by rw [HRT.out]; exact DkP.put (a := a7) (cap := c7) (w7 := w7) (R := w.heap.size + 1 + 1) (by simp only; rw [← HL7.out]; exact HS7.out) (below_trans HB1.out HB7.out) (by omega) HRR7.out (by simp only; rw [← HL7.out]) (by simp only; rw [← HL7.out]))
      have k0 := HRR7.out.cell (i := 0) rfl
      have k1 := HRR7.out.cell (i := 1) rfl
      have k2 := HRR7.out.cell (i := 2) rfl
      have k3 := HRR7.out.cell (i := 3) rfl
      have tk0 := HRR7.out.thaw 0
      have tk1 := HRR7.out.thaw 1
      have tk2 := HRR7.out.thaw 2
      have tk3 := HRR7.out.thaw 3
      have R9 := put4_row HRR7.out (.int .i64 rr) (.slice a7 L7 c7) (.int .i64 rl) (.bool rd)
      have f0 := R9.cell (i := 0) rfl
      have f1 := R9.cell (i := 1) rfl
      have f2 := R9.cell (i := 2) rfl
      have f3 := R9.cell (i := 3) rfl
      clear R9 HRS HRT
      go_wp2
      exact bodyPost_ret (v := .tuple #[.agg #[.int .i64 rr, .slice a7 L7 c7, .int .i64 rl, .bool rd], .int .i64 (k : Nat)]) (by simp [results, Try.results9, go_sem, f0, f1, f2, f3]) rfl HFIN.out
    · have u2 : (wh == 2) = false := by rw [beq_eq_false_iff_ne]; exact h2
      by_cases h3 : wh = 3
      · subst h3
        go_enter Try.func9, Try.ntmps9
        go_wp2_with fail
        rw [← HW1.out]
        refine (HC3.out W1 HB1.out).mono ?_
        rintro e w7 ⟨a7, c7, rfl, hs7, hb7⟩
        have HB7 := Lib.hid hb7
        have HRR7 := Lib.hid (HRR.out.below HB7.out)
        have HS7 := Lib.hid hs7
        clear hb7 hs7 r0 r1 r2 r3 c0 c1 c2 HW1
        obtain ⟨r, HRS⟩ : ∃ r, Hid (r = renF ⟨rm, fs, lf, dn⟩ n m) := ⟨_, Lib.hid rfl⟩
        have HRT : Hid (callF 3 ⟨rm, fs, lf, dn⟩ n m = r) := Lib.hid (by rw [HRS.out]; rfl)
        rw [← HRS.out] at HS7 ⊢
        obtain ⟨⟨rr, rf, rl, rd⟩, k⟩ := r
        simp only at HS7 ⊢
        obtain ⟨L7, HL7⟩ : ∃ L, Hid (L = rf.length) := ⟨_, Lib.hid rfl⟩
        rw [← HL7.out] at HS7 ⊢
        have HFIN : Hid (DkP (callF 3 ⟨rm, fs, lf, dn⟩ n m) w (.returned (.tuple #[.agg #[.int .i64 rr, .slice a7 L7 c7, .int .i64 rl, .bool rd], .int .i64 (k : Nat)])) (put4 w7 (w.heap.size + 1 + 1) (.int .i64 rr) (.slice a7 L7 c7) (.int .i64 rl) (.bool rd))) := Lib.hid (by rw [HRT.out]; exact DkP.put (a := a7) (cap := c7) (w7 := w7) (R := w.heap.size + 1 + 1) (by simp only; rw [← HL7.out]; exact HS7.out) (below_trans HB1.out HB7.out) (by omega) HRR7.out (by simp only; rw [← HL7.out]) (by simp only; rw [← HL7.out]))
        have k0 := HRR7.out.cell (i := 0) rfl
        have k1 := HRR7.out.cell (i := 1) rfl
        have k2 := HRR7.out.cell (i := 2) rfl
        have k3 := HRR7.out.cell (i := 3) rfl
        have tk0 := HRR7.out.thaw 0
        have tk1 := HRR7.out.thaw 1
        have tk2 := HRR7.out.thaw 2
        have tk3 := HRR7.out.thaw 3
        have R9 := put4_row HRR7.out (.int .i64 rr) (.slice a7 L7 c7) (.int .i64 rl) (.bool rd)
        have f0 := R9.cell (i := 0) rfl
        have f1 := R9.cell (i := 1) rfl
        have f2 := R9.cell (i := 2) rfl
        have f3 := R9.cell (i := 3) rfl
        clear R9 HRS HRT
        go_wp2
        exact bodyPost_ret (v := .tuple #[.agg #[.int .i64 rr, .slice a7 L7 c7, .int .i64 rl, .bool rd], .int .i64 (k : Nat)]) (by simp [results, Try.results9, go_sem, f0, f1, f2, f3]) rfl HFIN.out
      · have u3 : (wh == 3) = false := by rw [beq_eq_false_iff_ne]; exact h3
        have HW0 : Hid (callF wh ⟨rm, fs, lf, dn⟩ n m = remF ⟨rm, fs, lf, dn⟩ n) := Lib.hid (by unfold callF; rw [if_neg h1, if_neg h2, if_neg h3])
        clear h1 h2 h3
        go_enter Try.func9, Try.ntmps9
        go_wp2_with fail
        rw [← HW1.out]
        refine (HC4.out W1 HB1.out).mono ?_
        rintro e w7 ⟨a7, c7, rfl, hs7, hb7⟩
        have HB7 := Lib.hid hb7
        have HRR7 := Lib.hid (HRR.out.below HB7.out)
        have HS7 := Lib.hid hs7
        clear hb7 hs7 r0 r1 r2 r3 c0 c1 c2 HW1
        obtain ⟨r, HRS⟩ : ∃ r, Hid (r = remF ⟨rm, fs, lf, dn⟩ n) := ⟨_, Lib.hid rfl⟩
        have HRT : Hid (callF wh ⟨rm, fs, lf, dn⟩ n m = r) := Lib.hid (by rw [HRS.out]; exact HW0.out)
        rw [← HRS.out] at HS7 ⊢
        obtain ⟨⟨rr, rf, rl, rd⟩, k⟩ := r
        simp only at HS7 ⊢
        obtain ⟨L7, HL7⟩ : ∃ L, Hid (L = rf.length) := ⟨_, Lib.hid rfl⟩
        rw [← HL7.out] at HS7 ⊢
        have HFIN : Hid (DkP (callF wh ⟨rm, fs, lf, dn⟩ n m) w (.returned (.tuple #[.agg #[.int .i64 rr, .slice a7 L7 c7, .int .i64 rl, .bool rd], .int .i64 (k : Nat)])) (put4 w7 (w.heap.size + 1 + 1) (.int .i64 rr) (.slice a7 L7 c7) (.int .i64 rl) (.bool rd))) := Lib.hid (by rw [HRT.out]; exact DkP.put (a := a7) (cap := c7) (w7 := w7) (R := w.heap.size + 1 + 1) (by simp only; rw [← HL7.out]; exact HS7.out) (below_trans HB1.out HB7.out) (by omega) HRR7.out (by simp only; rw [← HL7.out]) (by simp only; rw [← HL7.out]))
        have k0 := HRR7.out.cell (i := 0) rfl
        have k1 := HRR7.out.cell (i := 1) rfl
        have k2 := HRR7.out.cell (i := 2) rfl
        have k3 := HRR7.out.cell (i := 3) rfl
        have tk0 := HRR7.out.thaw 0
        have tk1 := HRR7.out.thaw 1
        have tk2 := HRR7.out.thaw 2
        have tk3 := HRR7.out.thaw 3
        have R9 := put4_row HRR7.out (.int .i64 rr) (.slice a7 L7 c7) (.int .i64 rl) (.bool rd)
        have f0 := R9.cell (i := 0) rfl
        have f1 := R9.cell (i := 1) rfl
        have f2 := R9.cell (i := 2) rfl
        have f3 := R9.cell (i := 3) rfl
        clear R9 HRS HRT
        go_wp2
        exact bodyPost_ret (v := .tuple #[.agg #[.int .i64 rr, .slice a7 L7 c7, .int .i64 rl, .bool rd], .int .i64 (k : Nat)]) (by simp [results, Try.results9, go_sem, f0, f1, f2, f3]) rfl HFIN.out
end Go.Proofs.Ytmhdodiipkkjpaa.Dk
