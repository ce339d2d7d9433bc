/- DiskRenames: what the law answers. -/
import Derived.Test.YtmhdodiipkkjpaaLn
namespace Go.Proofs.Ytmhdodiipkkjpaa.Dk
open Go.RowKit

set_option maxHeartbeats 6400000 in
set_option maxRecDepth 100000 in
theorem lren_any (w : World) (d : Dsk) (a : Option Addr) (cap : Nat) (ak : Option Addr) (ck : Nat) (n t m : BA) (cut : Bool) (keep : List Int) (h : DAt w d a cap) (hn : n.size ≤ 140737488351232) (ht : t.size ≤ 140737488351232) (hm : m.size ≤ 140737488351232) (hk : SlI w (Old w) (.slice ak keep.length ck) keep) (hw : ∀ n, n ∈ keep → I64 n) :
    Calls Try.prog 7 #[diV d (.slice a d.fs.length cap), .string n, .string t, .string m, .bool cut, .slice ak keep.length ck] w fun e w' => e = .returned (.bool true) ∧ Below w.heap.size w w' := by
  have HWR := Lib.hid (fun W (hb : Below w.heap.size w W) => write_any W d a cap n m (h.old hb) hn hm)
  have HRT := Lib.hid (fun W (hb : Below w.heap.size w W) => right_any W d a cap (h.old hb))
  have HAT := Lib.hid (fun W (hb : Below w.heap.size w W) => rat_any W d a cap n (h.fs.old hb))
  have HKP := Lib.hid (fun W (hb : Below w.heap.size w W) => hk.old hb)
  have HKW := Lib.hid hw
  have HN := Lib.hid hn
  have HT := Lib.hid ht
  have HAL := Lib.hid (fun W => alive_any W)
  clear h hk hw hn ht hm
  obtain ⟨rm, fs, lf, dn⟩ := d
  obtain ⟨L, HL⟩ : ∃ L, Hid (L = fs.length) := ⟨_, Lib.hid rfl⟩
  obtain ⟨M, HM⟩ : ∃ L, Hid (L = keep.length) := ⟨_, Lib.hid rfl⟩
  simp only at HWR HRT HAT ⊢
  rw [← HL.out] at HWR HRT HAT ⊢
  rw [← HM.out]
  have HRD := Lib.hid (row_new w #[.int .i64 rm, .slice a L cap, .int .i64 lf, .bool dn] 24)
  have HB1 := Lib.hid (below1 w (.cells #[.int .i64 rm, .slice a L cap, .int .i64 lf, .bool dn] 24))
  have r0 := HRD.out.cell (i := 0) rfl
  have r1 := HRD.out.cell (i := 1) rfl
  have r2 := HRD.out.cell (i := 2) rfl
  have r3 := HRD.out.cell (i := 3) rfl
  go_enter Try.func7, Try.ntmps7
  go_wp2_with fail
  generalize hW1 : w.alloc (.cells #[.int .i64 rm, .slice a L cap, .int .i64 lf, .bool dn] 24) = W1 at *
  clear hW1 r0 r1 r2 r3
  refine (HAL.out W1).mono ?_
  rintro e w2 ⟨rfl, hb2⟩
  have HB2 := Lib.hid (below_trans HB1.out hb2)
  have HRD2 := Lib.hid (HRD.out.below hb2)
  clear hb2
  have r0 := HRD2.out.cell (i := 0) rfl
  have r1 := HRD2.out.cell (i := 1) rfl
  have r2 := HRD2.out.cell (i := 2) rfl
  have r3 := HRD2.out.cell (i := 3) rfl
  go_wp2_with fail
  refine (HRT.out w2 HB2.out).mono ?_
  rintro e w3 ⟨q, rfl, hq, hb3⟩
  have HB3 := Lib.hid (below_trans HB2.out hb3)
  have HRD3 := Lib.hid (HRD2.out.below hb3)
  have HQ := Lib.hid hq
  clear hb3 hq r0 r1 r2 r3
  have r0 := HRD3.out.cell (i := 0) rfl
  have r1 := HRD3.out.cell (i := 1) rfl
  have r2 := HRD3.out.cell (i := 2) rfl
  have r3 := HRD3.out.cell (i := 3) rfl
  cases q with
  | false =>
    go_wp2_with fail
    refine (HAL.out w3).mono ?_
    rintro e w99 ⟨rfl, hb99⟩
    have HB99 := Lib.hid (below_trans HB3.out hb99)
    clear hb99 r0 r1 r2 r3
    go_wp2
    go_ret
    exact ⟨rfl, HB99.out⟩
  | true =>
    have HRG : Hid (RgtD ⟨rm, fs, lf, dn⟩) := Lib.hid (HQ.out.1 rfl)
    cases dn with
    | true =>
      go_wp2_with fail
      refine (HAL.out w3).mono ?_
      rintro e w99 ⟨rfl, hb99⟩
      have HB99 := Lib.hid (below_trans HB3.out hb99)
      clear hb99 r0 r1 r2 r3
      go_wp2
      go_ret
      exact ⟨rfl, HB99.out⟩
    | false =>
      by_cases hl : 0 ≤ lf
      · have u1 : decide (0 ≤ lf) = true := decide_eq_true hl
        go_wp2_with fail
        refine (HAL.out w3).mono ?_
        rintro e w99 ⟨rfl, hb99⟩
        have HB99 := Lib.hid (below_trans HB3.out hb99)
        clear hb99 r0 r1 r2 r3
        go_wp2
        go_ret
        exact ⟨rfl, HB99.out⟩
      · have u1 : decide (0 ≤ lf) = false := decide_eq_false hl
        by_cases he : n = t
        · have u2 : (n.toList == t.toList) = true := str_eq he
          go_wp2_with fail
          refine (HAL.out w3).mono ?_
          rintro e w99 ⟨rfl, hb99⟩
          have HB99 := Lib.hid (below_trans HB3.out hb99)
          clear hb99 r0 r1 r2 r3
          go_wp2
          go_ret
          exact ⟨rfl, HB99.out⟩
        · have u2 : (n.toList == t.toList) = false := str_ne he
          have HNT := Lib.hid he
          clear he
          go_wp2_with fail
          refine (HAT.out w3 HB3.out).mono ?_
          rintro e w4 ⟨rfl, hb4⟩
          have HB4 := Lib.hid (below_trans HB3.out hb4)
          have HRD4 := Lib.hid (HRD3.out.below hb4)
          clear hb4 r0 r1 r2 r3
          have r0 := HRD4.out.cell (i := 0) rfl
          have r1 := HRD4.out.cell (i := 1) rfl
          have r2 := HRD4.out.cell (i := 2) rfl
          have r3 := HRD4.out.cell (i := 3) rfl
          rcases at_find (l := fs) (n := n) with ⟨hfn, hat⟩ | ⟨k, x, -, -, hat, -⟩
          rotate_left
          · rw [hat]
            have u3 : decide (0 ≤ (k : Int)) = true := decide_eq_true (by omega)
            go_wp2_with fail
            refine (HAL.out w4).mono ?_
            rintro e w99 ⟨rfl, hb99⟩
            have HB99 := Lib.hid (below_trans HB4.out hb99)
            clear hb99 r0 r1 r2 r3
            go_wp2
            go_ret
            exact ⟨rfl, HB99.out⟩
          rw [hat]
          have HFN := Lib.hid hfn
          clear hat hfn u2
          rcases wr_new HRG.out rfl (by have := hl; simp only; omega) HFN.out with ⟨⟨rA, fA, lA, dA⟩, k, hE, hk⟩ | ⟨⟨rA, fA, lA, dA⟩, hE, hnm, hRA, hdA, hlA, hfA⟩
          · rw [hE] at HWR
            clear hE
            clear r0 r1 r2 r3
            have r0 := HRD4.out.cell (i := 0) rfl
            have r1 := HRD4.out.cell (i := 1) rfl
            have r2 := HRD4.out.cell (i := 2) rfl
            have r3 := HRD4.out.cell (i := 3) rfl
            go_wp2_with fail
            have HC := HWR.out w4 HB4.out
            refine HC.mono ?_
            clear HC r0 r1 r2 r3
            rintro e w5 ⟨aA, cA, rfl, hs, hb⟩
            simp only at hs ⊢
            obtain ⟨LA, HLA⟩ : ∃ L, Hid (L = fA.length) := ⟨_, Lib.hid rfl⟩
            rw [← HLA.out] at hs ⊢
            have HBx := Lib.hid (below_trans hb (below1 w5 (.cells #[.int .i64 rA, .slice aA LA cA, .int .i64 lA, .bool dA] 24)))
            have HB5 := Lib.hid (below_trans HB4.out HBx.out)
            have HRAb : Hid (Row (w5.alloc (.cells #[.int .i64 rA, .slice aA LA cA, .int .i64 lA, .bool dA] 24)) w5.heap.size 24 [.int .i64 rA, .slice aA LA cA, .int .i64 lA, .bool dA]) := Lib.hid (row_new w5 #[.int .i64 rA, .slice aA LA cA, .int .i64 lA, .bool dA] _)
            have HSAb := Lib.hid (hs.old (below1 w5 (.cells #[.int .i64 rA, .slice aA LA cA, .int .i64 lA, .bool dA] 24)))
            clear HBx hs hb
            rcases hk with rfl | rfl
            · go_wp2
              go_ret
              exact ⟨rfl, HB5.out⟩
            · go_wp2
              go_ret
              exact ⟨rfl, HB5.out⟩
          · rw [hE] at HWR
            have HGA := Lib.hid hRA
            obtain ⟨⟨rB, fB, lB, dB⟩, hEB, hRB, hdB, hlB, hfB⟩ := sy_new hRA hnm hdA hlA hfA
            have HEB := Lib.hid hEB
            have HGB := Lib.hid hRB
            have HFB := Lib.hid (And.intro hdB (And.intro hlB hfB))
            have HNMn := Lib.hid hnm
            clear hE hEB hRA hdA hlA hfA hRB hdB hlB hfB hnm r0 r1 r2 r3
            have r0 := HRD4.out.cell (i := 0) rfl
            have r1 := HRD4.out.cell (i := 1) rfl
            have r2 := HRD4.out.cell (i := 2) rfl
            have r3 := HRD4.out.cell (i := 3) rfl
            go_wp2_with fail
            have HC := HWR.out w4 HB4.out
            refine HC.mono ?_
            clear HC r0 r1 r2 r3
            rintro e w5 ⟨aA, cA, rfl, hs, hb⟩
            simp only at hs ⊢
            obtain ⟨LA, HLA⟩ : ∃ L, Hid (L = fA.length) := ⟨_, Lib.hid rfl⟩
            rw [← HLA.out] at hs ⊢
            have HBx := Lib.hid (below_trans hb (below1 w5 (.cells #[.int .i64 rA, .slice aA LA cA, .int .i64 lA, .bool dA] 24)))
            have HB5 := Lib.hid (below_trans HB4.out HBx.out)
            have HRAb : Hid (Row (w5.alloc (.cells #[.int .i64 rA, .slice aA LA cA, .int .i64 lA, .bool dA] 24)) w5.heap.size 24 [.int .i64 rA, .slice aA LA cA, .int .i64 lA, .bool dA]) := Lib.hid (row_new w5 #[.int .i64 rA, .slice aA LA cA, .int .i64 lA, .bool dA] _)
            have HSAb := Lib.hid (hs.old (below1 w5 (.cells #[.int .i64 rA, .slice aA LA cA, .int .i64 lA, .bool dA] 24)))
            clear HBx hs hb
            have r0 := HRAb.out.cell (i := 0) rfl
            have r1 := HRAb.out.cell (i := 1) rfl
            have r2 := HRAb.out.cell (i := 2) rfl
            have r3 := HRAb.out.cell (i := 3) rfl
            go_wp2_with fail
            generalize hv : w5.alloc (.cells #[.int .i64 rA, .slice aA LA cA, .int .i64 lA, .bool dA] 24) = v6 at *
            clear hv
            have HC := sync_any v6 ⟨rA, fA, lA, dA⟩ aA cA n ⟨by simp only; rw [← HLA.out]; exact HSAb.out, HGA.out.fits⟩ HN.out
            rw [HEB.out] at HC
            simp only at HC
            rw [← HLA.out] at HC
            refine HC.mono ?_
            clear HC r0 r1 r2 r3
            rintro e w6 ⟨aB, cB, rfl, hs, hb⟩
            simp only at hs ⊢
            obtain ⟨LB, HLB⟩ : ∃ L, Hid (L = fB.length) := ⟨_, Lib.hid rfl⟩
            rw [← HLB.out] at hs ⊢
            have HBx := Lib.hid (below_trans hb (below1 w6 (.cells #[.int .i64 rB, .slice aB LB cB, .int .i64 lB, .bool dB] 24)))
            have HB6 := Lib.hid (below_trans HB5.out HBx.out)
            have HRBb : Hid (Row (w6.alloc (.cells #[.int .i64 rB, .slice aB LB cB, .int .i64 lB, .bool dB] 24)) w6.heap.size 24 [.int .i64 rB, .slice aB LB cB, .int .i64 lB, .bool dB]) := Lib.hid (row_new w6 #[.int .i64 rB, .slice aB LB cB, .int .i64 lB, .bool dB] _)
            have HSBb := Lib.hid (hs.old (below1 w6 (.cells #[.int .i64 rB, .slice aB LB cB, .int .i64 lB, .bool dB] 24)))
            clear HBx hs hb
            cases cut with
            | true =>
              obtain ⟨⟨rC, fC, lC, dC⟩, hEC, hRC, hdC, hlC, hfC⟩ := cut_new HGB.out HFB.out.1 HFB.out.2.2
              have HEC := Lib.hid hEC
              have HGC := Lib.hid hRC
              have HFC := Lib.hid (And.intro hdC (And.intro hlC hfC))
              clear hEC hRC hdC hlC hfC
              have r0 := HRBb.out.cell (i := 0) rfl
              have r1 := HRBb.out.cell (i := 1) rfl
              have r2 := HRBb.out.cell (i := 2) rfl
              have r3 := HRBb.out.cell (i := 3) rfl
              go_wp2_with fail
              generalize hv : w6.alloc (.cells #[.int .i64 rB, .slice aB LB cB, .int .i64 lB, .bool dB] 24) = v7 at *
              clear hv
              have HC := cut_any v7 ⟨rB, fB, lB, dB⟩ aB cB 0 ⟨by simp only; rw [← HLB.out]; exact HSBb.out, HGB.out.fits⟩ 
              rw [HEC.out] at HC
              simp only at HC
              rw [← HLB.out] at HC
              refine HC.mono ?_
              clear HC r0 r1 r2 r3
              rintro e w7 ⟨aC, cC, rfl, hs, hb⟩
              simp only at hs ⊢
              obtain ⟨LC, HLC⟩ : ∃ L, Hid (L = fC.length) := ⟨_, Lib.hid rfl⟩
              rw [← HLC.out] at hs ⊢
              have HBx := Lib.hid (below_trans hb (below1 w7 (.cells #[.int .i64 rC, .slice aC LC cC, .int .i64 lC, .bool dC] 24)))
              have HB7 := Lib.hid (below_trans HB6.out HBx.out)
              have HRCb : Hid (Row (w7.alloc (.cells #[.int .i64 rC, .slice aC LC cC, .int .i64 lC, .bool dC] 24)) w7.heap.size 24 [.int .i64 rC, .slice aC LC cC, .int .i64 lC, .bool dC]) := Lib.hid (row_new w7 #[.int .i64 rC, .slice aC LC cC, .int .i64 lC, .bool dC] _)
              have HSCb := Lib.hid (hs.old (below1 w7 (.cells #[.int .i64 rC, .slice aC LC cC, .int .i64 lC, .bool dC] 24)))
              clear HBx hs hb
              cases htm : nmB t with
              | false =>
                obtain ⟨⟨rR, fR, lR, dR⟩, hER⟩ := ren_bad (d := ⟨rC, fC, lC, dC⟩) (n := n) htm
                have HER := Lib.hid hER
                clear hER
                have r0 := HRCb.out.cell (i := 0) rfl
                have r1 := HRCb.out.cell (i := 1) rfl
                have r2 := HRCb.out.cell (i := 2) rfl
                have r3 := HRCb.out.cell (i := 3) rfl
                go_wp2_with fail
                generalize hv : w7.alloc (.cells #[.int .i64 rC, .slice aC LC cC, .int .i64 lC, .bool dC] 24) = v8 at *
                clear hv
                have HC := rename_any v8 ⟨rC, fC, lC, dC⟩ aC cC n t ⟨by simp only; rw [← HLC.out]; exact HSCb.out, HGC.out.fits⟩ HN.out HT.out
                rw [HER.out] at HC
                simp only at HC
                rw [← HLC.out] at HC
                refine HC.mono ?_
                clear HC r0 r1 r2 r3
                rintro e w8 ⟨aR, cR, rfl, hs, hb⟩
                simp only at hs ⊢
                obtain ⟨LR, HLR⟩ : ∃ L, Hid (L = fR.length) := ⟨_, Lib.hid rfl⟩
                rw [← HLR.out] at hs ⊢
                have HBx := Lib.hid (below_trans hb (below1 w8 (.cells #[.int .i64 rR, .slice aR LR cR, .int .i64 lR, .bool dR] 24)))
                have HB8 := Lib.hid (below_trans HB7.out HBx.out)
                have HRRb : Hid (Row (w8.alloc (.cells #[.int .i64 rR, .slice aR LR cR, .int .i64 lR, .bool dR] 24)) w8.heap.size 24 [.int .i64 rR, .slice aR LR cR, .int .i64 lR, .bool dR]) := Lib.hid (row_new w8 #[.int .i64 rR, .slice aR LR cR, .int .i64 lR, .bool dR] _)
                have HSRb := Lib.hid (hs.old (below1 w8 (.cells #[.int .i64 rR, .slice aR LR cR, .int .i64 lR, .bool dR] 24)))
                clear HBx hs hb
                go_wp2
                go_ret
                exact ⟨rfl, HB8.out⟩
              | true =>
                obtain ⟨⟨rR, fR, lR, dR⟩, hER, hRR, hfR⟩ := ren_off HGC.out HNMn.out htm HFC.out.1 HFC.out.2.1 HFC.out.2.2
                obtain ⟨⟨rX, fX, lX, dX⟩, hEX, hRX, hrX, -⟩ := cr_new keep hRR HNMn.out hfR
                have HER := Lib.hid hER
                have HGR := Lib.hid hRR
                have HEX := Lib.hid hEX
                have HGX := Lib.hid hRX
                have HREX := Lib.hid hrX
                have une : (m.toList == m.toList) = true := by simp
                clear hER hRR hfR hEX hRX hrX htm
                have r0 := HRCb.out.cell (i := 0) rfl
                have r1 := HRCb.out.cell (i := 1) rfl
                have r2 := HRCb.out.cell (i := 2) rfl
                have r3 := HRCb.out.cell (i := 3) rfl
                go_wp2_with fail
                generalize hv : w7.alloc (.cells #[.int .i64 rC, .slice aC LC cC, .int .i64 lC, .bool dC] 24) = v8 at *
                clear hv
                have HC := rename_any v8 ⟨rC, fC, lC, dC⟩ aC cC n t ⟨by simp only; rw [← HLC.out]; exact HSCb.out, HGC.out.fits⟩ HN.out HT.out
                rw [HER.out] at HC
                simp only at HC
                rw [← HLC.out] at HC
                refine HC.mono ?_
                clear HC r0 r1 r2 r3
                rintro e w8 ⟨aR, cR, rfl, hs, hb⟩
                simp only at hs ⊢
                obtain ⟨LR, HLR⟩ : ∃ L, Hid (L = fR.length) := ⟨_, Lib.hid rfl⟩
                rw [← HLR.out] at hs ⊢
                have HBx := Lib.hid (below_trans hb (below1 w8 (.cells #[.int .i64 rR, .slice aR LR cR, .int .i64 lR, .bool dR] 24)))
                have HB8 := Lib.hid (below_trans HB7.out HBx.out)
                have HRRb : Hid (Row (w8.alloc (.cells #[.int .i64 rR, .slice aR LR cR, .int .i64 lR, .bool dR] 24)) w8.heap.size 24 [.int .i64 rR, .slice aR LR cR, .int .i64 lR, .bool dR]) := Lib.hid (row_new w8 #[.int .i64 rR, .slice aR LR cR, .int .i64 lR, .bool dR] _)
                have HSRb := Lib.hid (hs.old (below1 w8 (.cells #[.int .i64 rR, .slice aR LR cR, .int .i64 lR, .bool dR] 24)))
                clear HBx hs hb
                have r0 := HRRb.out.cell (i := 0) rfl
                have r1 := HRRb.out.cell (i := 1) rfl
                have r2 := HRRb.out.cell (i := 2) rfl
                have r3 := HRRb.out.cell (i := 3) rfl
                go_wp2_with fail
                generalize hv : w8.alloc (.cells #[.int .i64 rR, .slice aR LR cR, .int .i64 lR, .bool dR] 24) = v9 at *
                clear hv
                have HC := crash_any v9 ⟨rR, fR, lR, dR⟩ aR cR ak ck keep ⟨by simp only; rw [← HLR.out]; exact HSRb.out, HGR.out.fits⟩ (HKP.out v9 HB8.out) HKW.out
                rw [HEX.out] at HC
                simp only at HC
                rw [← HM.out] at HC
                rw [← HLR.out] at HC
                refine HC.mono ?_
                clear HC r0 r1 r2 r3
                rintro e w9 ⟨aX, cX, rfl, hs, hb⟩
                simp only at hs ⊢
                obtain ⟨LX, HLX⟩ : ∃ L, Hid (L = fX.length) := ⟨_, Lib.hid rfl⟩
                rw [← HLX.out] at hs ⊢
                have HBx := Lib.hid (below_trans hb (below1 w9 (.cells #[.int .i64 rX, .slice aX LX cX, .int .i64 lX, .bool dX] 24)))
                have HB9 := Lib.hid (below_trans HB8.out HBx.out)
                have HRXb : Hid (Row (w9.alloc (.cells #[.int .i64 rX, .slice aX LX cX, .int .i64 lX, .bool dX] 24)) w9.heap.size 24 [.int .i64 rX, .slice aX LX cX, .int .i64 lX, .bool dX]) := Lib.hid (row_new w9 #[.int .i64 rX, .slice aX LX cX, .int .i64 lX, .bool dX] _)
                have HSXb := Lib.hid (hs.old (below1 w9 (.cells #[.int .i64 rX, .slice aX LX cX, .int .i64 lX, .bool dX] 24)))
                clear HBx hs hb
                have r0 := HRXb.out.cell (i := 0) rfl
                have r1 := HRXb.out.cell (i := 1) rfl
                have r2 := HRXb.out.cell (i := 2) rfl
                have r3 := HRXb.out.cell (i := 3) rfl
                go_wp2_with fail
                generalize hv : w9.alloc (.cells #[.int .i64 rX, .slice aX LX cX, .int .i64 lX, .bool dX] 24) = v10 at *
                clear hv
                have HC := read_any v10 ⟨rX, fX, lX, dX⟩ aX cX n ⟨by simp only; rw [← HLX.out]; exact HSXb.out, HGX.out.fits⟩ HN.out
                rw [HREX.out] at HC
                simp only at HC
                rw [← HLX.out] at HC
                refine HC.mono ?_
                clear HC r0 r1 r2 r3
                rintro e w10 ⟨rfl, hb⟩
                have HB10 := Lib.hid (below_trans HB9.out hb)
                clear hb
                go_wp2
                go_ret
                exact ⟨rfl, HB10.out⟩
            | false =>
              cases htm : nmB t with
              | false =>
                obtain ⟨⟨rR, fR, lR, dR⟩, hER⟩ := ren_bad (d := ⟨rB, fB, lB, dB⟩) (n := n) htm
                have HER := Lib.hid hER
                clear hER
                have r0 := HRBb.out.cell (i := 0) rfl
                have r1 := HRBb.out.cell (i := 1) rfl
                have r2 := HRBb.out.cell (i := 2) rfl
                have r3 := HRBb.out.cell (i := 3) rfl
                go_wp2_with fail
                generalize hv : w6.alloc (.cells #[.int .i64 rB, .slice aB LB cB, .int .i64 lB, .bool dB] 24) = v8 at *
                clear hv
                have HC := rename_any v8 ⟨rB, fB, lB, dB⟩ aB cB n t ⟨by simp only; rw [← HLB.out]; exact HSBb.out, HGB.out.fits⟩ HN.out HT.out
                rw [HER.out] at HC
                simp only at HC
                rw [← HLB.out] at HC
                refine HC.mono ?_
                clear HC r0 r1 r2 r3
                rintro e w8 ⟨aR, cR, rfl, hs, hb⟩
                simp only at hs ⊢
                obtain ⟨LR, HLR⟩ : ∃ L, Hid (L = fR.length) := ⟨_, Lib.hid rfl⟩
                rw [← HLR.out] at hs ⊢
                have HBx := Lib.hid (below_trans hb (below1 w8 (.cells #[.int .i64 rR, .slice aR LR cR, .int .i64 lR, .bool dR] 24)))
                have HB8 := Lib.hid (below_trans HB6.out HBx.out)
                have HRRb : Hid (Row (w8.alloc (.cells #[.int .i64 rR, .slice aR LR cR, .int .i64 lR, .bool dR] 24)) w8.heap.size 24 [.int .i64 rR, .slice aR LR cR, .int .i64 lR, .bool dR]) := Lib.hid (row_new w8 #[.int .i64 rR, .slice aR LR cR, .int .i64 lR, .bool dR] _)
                have HSRb := Lib.hid (hs.old (below1 w8 (.cells #[.int .i64 rR, .slice aR LR cR, .int .i64 lR, .bool dR] 24)))
                clear HBx hs hb
                go_wp2
                go_ret
                exact ⟨rfl, HB8.out⟩
              | true =>
                obtain ⟨⟨rR, fR, lR, dR⟩, hER, hRR, hfR, hfn⟩ := ren_on HGB.out HNMn.out htm HNT.out HFB.out.1 HFB.out.2.1 HFB.out.2.2
                obtain ⟨⟨rX, fX, lX, dX⟩, hEX, hRX, hrX, hno⟩ := cr_new keep hRR htm hfR
                have HER := Lib.hid hER
                have HGR := Lib.hid hRR
                have HEX := Lib.hid hEX
                have HGX := Lib.hid hRX
                have HREX := Lib.hid hrX
                have HNO := Lib.hid (hno n HNMn.out hfn)
                have une : (m.toList == m.toList) = true := by simp
                clear hER hRR hfR hEX hRX hrX htm hfn hno
                have r0 := HRBb.out.cell (i := 0) rfl
                have r1 := HRBb.out.cell (i := 1) rfl
                have r2 := HRBb.out.cell (i := 2) rfl
                have r3 := HRBb.out.cell (i := 3) rfl
                go_wp2_with fail
                generalize hv : w6.alloc (.cells #[.int .i64 rB, .slice aB LB cB, .int .i64 lB, .bool dB] 24) = v8 at *
                clear hv
                have HC := rename_any v8 ⟨rB, fB, lB, dB⟩ aB cB n t ⟨by simp only; rw [← HLB.out]; exact HSBb.out, HGB.out.fits⟩ HN.out HT.out
                rw [HER.out] at HC
                simp only at HC
                rw [← HLB.out] at HC
                refine HC.mono ?_
                clear HC r0 r1 r2 r3
                rintro e w8 ⟨aR, cR, rfl, hs, hb⟩
                simp only at hs ⊢
                obtain ⟨LR, HLR⟩ : ∃ L, Hid (L = fR.length) := ⟨_, Lib.hid rfl⟩
                rw [← HLR.out] at hs ⊢
                have HBx := Lib.hid (below_trans hb (below1 w8 (.cells #[.int .i64 rR, .slice aR LR cR, .int .i64 lR, .bool dR] 24)))
                have HB8 := Lib.hid (below_trans HB6.out HBx.out)
                have HRRb : Hid (Row (w8.alloc (.cells #[.int .i64 rR, .slice aR LR cR, .int .i64 lR, .bool dR] 24)) w8.heap.size 24 [.int .i64 rR, .slice aR LR cR, .int .i64 lR, .bool dR]) := Lib.hid (row_new w8 #[.int .i64 rR, .slice aR LR cR, .int .i64 lR, .bool dR] _)
                have HSRb := Lib.hid (hs.old (below1 w8 (.cells #[.int .i64 rR, .slice aR LR cR, .int .i64 lR, .bool dR] 24)))
                clear HBx hs hb
                have r0 := HRRb.out.cell (i := 0) rfl
                have r1 := HRRb.out.cell (i := 1) rfl
                have r2 := HRRb.out.cell (i := 2) rfl
                have r3 := HRRb.out.cell (i := 3) rfl
                go_wp2_with fail
                generalize hv : w8.alloc (.cells #[.int .i64 rR, .slice aR LR cR, .int .i64 lR, .bool dR] 24) = v9 at *
                clear hv
                have HC := crash_any v9 ⟨rR, fR, lR, dR⟩ aR cR ak ck keep ⟨by simp only; rw [← HLR.out]; exact HSRb.out, HGR.out.fits⟩ (HKP.out v9 HB8.out) HKW.out
                rw [HEX.out] at HC
                simp only at HC
                rw [← HM.out] at HC
                rw [← HLR.out] at HC
                refine HC.mono ?_
                clear HC r0 r1 r2 r3
                rintro e w9 ⟨aX, cX, rfl, hs, hb⟩
                simp only at hs ⊢
                obtain ⟨LX, HLX⟩ : ∃ L, Hid (L = fX.length) := ⟨_, Lib.hid rfl⟩
                rw [← HLX.out] at hs ⊢
                have HBx := Lib.hid (below_trans hb (below1 w9 (.cells #[.int .i64 rX, .slice aX LX cX, .int .i64 lX, .bool dX] 24)))
                have HB9 := Lib.hid (below_trans HB8.out HBx.out)
                have HRXb : Hid (Row (w9.alloc (.cells #[.int .i64 rX, .slice aX LX cX, .int .i64 lX, .bool dX] 24)) w9.heap.size 24 [.int .i64 rX, .slice aX LX cX, .int .i64 lX, .bool dX]) := Lib.hid (row_new w9 #[.int .i64 rX, .slice aX LX cX, .int .i64 lX, .bool dX] _)
                have HSXb := Lib.hid (hs.old (below1 w9 (.cells #[.int .i64 rX, .slice aX LX cX, .int .i64 lX, .bool dX] 24)))
                clear HBx hs hb
                have r0 := HRXb.out.cell (i := 0) rfl
                have r1 := HRXb.out.cell (i := 1) rfl
                have r2 := HRXb.out.cell (i := 2) rfl
                have r3 := HRXb.out.cell (i := 3) rfl
                go_wp2_with fail
                generalize hv : w9.alloc (.cells #[.int .i64 rX, .slice aX LX cX, .int .i64 lX, .bool dX] 24) = v10 at *
                clear hv
                have HC := read_any v10 ⟨rX, fX, lX, dX⟩ aX cX t ⟨by simp only; rw [← HLX.out]; exact HSXb.out, HGX.out.fits⟩ HT.out
                rw [HREX.out] at HC
                simp only at HC
                rw [← HLX.out] at HC
                refine HC.mono ?_
                clear HC r0 r1 r2 r3
                rintro e w10 ⟨rfl, hb⟩
                have HB10 := Lib.hid (below_trans HB9.out hb)
                have HRX10 := Lib.hid (HRXb.out.below hb)
                have HSX10 := Lib.hid (HSXb.out.old hb)
                clear hb
                have r0 := HRX10.out.cell (i := 0) rfl
                have r1 := HRX10.out.cell (i := 1) rfl
                have r2 := HRX10.out.cell (i := 2) rfl
                have r3 := HRX10.out.cell (i := 3) rfl
                go_wp2_with fail
                have HC := read_any w10 ⟨rX, fX, lX, dX⟩ aX cX n ⟨by simp only; rw [← HLX.out]; exact HSX10.out, HGX.out.fits⟩ HN.out
                rw [HNO.out] at HC
                simp only at HC
                rw [← HLX.out] at HC
                refine HC.mono ?_
                clear HC r0 r1 r2 r3
                rintro e w11 ⟨rfl, hb⟩
                have HB11 := Lib.hid (below_trans HB10.out hb)
                clear hb
                go_wp2
                go_ret
                exact ⟨rfl, HB11.out⟩
end Go.Proofs.Ytmhdodiipkkjpaa.Dk
