/- Package disk: Read, Cut. -/
import Derived.Test.YtmhdodiipkkjpaaDp
namespace Go.Proofs.Ytmhdodiipkkjpaa.Dk
open Go.RowKit

/-- A text, and an error's number, that a call answers. -/
def TxP (r : BA × Nat) (w : World) (e : Ending) (w' : World) : Prop := e = .returned (.tuple #[.string r.1, .int .i64 (r.2 : Nat)]) ∧ Below w.heap.size w w'

set_option maxHeartbeats 3200000 in
set_option maxRecDepth 100000 in
theorem read_any (w : World) (d : Dsk) (a : Option Addr) (cap : Nat) (n : BA) (h : DAt w d a cap) (hn : n.size ≤ 140737488351232) :
    Calls Try.prog 14 #[diV d (.slice a d.fs.length cap), .string n] w (TxP (readF d n) w) := by
  obtain ⟨rm, fs, lf, dn⟩ := d
  have HFI := Lib.hid (fun W (hb : Below w.heap.size w W) => find_any W ⟨rm, fs, lf, dn⟩ a cap n [] none 0 (h.old hb) hn (SlS.none _ _) (fun s hs => by cases hs))
  simp only [List.length_nil] at HFI
  obtain ⟨L, HL⟩ : ∃ L, Hid (L = fs.length) := ⟨_, Lib.hid rfl⟩
  simp only at HFI ⊢
  rw [← HL.out] at HFI ⊢
  have H44 := Lib.hid h.fit
  clear h
  obtain ⟨r, Hr⟩ : ∃ r, Hid (r = findE ⟨rm, fs, lf, dn⟩ [n] n) := ⟨_, Lib.hid rfl⟩
  rw [← Hr.out] at HFI
  have R := row_new w #[.int .i64 rm, .slice a L cap, .int .i64 lf, .bool dn] 24
  have r0 := R.cell (i := 0) rfl
  have r1 := R.cell (i := 1) rfl
  have r2 := R.cell (i := 2) rfl
  have r3 := R.cell (i := 3) rfl
  have HB1 := Lib.hid (below1 w (.cells #[.int .i64 rm, .slice a L cap, .int .i64 lf, .bool dn] 24))
  clear R
  cases r with
  | error k =>
    have HER := Lib.hid (findE_err Hr.out.symm)
    have hk3 : ((k : Int) == 0) = false := by
      rw [beq_eq_false_iff_ne]
      rcases HER.out with ⟨h, -⟩ | ⟨h, -⟩ | ⟨h, -⟩ <;> omega
    have hk4 : ((k : Int) != 0) = true := by rw [bne, hk3]; rfl
    have HE : Hid (readF ⟨rm, fs, lf, dn⟩ n = (noB, k)) := Lib.hid (by unfold readF; rw [← Hr.out])
    go_enter Try.func14, Try.ntmps14
    go_wp2_with fail
    refine (HFI.out _ HB1.out).mono ?_
    rintro e w2 ⟨rfl, hb2⟩
    simp only [finV]
    have HB3 := Lib.hid (below_trans (below_trans HB1.out hb2) (below1 w2 (.cells (fiC noF) 44)))
    clear hb2 r0 r1 r2 r3
    go_wp2
    go_ret2
    exact ⟨by rw [HE.out]; rfl, HB3.out⟩
  | ok f =>
    obtain ⟨hg1, hg2, hg3, hg4⟩ := findE_ok Hr.out.symm
    have hfit := hg1.fits f (findF_is hg4).1
    have HE : Hid (readF ⟨rm, fs, lf, dn⟩ n = (f.sy ++ f.tl, 0)) := Lib.hid (by unfold readF; rw [← Hr.out])
    have hs1 := hfit.sy
    have hs2 := hfit.tl
    clear hg1 hg2 hg3 hg4 hfit
    obtain ⟨xn, xs, xt⟩ := f
    simp only at hs1 hs2 HE
    have q2 : ¬ (9223372036854775807 < xs.size + xt.size) := by omega
    go_enter Try.func14, Try.ntmps14
    go_wp2_with fail
    refine (HFI.out _ HB1.out).mono ?_
    rintro e w2 ⟨rfl, hb2⟩
    simp only [finV]
    have HB3 := Lib.hid (below_trans (below_trans HB1.out hb2) (below1 w2 (.cells (fiC ⟨xn, xs, xt⟩) 44)))
    have R := row_new w2 (fiC ⟨xn, xs, xt⟩) 44
    have g1 := R.cell (i := 1) rfl
    have g2 := R.cell (i := 2) rfl
    clear hb2 r0 r1 r2 r3 R
    go_wp2
    go_ret2
    exact ⟨by rw [HE.out]; rfl, HB3.out⟩


set_option maxHeartbeats 3200000 in
set_option maxRecDepth 100000 in
theorem cut_any (w : World) (d : Dsk) (a : Option Addr) (cap : Nat) (left : Int) (h : DAt w d a cap) :
    Calls Try.prog 15 #[diV d (.slice a d.fs.length cap), .int .i64 left] w (DkP (cutF d left) w) := by
  obtain ⟨rm, fs, lf, dn⟩ := d
  have HRT := Lib.hid (fun W (hb : Below w.heap.size w W) => right_any W ⟨rm, fs, lf, dn⟩ a cap (h.old hb))
  have HCL := Lib.hid (fun W (hb : Below w.heap.size w W) (hl : fs.length ≤ 1000) => clone_any W a cap fs (h.fs.old hb) hl)
  have HRL := Lib.hid (fun W => rightLeft_any left W)
  obtain ⟨L, HL⟩ : ∃ L, Hid (L = fs.length) := ⟨_, Lib.hid rfl⟩
  simp only at HRT ⊢
  rw [← HL.out] at HRT HCL ⊢
  clear h
  obtain ⟨W1, HW1⟩ : ∃ W, Hid (W = (w.alloc (.cells #[.int .i64 rm, .slice a L cap, .int .i64 lf, .bool dn] 24)).alloc (.cells #[.int .i64 0, .slice none 0 0, .int .i64 0, .bool false] 24)) := ⟨_, Lib.hid rfl⟩
  have HB1 : Hid (Below w.heap.size w W1) := Lib.hid (by rw [HW1.out]; exact below2 _ _ _)
  have HSZ : Hid (W1.heap.size = w.heap.size + 2) := Lib.hid (by rw [HW1.out]; simp)
  have HRD : Hid (Row W1 w.heap.size 24 [.int .i64 rm, .slice a L cap, .int .i64 lf, .bool dn]) := Lib.hid (by rw [HW1.out]; exact (row_new w #[.int .i64 rm, .slice a L cap, .int .i64 lf, .bool dn] _).alloc _)
  have HRR : Hid (Row W1 (w.heap.size + 1) 24 [.int .i64 0, .slice none 0 0, .int .i64 0, .bool false]) := Lib.hid (by
    rw [HW1.out]
    have h := row_new (w.alloc (.cells #[.int .i64 rm, .slice a L cap, .int .i64 lf, .bool dn] 24)) #[.int .i64 0, .slice none 0 0, .int .i64 0, .bool false] 24
    rwa [World.size_alloc] at h)
  have r0 := HRD.out.cell (i := 0) rfl
  have r1 := HRD.out.cell (i := 1) rfl
  have r2 := HRD.out.cell (i := 2) rfl
  have r3 := HRD.out.cell (i := 3) rfl
  rw [HW1.out] at r0 r1 r2 r3
  obtain ⟨p, Hp⟩ : ∃ q, Hid (q = lfB left) := ⟨_, Lib.hid rfl⟩
  rw [← Hp.out] at HRL
  go_enter Try.func15, Try.ntmps15
  go_wp2_with fail
  rw [← HW1.out]
  refine (HRT.out W1 HB1.out).mono ?_
  rintro e w2 ⟨q, rfl, hq, hb2⟩
  have HB2 := Lib.hid hb2
  have HQ := Lib.hid hq
  clear hb2 hq r0 r1 r2 r3 HW1
  cases q with
  | false =>
    have HE : Hid (cutF ⟨rm, fs, lf, dn⟩ left = (zeroD, 1)) := Lib.hid (by unfold cutF; rw [if_neg (fun h => by have := HQ.out.2 h.1; cases this)])
    have HRr := Lib.hid (HRR.out.below HB2.out)
    have k0 := HRr.out.cell (i := 0) rfl
    have k1 := HRr.out.cell (i := 1) rfl
    have k2 := HRr.out.cell (i := 2) rfl
    have k3 := HRr.out.cell (i := 3) rfl
    have tk0 := HRr.out.thaw 0
    have tk1 := HRr.out.thaw 1
    have tk2 := HRr.out.thaw 2
    have tk3 := HRr.out.thaw 3
    have R9 := put4_row HRr.out (.int .i64 0) (.slice none 0 0) (.int .i64 0) (.bool false)
    have f0 := R9.cell (i := 0) rfl
    have f1 := R9.cell (i := 1) rfl
    have f2 := R9.cell (i := 2) rfl
    have f3 := R9.cell (i := 3) rfl
    have HFIN : Hid (DkP (cutF ⟨rm, fs, lf, dn⟩ left) w (.returned (.tuple #[.agg #[.int .i64 0, .slice none 0 0, .int .i64 0, .bool false], .int .i64 1])) (put4 w2 (w.heap.size + 1) (.int .i64 0) (.slice none 0 0) (.int .i64 0) (.bool false))) := Lib.hid (DkP.zero HE.out ((below_trans HB1.out HB2.out).trans ((put4_but w2 (w.heap.size + 1) (.int .i64 0) (.slice none 0 0) (.int .i64 0) (.bool false)).below (by omega))) rfl)
    clear R9
    go_wp2
    exact bodyPost_ret (v := .tuple #[.agg #[.int .i64 0, .slice none 0 0, .int .i64 0, .bool false], .int .i64 1]) (by simp [results, Try.results15, go_sem, f0, f1, f2, f3]) rfl HFIN.out
  | true =>
    have HRG : Hid (RgtD ⟨rm, fs, lf, dn⟩) := Lib.hid (HQ.out.1 rfl)
    clear HQ
    have HRD2 := Lib.hid (HRD.out.below HB2.out)
    go_wp2_with fail
    refine (HRL.out w2).mono ?_
    rintro e w3 ⟨rfl, rfl⟩
    cases p with
    | false =>
      have HE : Hid (cutF ⟨rm, fs, lf, dn⟩ left = (zeroD, 1)) := Lib.hid (by unfold cutF; rw [if_neg (fun h => by have := h.2; rw [← Hp.out] at this; cases this)])
      have HRr := Lib.hid (HRR.out.below HB2.out)
      have k0 := HRr.out.cell (i := 0) rfl
      have k1 := HRr.out.cell (i := 1) rfl
      have k2 := HRr.out.cell (i := 2) rfl
      have k3 := HRr.out.cell (i := 3) rfl
      have tk0 := HRr.out.thaw 0
      have tk1 := HRr.out.thaw 1
      have tk2 := HRr.out.thaw 2
      have tk3 := HRr.out.thaw 3
      have R9 := put4_row HRr.out (.int .i64 0) (.slice none 0 0) (.int .i64 0) (.bool false)
      have f0 := R9.cell (i := 0) rfl
      have f1 := R9.cell (i := 1) rfl
      have f2 := R9.cell (i := 2) rfl
      have f3 := R9.cell (i := 3) rfl
      have HFIN : Hid (DkP (cutF ⟨rm, fs, lf, dn⟩ left) w (.returned (.tuple #[.agg #[.int .i64 0, .slice none 0 0, .int .i64 0, .bool false], .int .i64 1])) (put4 w2 (w.heap.size + 1) (.int .i64 0) (.slice none 0 0) (.int .i64 0) (.bool false))) := Lib.hid (DkP.zero HE.out ((below_trans HB1.out HB2.out).trans ((put4_but w2 (w.heap.size + 1) (.int .i64 0) (.slice none 0 0) (.int .i64 0) (.bool false)).below (by omega))) rfl)
      clear R9
      go_wp2
      exact bodyPost_ret (v := .tuple #[.agg #[.int .i64 0, .slice none 0 0, .int .i64 0, .bool false], .int .i64 1]) (by simp [results, Try.results15, go_sem, f0, f1, f2, f3]) rfl HFIN.out
    | true =>
      have r0 := HRD2.out.cell (i := 0) rfl
      have r1 := HRD2.out.cell (i := 1) rfl
      have r2 := HRD2.out.cell (i := 2) rfl
      have r3 := HRD2.out.cell (i := 3) rfl
      cases dn with
      | true =>
        have HE : Hid (cutF ⟨rm, fs, lf, true⟩ left = (zeroD, 132)) := Lib.hid (by unfold cutF; rw [if_pos ⟨HRG.out, Hp.out.symm⟩, if_pos rfl])
        have HRr := Lib.hid (HRR.out.below HB2.out)
        have k0 := HRr.out.cell (i := 0) rfl
        have k1 := HRr.out.cell (i := 1) rfl
        have k2 := HRr.out.cell (i := 2) rfl
        have k3 := HRr.out.cell (i := 3) rfl
        have tk0 := HRr.out.thaw 0
        have tk1 := HRr.out.thaw 1
        have tk2 := HRr.out.thaw 2
        have tk3 := HRr.out.thaw 3
        have R9 := put4_row HRr.out (.int .i64 0) (.slice none 0 0) (.int .i64 0) (.bool false)
        have f0 := R9.cell (i := 0) rfl
        have f1 := R9.cell (i := 1) rfl
        have f2 := R9.cell (i := 2) rfl
        have f3 := R9.cell (i := 3) rfl
        have HFIN : Hid (DkP (cutF ⟨rm, fs, lf, true⟩ left) w (.returned (.tuple #[.agg #[.int .i64 0, .slice none 0 0, .int .i64 0, .bool false], .int .i64 132])) (put4 w2 (w.heap.size + 1) (.int .i64 0) (.slice none 0 0) (.int .i64 0) (.bool false))) := Lib.hid (DkP.zero HE.out ((below_trans HB1.out HB2.out).trans ((put4_but w2 (w.heap.size + 1) (.int .i64 0) (.slice none 0 0) (.int .i64 0) (.bool false)).below (by omega))) rfl)
        clear R9
        go_wp2
        exact bodyPost_ret (v := .tuple #[.agg #[.int .i64 0, .slice none 0 0, .int .i64 0, .bool false], .int .i64 132]) (by simp [results, Try.results15, go_sem, f0, f1, f2, f3]) rfl HFIN.out
      | false =>
        have HE : Hid (cutF ⟨rm, fs, lf, false⟩ left = (⟨rm, fs, left, false⟩, 0)) := Lib.hid (by unfold cutF; rw [if_pos ⟨HRG.out, Hp.out.symm⟩, if_neg (by simp)])
        go_wp2_with fail
        refine (HCL.out w2 (below_trans HB1.out HB2.out) (by have := HRG.out.fs.len; have := HL.out; simp only at *; omega)).mono ?_
        rintro e w4 hp
        obtain ⟨a4, c4, rfl, hs, hb⟩ := hp.fs
        have HS4 := Lib.hid hs
        have HB4 := Lib.hid (below_trans HB2.out hb)
        clear hp hs hb r0 r1 r2 r3
        rw [← HL.out] at HS4 ⊢
        have HRD4 := Lib.hid (HRD.out.below HB4.out)
        have HRR4 := Lib.hid (HRR.out.below HB4.out)
        have r0 := HRD4.out.cell (i := 0) rfl
        have r1 := HRD4.out.cell (i := 1) rfl
        have r2 := HRD4.out.cell (i := 2) rfl
        have r3 := HRD4.out.cell (i := 3) rfl
        have tr0 := HRD4.out.thaw 0
        have tr1 := HRD4.out.thaw 1
        have tr2 := HRD4.out.thaw 2
        have tr3 := HRD4.out.thaw 3
        have k0 := HRR4.out.cell (i := 0) rfl
        have k1 := HRR4.out.cell (i := 1) rfl
        have k2 := HRR4.out.cell (i := 2) rfl
        have k3 := HRR4.out.cell (i := 3) rfl
        have tk0 := HRR4.out.thaw 0
        have tk1 := HRR4.out.thaw 1
        have tk2 := HRR4.out.thaw 2
        have tk3 := HRR4.out.thaw 3
        have HBU := Lib.hid (((But.refl w.heap.size w4).set 1 (.slice a4 L c4)).set 2 (.int .i64 left))
        have HBP := Lib.hid (put4_but ((w4.setCell ⟨w.heap.size, 1, none⟩ (.slice a4 L c4)).setCell ⟨w.heap.size, 2, none⟩ (.int .i64 left)) (w.heap.size + 1) (.int .i64 rm) (.slice a4 L c4) (.int .i64 left) (.bool false))
        have R9 := put4_row (HRR4.out.keep (HBU.out.block (w.heap.size + 1) (by omega))) (.int .i64 rm) (.slice a4 L c4) (.int .i64 left) (.bool false)
        have f0 := R9.cell (i := 0) rfl
        have f1 := R9.cell (i := 1) rfl
        have f2 := R9.cell (i := 2) rfl
        have f3 := R9.cell (i := 3) rfl
        have HFIN : Hid (DkP (cutF ⟨rm, fs, lf, false⟩ left) w (.returned (.tuple #[.agg #[.int .i64 rm, .slice a4 L c4, .int .i64 left, .bool false], .int .i64 0])) (put4 ((w4.setCell ⟨w.heap.size, 1, none⟩ (.slice a4 L c4)).setCell ⟨w.heap.size, 2, none⟩ (.int .i64 left)) (w.heap.size + 1) (.int .i64 rm) (.slice a4 L c4) (.int .i64 left) (.bool false))) := Lib.hid (by
          rw [HE.out]
          refine ⟨a4, c4, by rw [HL.out]; rfl, ?_, ?_⟩
          · have h := slf_two HS4.out HRD4.out HRR4.out (fun k hk1 hk2 => (HBP.out.block k hk2).trans (HBU.out.block k hk1)) (HBP.out.size.trans HBU.out.size)
            simp only; rw [← HL.out]; exact h
          · exact ((below_trans HB1.out HB4.out).trans (HBU.out.below (Nat.le_refl _))).trans (HBP.out.below (B := w.heap.size) (by omega)))
        clear R9
        go_wp2
        exact bodyPost_ret (v := .tuple #[.agg #[.int .i64 rm, .slice a4 L c4, .int .i64 left, .bool false], .int .i64 0]) (by simp [results, Try.results15, go_sem, f0, f1, f2, f3]) rfl HFIN.out
end Go.Proofs.Ytmhdodiipkkjpaa.Dk
