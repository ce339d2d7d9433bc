/- Package disk: Rename. -/
import Derived.Test.YtmhdodiipkkjpaaDp
namespace Go.Proofs.Ytmhdodiipkkjpaa.Dk
open Go.RowKit

set_option maxHeartbeats 6400000 in
set_option maxRecDepth 100000 in
theorem rename_any (w : World) (d : Dsk) (a : Option Addr) (cap : Nat) (n m : BA) (h : DAt w d a cap) (hn : n.size ≤ 140737488351232) (hm : m.size ≤ 140737488351232) :
    Calls Try.prog 23 #[diV d (.slice a d.fs.length cap), .string n, .string m] w (DkP (renF d n m) w) := by
  obtain ⟨rm, fs, lf, dn⟩ := d
  have HX := Lib.hid h.fs
  have HFI := Lib.hid (fun W (hb : Below w.heap.size w W) => find_any (W.alloc (.cells #[.string m] 9)) ⟨rm, fs, lf, dn⟩ a cap n [m] (some ⟨W.heap.size, 0, none⟩) 1 (h.old (below_trans hb (below1 _ _))) hn (SlS.one W m 9) (one_le hm))
  simp only [List.length_singleton] at HFI
  obtain ⟨L, HL⟩ : ∃ L, Hid (L = fs.length) := ⟨_, Lib.hid rfl⟩
  simp only at HX HFI ⊢
  have HXO : Hid (∀ W, Below w.heap.size w W → SlF W (Old W) (.slice a L cap) fs) := Lib.hid (fun W hb => by rw [HL.out]; exact HX.out.old hb)
  rw [← HL.out] at HX HFI ⊢
  obtain ⟨W1, HW1⟩ : ∃ W, Hid (W = (((w.alloc (.cells #[.int .i64 rm, .slice a L cap, .int .i64 lf, .bool dn] 24)).alloc (.cells #[.string n] 9)).alloc (.cells #[.int .i64 0, .slice none 0 0, .int .i64 0, .bool false] 24))) := ⟨_, Lib.hid rfl⟩
  have HB1 : Hid (Below w.heap.size w W1) := Lib.hid (by rw [HW1.out]; exact below3 _ _ _ _ )
  have HSZ : Hid (W1.heap.size = w.heap.size + 3) := Lib.hid (by rw [HW1.out]; simp)
  have HRD : Hid (Row W1 w.heap.size 24 [.int .i64 rm, .slice a L cap, .int .i64 lf, .bool dn]) := Lib.hid (by rw [HW1.out]; exact ((row_new w #[.int .i64 rm, .slice a L cap, .int .i64 lf, .bool dn] _).alloc _).alloc _)
  have HRN : Hid (Row W1 (w.heap.size + 1) 9 [.string n]) := Lib.hid (by
    rw [HW1.out]
    have h := row_new (w.alloc (.cells #[.int .i64 rm, .slice a L cap, .int .i64 lf, .bool dn] 24)) #[.string n] 9
    simp only [World.size_alloc] at h
    exact h.alloc _)
  have HRR : Hid (Row W1 (w.heap.size + 1 + 1) 24 [.int .i64 0, .slice none 0 0, .int .i64 0, .bool false]) := Lib.hid (by
    rw [HW1.out]
    have h := row_new ((w.alloc (.cells #[.int .i64 rm, .slice a L cap, .int .i64 lf, .bool dn] 24)).alloc (.cells #[.string n] 9)) #[.int .i64 0, .slice none 0 0, .int .i64 0, .bool false] 24
    simp only [World.size_alloc] at h
    exact h)
  clear h
  obtain ⟨r, Hr⟩ : ∃ r, Hid (r = findE ⟨rm, fs, lf, dn⟩ [n, m] n) := ⟨_, Lib.hid rfl⟩
  rw [← Hr.out] at HFI
  have r0 := HRD.out.cell (i := 0) rfl
  have r1 := HRD.out.cell (i := 1) rfl
  have r2 := HRD.out.cell (i := 2) rfl
  have r3 := HRD.out.cell (i := 3) rfl
  have n0 := HRN.out.cell (i := 0) rfl
  rw [HW1.out] at r0 r1 r2 r3 n0
  cases r with
  | error k =>
    have HER := Lib.hid (findE_err Hr.out.symm)
    have hk3 : ((k : Int) == 0) = false := by
      rw [beq_eq_false_iff_ne]
      rcases HER.out with ⟨h, -⟩ | ⟨h, -⟩ | ⟨h, -⟩ <;> omega
    have hk4 : ((k : Int) != 0) = true := by rw [bne, hk3]; rfl
    go_enter Try.func23, Try.ntmps23
    go_wp2_with fail
    rw [← HW1.out]
    have HBN := Lib.hid (below1 W1 (.cells #[.string m] 9))
    have HFI1 := Lib.hid (HFI.out W1 HB1.out)
    rw [show W1.heap.size = w.heap.size + 1 + 1 + 1 from HSZ.out] at HFI1
    refine HFI1.out.mono ?_
    rintro e w2 ⟨rfl, hb2⟩
    simp only [finV]
    have HB2 : Hid (Below W1.heap.size W1 w2) := Lib.hid (below_trans HBN.out hb2)
    clear hb2 r0 r1 r2 r3 HW1 n0
    have HB3 := Lib.hid (below_trans HB2.out (below1 w2 (.cells (fiC noF) 44)))
    have HE : Hid (renF ⟨rm, fs, lf, dn⟩ n m = (zeroD, k)) := Lib.hid (by unfold renF; rw [← Hr.out])
    have HRr := Lib.hid (HRR.out.below HB3.out)
    have k0 := HRr.out.cell (i := 0) rfl
    have k1 := HRr.out.cell (i := 1) rfl
    have k2 := HRr.out.cell (i := 2) rfl
    have k3 := HRr.out.cell (i := 3) rfl
    have tk0 := HRr.out.thaw 0
    have tk1 := HRr.out.thaw 1
    have tk2 := HRr.out.thaw 2
    have tk3 := HRr.out.thaw 3
    have R9 := put4_row HRr.out (.int .i64 0) (.slice none 0 0) (.int .i64 0) (.bool false)
    have f0 := R9.cell (i := 0) rfl
    have f1 := R9.cell (i := 1) rfl
    have f2 := R9.cell (i := 2) rfl
    have f3 := R9.cell (i := 3) rfl
    have HFIN : Hid (DkP (renF ⟨rm, fs, lf, dn⟩ n m) w (.returned (.tuple #[.agg #[.int .i64 0, .slice none 0 0, .int .i64 0, .bool false], .int .i64 ((k : Nat) : Int)])) (put4 (w2.alloc (.cells (fiC noF) 44)) (w.heap.size + 1 + 1) (.int .i64 0) (.slice none 0 0) (.int .i64 0) (.bool false))) := Lib.hid (DkP.zero HE.out ((below_trans HB1.out HB3.out).trans ((put4_but (w2.alloc (.cells (fiC noF) 44)) (w.heap.size + 1 + 1) (.int .i64 0) (.slice none 0 0) (.int .i64 0) (.bool false)).below (by omega))) rfl)
    clear R9
    go_wp2
    exact bodyPost_ret (v := .tuple #[.agg #[.int .i64 0, .slice none 0 0, .int .i64 0, .bool false], .int .i64 ((k : Nat) : Int)]) (by simp [results, Try.results23, go_sem, f0, f1, f2, f3]) rfl HFIN.out
  | ok f =>
    obtain ⟨hg1, hg2, hg3, hg4⟩ := findE_ok Hr.out.symm
    have HRG := Lib.hid hg1
    have HFT := Lib.hid (hg1.fits f (findF_is hg4).1)
    have HL8 : Hid (fs.length ≤ 900) := Lib.hid (by have := hg1.fs.len; simp only at this; omega)
    clear hg1 hg2 hg3 hg4
    by_cases hdir : f.tl.size = 0
    · have hemp : f.tl.toList.isEmpty = true := emp_of hdir
      go_enter Try.func23, Try.ntmps23
      go_wp2_with fail
      rw [← HW1.out]
      have HBN := Lib.hid (below1 W1 (.cells #[.string m] 9))
      have HFI1 := Lib.hid (HFI.out W1 HB1.out)
      rw [show W1.heap.size = w.heap.size + 1 + 1 + 1 from HSZ.out] at HFI1
      refine HFI1.out.mono ?_
      rintro e w2 ⟨rfl, hb2⟩
      simp only [finV]
      have HB2 : Hid (Below W1.heap.size W1 w2) := Lib.hid (below_trans HBN.out hb2)
      clear hb2 r0 r1 r2 r3 HW1 n0
      have HFB : Hid (RowF (w2.alloc (.cells (fiC f) 44)) w2.heap.size f) := Lib.hid (row_new w2 (fiC f) _)
      have HB3 := Lib.hid (below_trans HB2.out (below1 w2 (.cells (fiC f) 44)))
      have HLE : Hid (w.heap.size + 3 ≤ w2.heap.size) := Lib.hid (by have h1 := HSZ.out; have h2 := HB2.out.size; omega)
      have HFB : Hid (RowF (w2.alloc (.cells (fiC ⟨m, f.sy, f.tl⟩) 44)) w2.heap.size ⟨m, f.sy, f.tl⟩) := Lib.hid (row_new w2 (fiC ⟨m, f.sy, f.tl⟩) _)
      have HB3 := Lib.hid (below_trans HB2.out (below1 w2 (.cells (fiC ⟨m, f.sy, f.tl⟩) 44)))
      go_wp2
      generalize hW3 : w2.alloc (.cells (fiC ⟨m, f.sy, f.tl⟩) 44) = W3 at *
      clear hW3
      have HRD3 := Lib.hid (HRD.out.below HB3.out)
      have HS : Hid (∀ W, Below W3.heap.size W3 W → W.cell? ⟨w.heap.size, 0, none⟩ = some (.int .i64 rm) ∧ W.cell? ⟨w.heap.size, 1, none⟩ = some (.slice a L cap) ∧ W.cell? ⟨w.heap.size, 2, none⟩ = some (.int .i64 lf) ∧ W.cell? ⟨w.heap.size, 3, none⟩ = some (.bool dn)) := Lib.hid (fun W hb => ⟨(HRD3.out.below hb).cell (i := 0) rfl, (HRD3.out.below hb).cell (i := 1) rfl, (HRD3.out.below hb).cell (i := 2) rfl, (HRD3.out.below hb).cell (i := 3) rfl⟩)
      have HDR := Lib.hid (Below.refl W3.heap.size W3).drew
      have hs0 := HS.out _ HDR.out
      refine wp_region_noPanic ?_
      refine wp_region_held_drew (S := fun W => W.cell? ⟨w.heap.size, 0, none⟩ = some (.int .i64 rm) ∧ W.cell? ⟨w.heap.size, 1, none⟩ = some (.slice a L cap) ∧ W.cell? ⟨w.heap.size, 2, none⟩ = some (.int .i64 lf) ∧ W.cell? ⟨w.heap.size, 3, none⟩ = some (.bool dn)) (by kernel_rfl) hs0 (fun hHeld => ?_)
      clear hs0
      generalize hW4 : W3.drew = w4 at *
      clear hW4
      refine wpAnyH_take (i := 0) (oi := { dst := some 30, op := Go.Op.load 24 (Go.Operand.tmp 3), type := 24, pos := "disk.go:65", after := #[], guard := none }) (v := ?_) rfl (by kernel_rfl) (by kernel_rfl) (by kernel_rfl) (fun _ _ _ h => h) (Or.inl ⟨by rfl, ?_⟩) (by assumption) ?_
      rotate_left
      · (intro w hSw; (try dsimp only at hSw); go_simp) <;> with_reducible rfl
      simp only [Act.put, List.setIfInBounds_toArray, List.set_cons_zero, List.set_cons_succ]
      refine wpAnyH_take (i := 1) (oi := { dst := some 31, op := Go.Op.move (Go.Operand.tmp 10), type := 62, pos := "disk.go:65", after := #[], guard := none }) (v := ?_) rfl (by kernel_rfl) (by kernel_rfl) (by kernel_rfl) (fun _ _ _ h => h) (Or.inl ⟨by rfl, ?_⟩) (by assumption) ?_
      rotate_left
      · (intro w hSw; (try dsimp only at hSw); go_simp) <;> with_reducible rfl
      simp only [Act.put, List.setIfInBounds_toArray, List.set_cons_zero, List.set_cons_succ]
      refine wpAnyH_take (i := 2) (oi := { dst := some 32, op := Go.Op.load 24 (Go.Operand.tmp 3), type := 24, pos := "disk.go:65", after := #[], guard := none }) (v := ?_) rfl (by kernel_rfl) (by kernel_rfl) (by kernel_rfl) (fun _ _ _ h => h) (Or.inl ⟨by rfl, ?_⟩) (by assumption) ?_
      rotate_left
      · (intro w hSw; (try dsimp only at hSw); go_simp) <;> with_reducible rfl
      simp only [Act.put, List.setIfInBounds_toArray, List.set_cons_zero, List.set_cons_succ]
      have HB5 := Lib.hid (below_trans HDR.out (below1 w4 (.cells #[.int .i64 rm, .slice a L cap, .int .i64 lf, .bool dn] 24)))
      have HRU : Hid (Row (w4.alloc (.cells #[.int .i64 rm, .slice a L cap, .int .i64 lf, .bool dn] 24)) w4.heap.size 24 [.int .i64 rm, .slice a L cap, .int .i64 lf, .bool dn]) := Lib.hid (row_new w4 #[.int .i64 rm, .slice a L cap, .int .i64 lf, .bool dn] _)
      have HUN := Lib.hid (unchanged_any w4 ⟨rm, fs, lf, dn⟩ (.slice a L cap))
      refine wpAnyH_ready (rs := [3]) (by kernel_rfl) (by simp) ?_
      refine AllReadyH.cons (o := { dst := some 33, op := Go.Op.call { callee := Go.Callee.value (Go.Operand.func 39), args := #[Go.Operand.tmp 32], argTypes := #[24] }, type := 64, pos := "disk.go:65", after := #[{ on := 2, ground := Go.Ground.data }], guard := none }) rfl (fun K hK => ?_) AllReadyH.nil
      go_simp
      refine HUN.out.mono ?_
      rintro e w5 ⟨rfl, rfl⟩
      go_wp2_with fail
      refine hK.out _ _ ?_ (fun hz2 => ?_)
      · exact HS.out _ HB5.out
      clear hK K hHeld 
      try simp only [Act.put, List.setIfInBounds_toArray, List.set_cons_zero, List.set_cons_succ]
      generalize hW5 : w4.alloc (.cells #[.int .i64 rm, .slice a L cap, .int .i64 lf, .bool dn] 24) = w5 at *
      clear hW5
      have HB1w := Lib.hid (below_trans HB3.out HB5.out)
      have HDB : Hid (∀ W, Below w5.heap.size w5 W → DBox W w.heap.size ⟨rm, fs, lf, dn⟩ a cap) := Lib.hid (fun W hb => ⟨by simp only; rw [← HL.out]; exact HRD3.out.below (below_trans HB5.out hb), by simp only; rw [← HL.out]; exact HXO.out W (below_trans HB1.out (below_trans HB1w.out hb))⟩)
      have HDU : Hid (∀ W, Below w5.heap.size w5 W → DBox W w4.heap.size ⟨rm, fs, lf, dn⟩ a cap) := Lib.hid (fun W hb => ⟨by simp only; rw [← HL.out]; exact HRU.out.below hb, by simp only; rw [← HL.out]; exact HXO.out W (below_trans HB1.out (below_trans HB1w.out hb))⟩)
      have HON : Hid (∀ W, Below w5.heap.size w5 W → Calls Try.prog 40 #[ptr w.heap.size, ptr (w.heap.size + 1), ptr w2.heap.size] W (FsPost (withF (outF fs n) ⟨m, f.sy, f.tl⟩) W)) := Lib.hid (fun W hb => rename1_any W w.heap.size (w.heap.size + 1) w2.heap.size ⟨rm, fs, lf, dn⟩ a cap n ⟨m, f.sy, f.tl⟩ (HDB.out W hb) (HRN.out.below (below_trans HB1w.out hb)) (HFB.out.below (below_trans HB5.out hb)) HL8.out)
      have HOF : Hid (∀ W, Below w5.heap.size w5 W → Calls Try.prog 45 #[ptr w4.heap.size] W (FsPost fs W)) := Lib.hid (fun W hb => same1_any W w4.heap.size ⟨rm, fs, lf, dn⟩ a cap (HDU.out W hb) HL8.out)
      have HPR : Hid (renF ⟨rm, fs, lf, dn⟩ n m = exeF ⟨rm, fs, lf, dn⟩ (withF (outF fs n) ⟨m, f.sy, f.tl⟩) fs) := Lib.hid (by unfold renF; rw [← Hr.out]; simp only; rw [if_neg (fun h => h hdir)])
      have HEX := Lib.hid (execN_any w5 ⟨rm, fs, lf, dn⟩ a L cap _ _ _ _ HRG.out.left HON.out HOF.out)
      rw [← HPR.out] at HEX
      clear HON HOF HDB HDU HPR
      refine wpAnyH_ready (rs := [4]) (by kernel_rfl) (by simp) ?_
      refine AllReadyH.cons (o := { dst := some 34, op := Go.Op.call { callee := Go.Callee.value (Go.Operand.func 37), args := #[Go.Operand.tmp 30, Go.Operand.tmp 31, Go.Operand.tmp 33], argTypes := #[24, 64, 64] }, type := 29, pos := "disk.go:65", after := #[{ on := 0, ground := Go.Ground.data }, { on := 1, ground := Go.Ground.data }, { on := 3, ground := Go.Ground.data }, { on := 3, ground := Go.Ground.chain }], guard := none }) rfl (fun K hK => ?_) AllReadyH.nil
      go_simp
      refine HEX.out.mono ?_
      rintro e w7 ⟨a7, c7, rfl, hs7, hb7⟩
      have HB7 := Lib.hid (below_trans HB1w.out hb7)
      have HB57 := Lib.hid (below_trans HB5.out hb7)
      have HRR7 := Lib.hid (HRR.out.below HB7.out)
      have HRD7 := Lib.hid (HRD.out.below HB7.out)
      have HS7 := Lib.hid hs7
      clear hb7 hs7
      obtain ⟨r, HRS⟩ : ∃ r, Hid (r = renF ⟨rm, fs, lf, dn⟩ n m) := ⟨_, Lib.hid rfl⟩
      rw [← HRS.out] at HS7 ⊢
      obtain ⟨⟨rr, rf, rl, rd⟩, k⟩ := r
      simp only at HS7 ⊢
      obtain ⟨L7, HL7⟩ : ∃ L, Hid (L = rf.length) := ⟨_, Lib.hid rfl⟩
      rw [← HL7.out] at HS7 ⊢
      have HFIN : Hid (DkP (renF ⟨rm, fs, lf, dn⟩ n m) w (.returned (.tuple #[.agg #[.int .i64 rr, .slice a7 L7 c7, .int .i64 rl, .bool rd], .int .i64 (k : Nat)])) (put4 w7 (w.heap.size + 1 + 1) (.int .i64 rr) (.slice a7 L7 c7) (.int .i64 rl) (.bool rd))) := Lib.hid (by rw [← HRS.out]; exact DkP.put (a := a7) (cap := c7) (w7 := w7) (R := w.heap.size + 1 + 1) (by simp only; rw [← HL7.out]; exact HS7.out) (below_trans HB1.out HB7.out) (by omega) HRR7.out (by simp only; rw [← HL7.out]) (by simp only; rw [← HL7.out]))
      go_wp2_with fail
      refine hK.out _ _ ?_ (fun hz3 => ?_)
      · exact HS.out _ HB57.out
      clear hK K hz2 
      try simp only [Act.put, List.setIfInBounds_toArray, List.set_cons_zero, List.set_cons_succ]
      refine wpAnyH_take (i := 5) (oi := { dst := some 35, op := Go.Op.extract (Go.Operand.tmp 34) 0, type := 24, pos := "disk.go:65", after := #[{ on := 4, ground := Go.Ground.data }], guard := none }) (v := ?_) rfl (by kernel_rfl) (by kernel_rfl) (by kernel_rfl) (fun _ _ _ h => h) (Or.inl ⟨by rfl, ?_⟩) (by assumption) ?_
      rotate_left
      · (intro w hSw; (try dsimp only at hSw); go_simp) <;> with_reducible rfl
      simp only [Act.put, List.setIfInBounds_toArray, List.set_cons_zero, List.set_cons_succ]
      refine wpAnyH_take (i := 6) (oi := { dst := some 36, op := Go.Op.extract (Go.Operand.tmp 34) 1, type := 28, pos := "disk.go:65", after := #[{ on := 4, ground := Go.Ground.data }], guard := none }) (v := ?_) rfl (by kernel_rfl) (by kernel_rfl) (by kernel_rfl) (fun _ _ _ h => h) (Or.inl ⟨by rfl, ?_⟩) (by assumption) ?_
      rotate_left
      · (intro w hSw; (try dsimp only at hSw); go_simp) <;> with_reducible rfl
      simp only [Act.put, List.setIfInBounds_toArray, List.set_cons_zero, List.set_cons_succ]
      have k0 := HRR7.out.cell (i := 0) rfl
      have k1 := HRR7.out.cell (i := 1) rfl
      have k2 := HRR7.out.cell (i := 2) rfl
      have k3 := HRR7.out.cell (i := 3) rfl
      have tk0 := HRR7.out.thaw 0
      have tk1 := HRR7.out.thaw 1
      have tk2 := HRR7.out.thaw 2
      have tk3 := HRR7.out.thaw 3
      have R9 := put4_row HRR7.out (.int .i64 rr) (.slice a7 L7 c7) (.int .i64 rl) (.bool rd)
      have f0 := R9.cell (i := 0) rfl
      have f1 := R9.cell (i := 1) rfl
      have f2 := R9.cell (i := 2) rfl
      have f3 := R9.cell (i := 3) rfl
      have RD9 := put4_same (a := .int .i64 rr) (b := .slice a7 L7 c7) (c := .int .i64 rl) (d := .bool rd) HRD7.out (show w.heap.size ≠ w.heap.size + 1 + 1 by omega)
      have hz9 : (fun W : World => W.cell? ⟨w.heap.size, 0, none⟩ = some (.int .i64 rm) ∧ W.cell? ⟨w.heap.size, 1, none⟩ = some (.slice a L cap) ∧ W.cell? ⟨w.heap.size, 2, none⟩ = some (.int .i64 lf) ∧ W.cell? ⟨w.heap.size, 3, none⟩ = some (.bool dn)) (put4 w7 (w.heap.size + 1 + 1) (.int .i64 rr) (.slice a7 L7 c7) (.int .i64 rl) (.bool rd)) := ⟨RD9.cell (i := 0) rfl, RD9.cell (i := 1) rfl, RD9.cell (i := 2) rfl, RD9.cell (i := 3) rfl⟩
      clear R9 RD9 HRS
      refine wpAnyH_ready (rs := [7]) (by kernel_rfl) (by simp) ?_
      refine AllReadyH.cons (o := { dst := none, op := Go.Op.store 24 (Go.Operand.tmp 6) (Go.Operand.tmp 35), type := 0, pos := "disk.go:65", after := #[{ on := 5, ground := Go.Ground.data }, { on := 4, ground := Go.Ground.chain }, { on := 0, ground := Go.Ground.phase }, { on := 1, ground := Go.Ground.phase }, { on := 2, ground := Go.Ground.phase }, { on := 3, ground := Go.Ground.phase }, { on := 4, ground := Go.Ground.phase }, { on := 5, ground := Go.Ground.phase }, { on := 6, ground := Go.Ground.phase }], guard := none }) rfl (fun K hK => ?_) AllReadyH.nil
      go_simp
      refine hK.out _ _ ?_ (fun hz4 => ?_)
      · exact hz9
      clear hK K hz3 
      try simp only [Act.put, List.setIfInBounds_toArray, List.set_cons_zero, List.set_cons_succ]
      refine wpAnyH_take (i := 8) (oi := { dst := some 7, op := Go.Op.assign (Go.Operand.tmp 36), type := 28, pos := "disk.go:65", after := #[{ on := 6, ground := Go.Ground.data }, { on := 7, ground := Go.Ground.chain }, { on := 0, ground := Go.Ground.phase }, { on := 1, ground := Go.Ground.phase }, { on := 2, ground := Go.Ground.phase }, { on := 3, ground := Go.Ground.phase }, { on := 4, ground := Go.Ground.phase }, { on := 5, ground := Go.Ground.phase }, { on := 6, ground := Go.Ground.phase }, { on := 7, ground := Go.Ground.phase }], guard := none }) (v := ?_) rfl (by kernel_rfl) (by kernel_rfl) (by kernel_rfl) (fun _ _ _ h => h) (Or.inl ⟨by rfl, ?_⟩) (by assumption) ?_
      rotate_left
      · (intro w hSw; (try dsimp only at hSw); go_simp) <;> with_reducible rfl
      simp only [Act.put, List.setIfInBounds_toArray, List.set_cons_zero, List.set_cons_succ]
      refine wpAnyH_done (by kernel_rfl) ?_ _
      refine NoPanic.normal ?_
      go_wp2
      exact bodyPost_ret (v := .tuple #[.agg #[.int .i64 rr, .slice a7 L7 c7, .int .i64 rl, .bool rd], .int .i64 (k : Nat)]) (by simp [results, Try.results23, go_sem, f0, f1, f2, f3]) rfl HFIN.out
    · have hemp : f.tl.toList.isEmpty = false := nemp_of hdir
      go_enter Try.func23, Try.ntmps23
      go_wp2_with fail
      rw [← HW1.out]
      have HBN := Lib.hid (below1 W1 (.cells #[.string m] 9))
      have HFI1 := Lib.hid (HFI.out W1 HB1.out)
      rw [show W1.heap.size = w.heap.size + 1 + 1 + 1 from HSZ.out] at HFI1
      refine HFI1.out.mono ?_
      rintro e w2 ⟨rfl, hb2⟩
      simp only [finV]
      have HB2 : Hid (Below W1.heap.size W1 w2) := Lib.hid (below_trans HBN.out hb2)
      clear hb2 r0 r1 r2 r3 HW1 n0
      have HB3 := Lib.hid (below_trans HB2.out (below1 w2 (.cells (fiC f) 44)))
      have HE : Hid (renF ⟨rm, fs, lf, dn⟩ n m = (zeroD, 131)) := Lib.hid (by unfold renF; rw [← Hr.out]; simp only; rw [if_pos hdir])
      have HRr := Lib.hid (HRR.out.below HB3.out)
      have k0 := HRr.out.cell (i := 0) rfl
      have k1 := HRr.out.cell (i := 1) rfl
      have k2 := HRr.out.cell (i := 2) rfl
      have k3 := HRr.out.cell (i := 3) rfl
      have tk0 := HRr.out.thaw 0
      have tk1 := HRr.out.thaw 1
      have tk2 := HRr.out.thaw 2
      have tk3 := HRr.out.thaw 3
      have R9 := put4_row HRr.out (.int .i64 0) (.slice none 0 0) (.int .i64 0) (.bool false)
      have f0 := R9.cell (i := 0) rfl
      have f1 := R9.cell (i := 1) rfl
      have f2 := R9.cell (i := 2) rfl
      have f3 := R9.cell (i := 3) rfl
      have HFIN : Hid (DkP (renF ⟨rm, fs, lf, dn⟩ n m) w (.returned (.tuple #[.agg #[.int .i64 0, .slice none 0 0, .int .i64 0, .bool false], .int .i64 131])) (put4 (w2.alloc (.cells (fiC f) 44)) (w.heap.size + 1 + 1) (.int .i64 0) (.slice none 0 0) (.int .i64 0) (.bool false))) := Lib.hid (DkP.zero HE.out ((below_trans HB1.out HB3.out).trans ((put4_but (w2.alloc (.cells (fiC f) 44)) (w.heap.size + 1 + 1) (.int .i64 0) (.slice none 0 0) (.int .i64 0) (.bool false)).below (by omega))) rfl)
      clear R9
      go_wp2
      exact bodyPost_ret (v := .tuple #[.agg #[.int .i64 0, .slice none 0 0, .int .i64 0, .bool false], .int .i64 131]) (by simp [results, Try.results23, go_sem, f0, f1, f2, f3]) rfl HFIN.out
end Go.Proofs.Ytmhdodiipkkjpaa.Dk
