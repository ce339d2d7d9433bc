/- Package disk: the document's Call, 3. -/
import Derived.Test.YtmhdodiipkkjpaaDy
namespace Go.Proofs.Ytmhdodiipkkjpaa.Dk
open Go.RowKit


set_option maxHeartbeats 6400000 in
set_option maxRecDepth 100000 in
theorem rcall3_any (w : World) (d : Dsk) (a : Option Addr) (cap : Nat) (n m : BA) (h : DAt w d a cap) (hn : n.size ≤ 140737488351232) (hm : m.size ≤ 140737488351232) :
    Calls Try.prog 10 #[diV d (.slice a d.fs.length cap), .int .i64 3, .string n, .string m] w (DkP (callF 3 d n m) w) := by
  obtain ⟨rm, fs, lf, dn⟩ := d
  have HX := Lib.hid h.fs
  have HRT := Lib.hid (fun W (hb : Below w.heap.size w W) => rright_any W ⟨rm, fs, lf, dn⟩ a cap (h.old hb))
  have HAT := Lib.hid (fun W (hb : Below w.heap.size w W) => rat_any W ⟨rm, fs, lf, dn⟩ a cap n (h.fs.old hb))
  have HNN := Lib.hid (fun W => rname_any n W hn)
  have HNM := Lib.hid (fun W => rname_any m W hm)
  have HZ := Lib.hid (fun W (hb : Below w.heap.size w W) => rsize_any W a cap fs (h.fs.old hb) h.fit)
  obtain ⟨L, HL⟩ : ∃ L, Hid (L = fs.length) := ⟨_, Lib.hid rfl⟩
  simp only at HX HRT HAT ⊢
  have HXO : Hid (∀ W, Below w.heap.size w W → SlF W (Old W) (.slice a L cap) fs) := Lib.hid (fun W hb => by rw [HL.out]; exact HX.out.old hb)
  rw [← HL.out] at HX HRT HAT HZ ⊢
  clear h hn
  obtain ⟨W1, HW1⟩ : ∃ W, Hid (W = ((w.alloc (.cells #[.int .i64 rm, .slice a L cap, .int .i64 lf, .bool dn] 24)).alloc (.cells #[.int .i64 0, .slice none 0 0, .int .i64 0, .bool false] 24)).alloc (.cells #[.int .i64 0, .slice none 0 0, .int .i64 0, .bool false] 24)) := ⟨_, Lib.hid rfl⟩
  have HB1 : Hid (Below w.heap.size w W1) := Lib.hid (by rw [HW1.out]; exact below3 _ _ _ _)
  have HSZ : Hid (W1.heap.size = w.heap.size + 3) := Lib.hid (by rw [HW1.out]; simp)
  have HRD : Hid (Row W1 w.heap.size 24 [.int .i64 rm, .slice a L cap, .int .i64 lf, .bool dn]) := Lib.hid (by rw [HW1.out]; exact ((row_new w #[.int .i64 rm, .slice a L cap, .int .i64 lf, .bool dn] _).alloc _).alloc _)
  have HRR : Hid (Row W1 (w.heap.size + 1) 24 [.int .i64 0, .slice none 0 0, .int .i64 0, .bool false]) := Lib.hid (by
    rw [HW1.out]
    have h := row_new (w.alloc (.cells #[.int .i64 rm, .slice a L cap, .int .i64 lf, .bool dn] 24)) #[.int .i64 0, .slice none 0 0, .int .i64 0, .bool false] 24
    simp only [World.size_alloc] at h
    exact h.alloc _)
  have HRZ : Hid (Row W1 (w.heap.size + 1 + 1) 24 [.int .i64 0, .slice none 0 0, .int .i64 0, .bool false]) := Lib.hid (by
    rw [HW1.out]
    have h := row_new ((w.alloc (.cells #[.int .i64 rm, .slice a L cap, .int .i64 lf, .bool dn] 24)).alloc (.cells #[.int .i64 0, .slice none 0 0, .int .i64 0, .bool false] 24)) #[.int .i64 0, .slice none 0 0, .int .i64 0, .bool false] 24
    simp only [World.size_alloc] at h
    exact h)
  have r0 := HRD.out.cell (i := 0) rfl
  have r1 := HRD.out.cell (i := 1) rfl
  have r2 := HRD.out.cell (i := 2) rfl
  have r3 := HRD.out.cell (i := 3) rfl
  rw [HW1.out] at r0 r1 r2 r3
  obtain ⟨p, Hp⟩ : ∃ q, Hid (q = nmB n) := ⟨_, Lib.hid rfl⟩
  rw [← Hp.out] at HNN
  obtain ⟨pm, Hpm⟩ : ∃ q, Hid (q = nmB m) := ⟨_, Lib.hid rfl⟩
  rw [← Hpm.out] at HNM
  go_enter Try.func10, Try.ntmps10
  go_wp2_with fail
  rw [← HW1.out]
  refine (HRT.out W1 HB1.out).mono ?_
  rintro e w2 ⟨q, rfl, hq, hb2⟩
  have HB2 := Lib.hid hb2
  have HQ := Lib.hid hq
  clear hb2 hq r0 r1 r2 r3 HW1
  cases q with
  | false =>
    have HE : Hid (callF 3 ⟨rm, fs, lf, dn⟩ n m = (zeroD, 1)) := Lib.hid (call_bad (fun h => by have := HQ.out.2 h.1; cases this))
    have HRr := Lib.hid (HRR.out.below HB2.out)
    have HRz := Lib.hid (HRZ.out.below HB2.out)
    have k0 := HRr.out.cell (i := 0) rfl
    have k1 := HRr.out.cell (i := 1) rfl
    have k2 := HRr.out.cell (i := 2) rfl
    have k3 := HRr.out.cell (i := 3) rfl
    have tk0 := HRr.out.thaw 0
    have tk1 := HRr.out.thaw 1
    have tk2 := HRr.out.thaw 2
    have tk3 := HRr.out.thaw 3
    have z0 := HRz.out.cell (i := 0) rfl
    have z1 := HRz.out.cell (i := 1) rfl
    have z2 := HRz.out.cell (i := 2) rfl
    have z3 := HRz.out.cell (i := 3) rfl
    have R9 := put4_row HRr.out (.int .i64 0) (.slice none 0 0) (.int .i64 0) (.bool false)
    have f0 := R9.cell (i := 0) rfl
    have f1 := R9.cell (i := 1) rfl
    have f2 := R9.cell (i := 2) rfl
    have f3 := R9.cell (i := 3) rfl
    have HFIN : Hid (DkP (callF 3 ⟨rm, fs, lf, dn⟩ n m) w (.returned (.tuple #[.agg #[.int .i64 0, .slice none 0 0, .int .i64 0, .bool false], .int .i64 1])) (put4 w2 (w.heap.size + 1) (.int .i64 0) (.slice none 0 0) (.int .i64 0) (.bool false))) := Lib.hid (DkP.zero HE.out ((below_trans HB1.out HB2.out).trans ((put4_but w2 (w.heap.size + 1) (.int .i64 0) (.slice none 0 0) (.int .i64 0) (.bool false)).below (by omega))) rfl)
    clear R9
    go_wp2
    exact bodyPost_ret (v := .tuple #[.agg #[.int .i64 0, .slice none 0 0, .int .i64 0, .bool false], .int .i64 1]) (by simp [results, Try.results10, go_sem, f0, f1, f2, f3]) rfl HFIN.out
  | true =>
    have HRG : Hid (RgtD ⟨rm, fs, lf, dn⟩) := Lib.hid (HQ.out.1 rfl)
    clear HQ
    go_wp2_with fail
    refine (HNN.out w2).mono ?_
    rintro e w3 ⟨rfl, rfl⟩
    cases p with
    | false =>
      have HE : Hid (callF 3 ⟨rm, fs, lf, dn⟩ n m = (zeroD, 1)) := Lib.hid (call_bad (fun h => by have := h.2; rw [← Hp.out] at this; cases this))
      have HRr := Lib.hid (HRR.out.below HB2.out)
      have HRz := Lib.hid (HRZ.out.below HB2.out)
      have k0 := HRr.out.cell (i := 0) rfl
      have k1 := HRr.out.cell (i := 1) rfl
      have k2 := HRr.out.cell (i := 2) rfl
      have k3 := HRr.out.cell (i := 3) rfl
      have tk0 := HRr.out.thaw 0
      have tk1 := HRr.out.thaw 1
      have tk2 := HRr.out.thaw 2
      have tk3 := HRr.out.thaw 3
      have z0 := HRz.out.cell (i := 0) rfl
      have z1 := HRz.out.cell (i := 1) rfl
      have z2 := HRz.out.cell (i := 2) rfl
      have z3 := HRz.out.cell (i := 3) rfl
      have R9 := put4_row HRr.out (.int .i64 0) (.slice none 0 0) (.int .i64 0) (.bool false)
      have f0 := R9.cell (i := 0) rfl
      have f1 := R9.cell (i := 1) rfl
      have f2 := R9.cell (i := 2) rfl
      have f3 := R9.cell (i := 3) rfl
      have HFIN : Hid (DkP (callF 3 ⟨rm, fs, lf, dn⟩ n m) w (.returned (.tuple #[.agg #[.int .i64 0, .slice none 0 0, .int .i64 0, .bool false], .int .i64 1])) (put4 w2 (w.heap.size + 1) (.int .i64 0) (.slice none 0 0) (.int .i64 0) (.bool false))) := Lib.hid (DkP.zero HE.out ((below_trans HB1.out HB2.out).trans ((put4_but w2 (w.heap.size + 1) (.int .i64 0) (.slice none 0 0) (.int .i64 0) (.bool false)).below (by omega))) rfl)
      clear R9
      go_wp2
      exact bodyPost_ret (v := .tuple #[.agg #[.int .i64 0, .slice none 0 0, .int .i64 0, .bool false], .int .i64 1]) (by simp [results, Try.results10, go_sem, f0, f1, f2, f3]) rfl HFIN.out
    | true =>
      go_wp2_with fail
      refine (HNM.out w2).mono ?_
      rintro e w3 ⟨rfl, rfl⟩
      cases pm with
      | false =>
        have HE : Hid (callF 3 ⟨rm, fs, lf, dn⟩ n m = (zeroD, 1)) := Lib.hid (call_bad3 Hpm.out.symm)
        have HRr := Lib.hid (HRR.out.below HB2.out)
        have HRz := Lib.hid (HRZ.out.below HB2.out)
        have k0 := HRr.out.cell (i := 0) rfl
        have k1 := HRr.out.cell (i := 1) rfl
        have k2 := HRr.out.cell (i := 2) rfl
        have k3 := HRr.out.cell (i := 3) rfl
        have tk0 := HRr.out.thaw 0
        have tk1 := HRr.out.thaw 1
        have tk2 := HRr.out.thaw 2
        have tk3 := HRr.out.thaw 3
        have z0 := HRz.out.cell (i := 0) rfl
        have z1 := HRz.out.cell (i := 1) rfl
        have z2 := HRz.out.cell (i := 2) rfl
        have z3 := HRz.out.cell (i := 3) rfl
        have R9 := put4_row HRr.out (.int .i64 0) (.slice none 0 0) (.int .i64 0) (.bool false)
        have f0 := R9.cell (i := 0) rfl
        have f1 := R9.cell (i := 1) rfl
        have f2 := R9.cell (i := 2) rfl
        have f3 := R9.cell (i := 3) rfl
        have HFIN : Hid (DkP (callF 3 ⟨rm, fs, lf, dn⟩ n m) w (.returned (.tuple #[.agg #[.int .i64 0, .slice none 0 0, .int .i64 0, .bool false], .int .i64 1])) (put4 w2 (w.heap.size + 1) (.int .i64 0) (.slice none 0 0) (.int .i64 0) (.bool false))) := Lib.hid (DkP.zero HE.out ((below_trans HB1.out HB2.out).trans ((put4_but w2 (w.heap.size + 1) (.int .i64 0) (.slice none 0 0) (.int .i64 0) (.bool false)).below (by omega))) rfl)
        clear R9
        go_wp2
        exact bodyPost_ret (v := .tuple #[.agg #[.int .i64 0, .slice none 0 0, .int .i64 0, .bool false], .int .i64 1]) (by simp [results, Try.results10, go_sem, f0, f1, f2, f3]) rfl HFIN.out
      | true =>
        have HRD2 := Lib.hid (HRD.out.below HB2.out)
        have r0 := HRD2.out.cell (i := 0) rfl
        have r1 := HRD2.out.cell (i := 1) rfl
        have r2 := HRD2.out.cell (i := 2) rfl
        have r3 := HRD2.out.cell (i := 3) rfl
        cases dn with
        | true =>
          have HE : Hid (callF 3 ⟨rm, fs, lf, true⟩ n m = (zeroD, 132)) := Lib.hid (call_down HRG.out Hp.out.symm (fun _ => Hpm.out.symm) rfl)
          have HRr := Lib.hid (HRR.out.below HB2.out)
          have HRz := Lib.hid (HRZ.out.below HB2.out)
          have k0 := HRr.out.cell (i := 0) rfl
          have k1 := HRr.out.cell (i := 1) rfl
          have k2 := HRr.out.cell (i := 2) rfl
          have k3 := HRr.out.cell (i := 3) rfl
          have tk0 := HRr.out.thaw 0
          have tk1 := HRr.out.thaw 1
          have tk2 := HRr.out.thaw 2
          have tk3 := HRr.out.thaw 3
          have z0 := HRz.out.cell (i := 0) rfl
          have z1 := HRz.out.cell (i := 1) rfl
          have z2 := HRz.out.cell (i := 2) rfl
          have z3 := HRz.out.cell (i := 3) rfl
          have R9 := put4_row HRr.out (.int .i64 0) (.slice none 0 0) (.int .i64 0) (.bool false)
          have f0 := R9.cell (i := 0) rfl
          have f1 := R9.cell (i := 1) rfl
          have f2 := R9.cell (i := 2) rfl
          have f3 := R9.cell (i := 3) rfl
          have HFIN : Hid (DkP (callF 3 ⟨rm, fs, lf, true⟩ n m) w (.returned (.tuple #[.agg #[.int .i64 0, .slice none 0 0, .int .i64 0, .bool false], .int .i64 132])) (put4 w2 (w.heap.size + 1) (.int .i64 0) (.slice none 0 0) (.int .i64 0) (.bool false))) := Lib.hid (DkP.zero HE.out ((below_trans HB1.out HB2.out).trans ((put4_but w2 (w.heap.size + 1) (.int .i64 0) (.slice none 0 0) (.int .i64 0) (.bool false)).below (by omega))) rfl)
          clear R9
          go_wp2
          exact bodyPost_ret (v := .tuple #[.agg #[.int .i64 0, .slice none 0 0, .int .i64 0, .bool false], .int .i64 132]) (by simp [results, Try.results10, go_sem, f0, f1, f2, f3]) rfl HFIN.out
        | false =>
          go_wp2_with fail
          refine (HAT.out w2 (below_trans HB1.out HB2.out)).mono ?_
          rintro e w3 ⟨rfl, hb3⟩
          have HB3 := Lib.hid (below_trans HB2.out hb3)
          clear hb3 r0 r1 r2 r3 HRD2
          rcases at_find (l := fs) (n := n) with ⟨hfn, hat⟩ | ⟨k, x, hx, hfx, hat, hxn⟩
          · rw [hat]
            clear hat
            have HB4 := Lib.hid (below_trans HB3.out (below1 w3 (.cells #[.string n, .string ⟨#[]⟩, .string ⟨#[]⟩] 44)))
            have HFB : Hid (Row (w3.alloc (.cells #[.string n, .string ⟨#[]⟩, .string ⟨#[]⟩] 44)) w3.heap.size 44 [.string n, .string ⟨#[]⟩, .string ⟨#[]⟩]) := Lib.hid (row_new w3 #[.string n, .string ⟨#[]⟩, .string ⟨#[]⟩] _)
            go_wp2
            generalize hW4 : w3.alloc (.cells #[.string n, .string ⟨#[]⟩, .string ⟨#[]⟩] 44) = w4 at *
            clear hW4
            have HRD4 := Lib.hid (HRD.out.below HB4.out)
            have HSD : Hid (∀ W, Below w4.heap.size w4 W → W.cell? ⟨w.heap.size, 0, none⟩ = some (.int .i64 rm) ∧ W.cell? ⟨w.heap.size, 1, none⟩ = some (.slice a L cap)) := Lib.hid (fun W hb => ⟨(HRD4.out.below hb).cell (i := 0) rfl, (HRD4.out.below hb).cell (i := 1) rfl⟩)
            have HDR := Lib.hid (Below.refl w4.heap.size w4).drew
            have hs0 := HSD.out _ HDR.out
            refine wp_region_noPanic ?_
            refine wp_region_held_drew (S := fun W => W.cell? ⟨w.heap.size, 0, none⟩ = some (.int .i64 rm) ∧ W.cell? ⟨w.heap.size, 1, none⟩ = some (.slice a L cap)) (by kernel_rfl) hs0 (fun hHeld => ?_)
            clear hs0
            generalize hW6 : w4.drew = w6 at *
            clear hW6
            refine wpAnyH_take (i := 0) (oi := { dst := some 49, op := Go.Op.move (Go.Operand.tmp 1), type := 3, pos := "ref.go:96", after := #[], guard := none }) (v := ?_) rfl (by kernel_rfl) (by kernel_rfl) (by kernel_rfl) (fun _ _ _ h => h) (Or.inl ⟨by rfl, ?_⟩) (by assumption) ?_
            rotate_left
            · (intro w hSw; (try dsimp only at hSw); go_simp) <;> with_reducible rfl
            simp only [Act.put, List.setIfInBounds_toArray, List.set_cons_zero, List.set_cons_succ]
            refine wpAnyH_take (i := 1) (oi := { dst := some 50, op := Go.Op.binOp Go.BinOp.eql 3 (Go.Operand.tmp 49) (Go.Operand.const (Go.Value.int Go.IntKind.i64 1)) 3, type := 4, pos := "ref.go:96", after := #[{ on := 0, ground := Go.Ground.data }], guard := none }) (v := ?_) rfl (by kernel_rfl) (by kernel_rfl) (by kernel_rfl) (fun _ _ _ h => h) (Or.inl ⟨by rfl, ?_⟩) (by assumption) ?_
            rotate_left
            · (intro w hSw; (try dsimp only at hSw); go_simp) <;> with_reducible rfl
            simp only [Act.put, List.setIfInBounds_toArray, List.set_cons_zero, List.set_cons_succ]
            refine wpAnyH_take (i := 2) (oi := { dst := some 51, op := Go.Op.move (Go.Operand.tmp 50), type := 4, pos := "ref.go:96", after := #[{ on := 1, ground := Go.Ground.data }], guard := none }) (v := ?_) rfl (by kernel_rfl) (by kernel_rfl) (by kernel_rfl) (fun _ _ _ h => h) (Or.inl ⟨by rfl, ?_⟩) (by assumption) ?_
            rotate_left
            · (intro w hSw; (try dsimp only at hSw); go_simp) <;> with_reducible rfl
            simp only [Act.put, List.setIfInBounds_toArray, List.set_cons_zero, List.set_cons_succ]
            refine wpAnyH_skip (i := 3) (d := 52) (by kernel_rfl) (by kernel_rfl) (by kernel_rfl) (by kernel_rfl) (fun _ _ _ h => h) (by assumption) ?_
            simp only [Act.put, List.setIfInBounds_toArray, List.set_cons_zero, List.set_cons_succ]
            refine wpAnyH_skip (i := 4) (d := 53) (by kernel_rfl) (by kernel_rfl) (by kernel_rfl) (by kernel_rfl) (fun _ _ _ h => h) (by assumption) ?_
            simp only [Act.put, List.setIfInBounds_toArray, List.set_cons_zero, List.set_cons_succ]
            refine wpAnyH_skip (i := 5) (d := 54) (by kernel_rfl) (by kernel_rfl) (by kernel_rfl) (by kernel_rfl) (fun _ _ _ h => h) (by assumption) ?_
            simp only [Act.put, List.setIfInBounds_toArray, List.set_cons_zero, List.set_cons_succ]
            refine wpAnyH_skip (i := 6) (d := 55) (by kernel_rfl) (by kernel_rfl) (by kernel_rfl) (by kernel_rfl) (fun _ _ _ h => h) (by assumption) ?_
            simp only [Act.put, List.setIfInBounds_toArray, List.set_cons_zero, List.set_cons_succ]
            refine wpAnyH_skip (i := 7) (d := 56) (by kernel_rfl) (by kernel_rfl) (by kernel_rfl) (by kernel_rfl) (fun _ _ _ h => h) (by assumption) ?_
            simp only [Act.put, List.setIfInBounds_toArray, List.set_cons_zero, List.set_cons_succ]
            refine wpAnyH_skip (i := 8) (d := 57) (by kernel_rfl) (by kernel_rfl) (by kernel_rfl) (by kernel_rfl) (fun _ _ _ h => h) (by assumption) ?_
            simp only [Act.put, List.setIfInBounds_toArray, List.set_cons_zero, List.set_cons_succ]
            refine wpAnyH_skip (i := 9) (d := 58) (by kernel_rfl) (by kernel_rfl) (by kernel_rfl) (by kernel_rfl) (fun _ _ _ h => h) (by assumption) ?_
            simp only [Act.put, List.setIfInBounds_toArray, List.set_cons_zero, List.set_cons_succ]
            refine wpAnyH_skip (i := 10) (d := 59) (by kernel_rfl) (by kernel_rfl) (by kernel_rfl) (by kernel_rfl) (fun _ _ _ h => h) (by assumption) ?_
            simp only [Act.put, List.setIfInBounds_toArray, List.set_cons_zero, List.set_cons_succ]
            refine wpAnyH_skip (i := 11) (d := 60) (by kernel_rfl) (by kernel_rfl) (by kernel_rfl) (by kernel_rfl) (fun _ _ _ h => h) (by assumption) ?_
            simp only [Act.put, List.setIfInBounds_toArray, List.set_cons_zero, List.set_cons_succ]
            refine wpAnyH_skip (i := 12) (d := 61) (by kernel_rfl) (by kernel_rfl) (by kernel_rfl) (by kernel_rfl) (fun _ _ _ h => h) (by assumption) ?_
            simp only [Act.put, List.setIfInBounds_toArray, List.set_cons_zero, List.set_cons_succ]
            refine wpAnyH_skip (i := 13) (d := 62) (by kernel_rfl) (by kernel_rfl) (by kernel_rfl) (by kernel_rfl) (fun _ _ _ h => h) (by assumption) ?_
            simp only [Act.put, List.setIfInBounds_toArray, List.set_cons_zero, List.set_cons_succ]
            refine wpAnyH_skip (i := 14) (d := 63) (by kernel_rfl) (by kernel_rfl) (by kernel_rfl) (by kernel_rfl) (fun _ _ _ h => h) (by assumption) ?_
            simp only [Act.put, List.setIfInBounds_toArray, List.set_cons_zero, List.set_cons_succ]
            refine wpAnyH_skip (i := 15) (d := 64) (by kernel_rfl) (by kernel_rfl) (by kernel_rfl) (by kernel_rfl) (fun _ _ _ h => h) (by assumption) ?_
            simp only [Act.put, List.setIfInBounds_toArray, List.set_cons_zero, List.set_cons_succ]
            refine wpAnyH_skip (i := 16) (d := 65) (by kernel_rfl) (by kernel_rfl) (by kernel_rfl) (by kernel_rfl) (fun _ _ _ h => h) (by assumption) ?_
            simp only [Act.put, List.setIfInBounds_toArray, List.set_cons_zero, List.set_cons_succ]
            refine wpAnyH_skip (i := 17) (d := 66) (by kernel_rfl) (by kernel_rfl) (by kernel_rfl) (by kernel_rfl) (fun _ _ _ h => h) (by assumption) ?_
            simp only [Act.put, List.setIfInBounds_toArray, List.set_cons_zero, List.set_cons_succ]
            refine wpAnyH_skip (i := 18) (d := 67) (by kernel_rfl) (by kernel_rfl) (by kernel_rfl) (by kernel_rfl) (fun _ _ _ h => h) (by assumption) ?_
            simp only [Act.put, List.setIfInBounds_toArray, List.set_cons_zero, List.set_cons_succ]
            refine wpAnyH_skip (i := 19) (d := 68) (by kernel_rfl) (by kernel_rfl) (by kernel_rfl) (by kernel_rfl) (fun _ _ _ h => h) (by assumption) ?_
            simp only [Act.put, List.setIfInBounds_toArray, List.set_cons_zero, List.set_cons_succ]
            refine wpAnyH_skip (i := 20) (d := 69) (by kernel_rfl) (by kernel_rfl) (by kernel_rfl) (by kernel_rfl) (fun _ _ _ h => h) (by assumption) ?_
            simp only [Act.put, List.setIfInBounds_toArray, List.set_cons_zero, List.set_cons_succ]
            refine wpAnyH_skip (i := 21) (d := 70) (by kernel_rfl) (by kernel_rfl) (by kernel_rfl) (by kernel_rfl) (fun _ _ _ h => h) (by assumption) ?_
            simp only [Act.put, List.setIfInBounds_toArray, List.set_cons_zero, List.set_cons_succ]
            refine wpAnyH_take (i := 22) (oi := { dst := some 71, op := Go.Op.pick (Go.Operand.tmp 51) (Go.Operand.tmp 70) (Go.Operand.const (Go.Value.bool false)), type := 4, pos := "ref.go:96", after := #[{ on := 2, ground := Go.Ground.data }, { on := 21, ground := Go.Ground.data }], guard := none }) (v := ?_) rfl (by kernel_rfl) (by kernel_rfl) (by kernel_rfl) (fun _ _ _ h => h) (Or.inl ⟨by rfl, ?_⟩) (by assumption) ?_
            rotate_left
            · (intro w hSw; (try dsimp only at hSw); go_simp) <;> with_reducible rfl
            simp only [Act.put, List.setIfInBounds_toArray, List.set_cons_zero, List.set_cons_succ]
            refine wpAnyH_done (by kernel_rfl) ?_ _
            refine NoPanic.normal ?_
            have HB5 := Lib.hid (below_trans HB4.out HDR.out)
            have HFB5 := Lib.hid (HFB.out.below HDR.out)
            have HE : Hid (callF 3 ⟨rm, fs, lf, false⟩ n m = (zeroD, 60)) := Lib.hid (call_none HRG.out Hp.out.symm (fun _ => Hpm.out.symm) rfl (by decide) hfn)
            have HRr := Lib.hid (HRR.out.below HB5.out)
            have HRz := Lib.hid (HRZ.out.below HB5.out)
            have k0 := HRr.out.cell (i := 0) rfl
            have k1 := HRr.out.cell (i := 1) rfl
            have k2 := HRr.out.cell (i := 2) rfl
            have k3 := HRr.out.cell (i := 3) rfl
            have tk0 := HRr.out.thaw 0
            have tk1 := HRr.out.thaw 1
            have tk2 := HRr.out.thaw 2
            have tk3 := HRr.out.thaw 3
            have z0 := HRz.out.cell (i := 0) rfl
            have z1 := HRz.out.cell (i := 1) rfl
            have z2 := HRz.out.cell (i := 2) rfl
            have z3 := HRz.out.cell (i := 3) rfl
            have R9 := put4_row HRr.out (.int .i64 0) (.slice none 0 0) (.int .i64 0) (.bool false)
            have f0 := R9.cell (i := 0) rfl
            have f1 := R9.cell (i := 1) rfl
            have f2 := R9.cell (i := 2) rfl
            have f3 := R9.cell (i := 3) rfl
            have HFIN : Hid (DkP (callF 3 ⟨rm, fs, lf, false⟩ n m) w (.returned (.tuple #[.agg #[.int .i64 0, .slice none 0 0, .int .i64 0, .bool false], .int .i64 60])) (put4 w6 (w.heap.size + 1) (.int .i64 0) (.slice none 0 0) (.int .i64 0) (.bool false))) := Lib.hid (DkP.zero HE.out ((below_trans HB1.out HB5.out).trans ((put4_but w6 (w.heap.size + 1) (.int .i64 0) (.slice none 0 0) (.int .i64 0) (.bool false)).below (by omega))) rfl)
            clear R9
            go_wp2
            exact bodyPost_ret (v := .tuple #[.agg #[.int .i64 0, .slice none 0 0, .int .i64 0, .bool false], .int .i64 60]) (by simp [results, Try.results10, go_sem, f0, f1, f2, f3]) rfl HFIN.out
          · rw [hat]
            clear hat
            obtain ⟨b, off, rfl, -, x0, x1, x2⟩ := (HXO.out w3 (below_trans HB1.out HB3.out)).get hx
            have HFIT := Lib.hid (HRG.out.fits x (mem_at hx))
            have HFXX := Lib.hid hfx
            obtain ⟨xn, xs, xt⟩ := x
            simp only at x0 x1 x2 hxn
            subst hxn
            have hkL : (k : Int) < (L : Int) := by have := (List.getElem?_eq_some_iff.1 hx).1; have := HL.out; omega
            have HRDa := Lib.hid ((HRD.out.below HB3.out).alloc (.cells #[.string xn, .string ⟨#[]⟩, .string ⟨#[]⟩] 44))
            have da1 := HRDa.out.cell (i := 1) rfl
            have hbl : b < w3.heap.size := by obtain ⟨b9, o9, h9, hb9, -⟩ := (HXO.out w3 (below_trans HB1.out HB3.out)).get hx; injection h9 with h9; injection h9 with e1 e2; subst e1; exact hb9
            have hbne : ¬ (b = w3.heap.size) := by omega
            have y0 := ((below1 w3 (.cells #[.string xn, .string ⟨#[]⟩, .string ⟨#[]⟩] 44)).cell (p := ⟨b, off + k * 3, none⟩) hbl).trans x0
            have y1 := ((below1 w3 (.cells #[.string xn, .string ⟨#[]⟩, .string ⟨#[]⟩] 44)).cell (p := ⟨b, off + k * 3 + 1, none⟩) hbl).trans x1
            have y2 := ((below1 w3 (.cells #[.string xn, .string ⟨#[]⟩, .string ⟨#[]⟩] 44)).cell (p := ⟨b, off + k * 3 + 2, none⟩) hbl).trans x2
            clear hx hfx
            by_cases hdir : xt.size = 0
            · have hemp : xt.toList.isEmpty = true := emp_of hdir
              have HB4 := Lib.hid (below_trans HB3.out (below1 w3 (.cells #[.string xn, .string xs, .string xt] 44)))
              have HFB : Hid (Row (w3.alloc (.cells #[.string xn, .string xs, .string xt] 44)) w3.heap.size 44 [.string xn, .string xs, .string xt]) := Lib.hid (row_new w3 #[.string xn, .string xs, .string xt] _)
              go_wp2
              generalize hW4 : w3.alloc (.cells #[.string xn, .string xs, .string xt] 44) = w4 at *
              clear hW4
              have HRD4 := Lib.hid (HRD.out.below HB4.out)
              have HSD : Hid (∀ W, Below w4.heap.size w4 W → W.cell? ⟨w.heap.size, 0, none⟩ = some (.int .i64 rm) ∧ W.cell? ⟨w.heap.size, 1, none⟩ = some (.slice (some ⟨b, off, none⟩) L cap)) := Lib.hid (fun W hb => ⟨(HRD4.out.below hb).cell (i := 0) rfl, (HRD4.out.below hb).cell (i := 1) rfl⟩)
              have HDR := Lib.hid (Below.refl w4.heap.size w4).drew
              have hs0 := HSD.out _ HDR.out
              refine wp_region_noPanic ?_
              refine wp_region_held_drew (S := fun W => W.cell? ⟨w.heap.size, 0, none⟩ = some (.int .i64 rm) ∧ W.cell? ⟨w.heap.size, 1, none⟩ = some (.slice (some ⟨b, off, none⟩) L cap)) (by kernel_rfl) hs0 (fun hHeld => ?_)
              clear hs0
              generalize hW6 : w4.drew = w6 at *
              clear hW6
              refine wpAnyH_take (i := 0) (oi := { dst := some 49, op := Go.Op.move (Go.Operand.tmp 1), type := 3, pos := "ref.go:96", after := #[], guard := none }) (v := ?_) rfl (by kernel_rfl) (by kernel_rfl) (by kernel_rfl) (fun _ _ _ h => h) (Or.inl ⟨by rfl, ?_⟩) (by assumption) ?_
              rotate_left
              · (intro w hSw; (try dsimp only at hSw); go_simp) <;> with_reducible rfl
              simp only [Act.put, List.setIfInBounds_toArray, List.set_cons_zero, List.set_cons_succ]
              refine wpAnyH_take (i := 1) (oi := { dst := some 50, op := Go.Op.binOp Go.BinOp.eql 3 (Go.Operand.tmp 49) (Go.Operand.const (Go.Value.int Go.IntKind.i64 1)) 3, type := 4, pos := "ref.go:96", after := #[{ on := 0, ground := Go.Ground.data }], guard := none }) (v := ?_) rfl (by kernel_rfl) (by kernel_rfl) (by kernel_rfl) (fun _ _ _ h => h) (Or.inl ⟨by rfl, ?_⟩) (by assumption) ?_
              rotate_left
              · (intro w hSw; (try dsimp only at hSw); go_simp) <;> with_reducible rfl
              simp only [Act.put, List.setIfInBounds_toArray, List.set_cons_zero, List.set_cons_succ]
              refine wpAnyH_take (i := 2) (oi := { dst := some 51, op := Go.Op.move (Go.Operand.tmp 50), type := 4, pos := "ref.go:96", after := #[{ on := 1, ground := Go.Ground.data }], guard := none }) (v := ?_) rfl (by kernel_rfl) (by kernel_rfl) (by kernel_rfl) (fun _ _ _ h => h) (Or.inl ⟨by rfl, ?_⟩) (by assumption) ?_
              rotate_left
              · (intro w hSw; (try dsimp only at hSw); go_simp) <;> with_reducible rfl
              simp only [Act.put, List.setIfInBounds_toArray, List.set_cons_zero, List.set_cons_succ]
              refine wpAnyH_skip (i := 3) (d := 52) (by kernel_rfl) (by kernel_rfl) (by kernel_rfl) (by kernel_rfl) (fun _ _ _ h => h) (by assumption) ?_
              simp only [Act.put, List.setIfInBounds_toArray, List.set_cons_zero, List.set_cons_succ]
              refine wpAnyH_skip (i := 4) (d := 53) (by kernel_rfl) (by kernel_rfl) (by kernel_rfl) (by kernel_rfl) (fun _ _ _ h => h) (by assumption) ?_
              simp only [Act.put, List.setIfInBounds_toArray, List.set_cons_zero, List.set_cons_succ]
              refine wpAnyH_skip (i := 5) (d := 54) (by kernel_rfl) (by kernel_rfl) (by kernel_rfl) (by kernel_rfl) (fun _ _ _ h => h) (by assumption) ?_
              simp only [Act.put, List.setIfInBounds_toArray, List.set_cons_zero, List.set_cons_succ]
              refine wpAnyH_skip (i := 6) (d := 55) (by kernel_rfl) (by kernel_rfl) (by kernel_rfl) (by kernel_rfl) (fun _ _ _ h => h) (by assumption) ?_
              simp only [Act.put, List.setIfInBounds_toArray, List.set_cons_zero, List.set_cons_succ]
              refine wpAnyH_skip (i := 7) (d := 56) (by kernel_rfl) (by kernel_rfl) (by kernel_rfl) (by kernel_rfl) (fun _ _ _ h => h) (by assumption) ?_
              simp only [Act.put, List.setIfInBounds_toArray, List.set_cons_zero, List.set_cons_succ]
              refine wpAnyH_skip (i := 8) (d := 57) (by kernel_rfl) (by kernel_rfl) (by kernel_rfl) (by kernel_rfl) (fun _ _ _ h => h) (by assumption) ?_
              simp only [Act.put, List.setIfInBounds_toArray, List.set_cons_zero, List.set_cons_succ]
              refine wpAnyH_skip (i := 9) (d := 58) (by kernel_rfl) (by kernel_rfl) (by kernel_rfl) (by kernel_rfl) (fun _ _ _ h => h) (by assumption) ?_
              simp only [Act.put, List.setIfInBounds_toArray, List.set_cons_zero, List.set_cons_succ]
              refine wpAnyH_skip (i := 10) (d := 59) (by kernel_rfl) (by kernel_rfl) (by kernel_rfl) (by kernel_rfl) (fun _ _ _ h => h) (by assumption) ?_
              simp only [Act.put, List.setIfInBounds_toArray, List.set_cons_zero, List.set_cons_succ]
              refine wpAnyH_skip (i := 11) (d := 60) (by kernel_rfl) (by kernel_rfl) (by kernel_rfl) (by kernel_rfl) (fun _ _ _ h => h) (by assumption) ?_
              simp only [Act.put, List.setIfInBounds_toArray, List.set_cons_zero, List.set_cons_succ]
              refine wpAnyH_skip (i := 12) (d := 61) (by kernel_rfl) (by kernel_rfl) (by kernel_rfl) (by kernel_rfl) (fun _ _ _ h => h) (by assumption) ?_
              simp only [Act.put, List.setIfInBounds_toArray, List.set_cons_zero, List.set_cons_succ]
              refine wpAnyH_skip (i := 13) (d := 62) (by kernel_rfl) (by kernel_rfl) (by kernel_rfl) (by kernel_rfl) (fun _ _ _ h => h) (by assumption) ?_
              simp only [Act.put, List.setIfInBounds_toArray, List.set_cons_zero, List.set_cons_succ]
              refine wpAnyH_skip (i := 14) (d := 63) (by kernel_rfl) (by kernel_rfl) (by kernel_rfl) (by kernel_rfl) (fun _ _ _ h => h) (by assumption) ?_
              simp only [Act.put, List.setIfInBounds_toArray, List.set_cons_zero, List.set_cons_succ]
              refine wpAnyH_skip (i := 15) (d := 64) (by kernel_rfl) (by kernel_rfl) (by kernel_rfl) (by kernel_rfl) (fun _ _ _ h => h) (by assumption) ?_
              simp only [Act.put, List.setIfInBounds_toArray, List.set_cons_zero, List.set_cons_succ]
              refine wpAnyH_skip (i := 16) (d := 65) (by kernel_rfl) (by kernel_rfl) (by kernel_rfl) (by kernel_rfl) (fun _ _ _ h => h) (by assumption) ?_
              simp only [Act.put, List.setIfInBounds_toArray, List.set_cons_zero, List.set_cons_succ]
              refine wpAnyH_skip (i := 17) (d := 66) (by kernel_rfl) (by kernel_rfl) (by kernel_rfl) (by kernel_rfl) (fun _ _ _ h => h) (by assumption) ?_
              simp only [Act.put, List.setIfInBounds_toArray, List.set_cons_zero, List.set_cons_succ]
              refine wpAnyH_skip (i := 18) (d := 67) (by kernel_rfl) (by kernel_rfl) (by kernel_rfl) (by kernel_rfl) (fun _ _ _ h => h) (by assumption) ?_
              simp only [Act.put, List.setIfInBounds_toArray, List.set_cons_zero, List.set_cons_succ]
              refine wpAnyH_skip (i := 19) (d := 68) (by kernel_rfl) (by kernel_rfl) (by kernel_rfl) (by kernel_rfl) (fun _ _ _ h => h) (by assumption) ?_
              simp only [Act.put, List.setIfInBounds_toArray, List.set_cons_zero, List.set_cons_succ]
              refine wpAnyH_skip (i := 20) (d := 69) (by kernel_rfl) (by kernel_rfl) (by kernel_rfl) (by kernel_rfl) (fun _ _ _ h => h) (by assumption) ?_
              simp only [Act.put, List.setIfInBounds_toArray, List.set_cons_zero, List.set_cons_succ]
              refine wpAnyH_skip (i := 21) (d := 70) (by kernel_rfl) (by kernel_rfl) (by kernel_rfl) (by kernel_rfl) (fun _ _ _ h => h) (by assumption) ?_
              simp only [Act.put, List.setIfInBounds_toArray, List.set_cons_zero, List.set_cons_succ]
              refine wpAnyH_take (i := 22) (oi := { dst := some 71, op := Go.Op.pick (Go.Operand.tmp 51) (Go.Operand.tmp 70) (Go.Operand.const (Go.Value.bool false)), type := 4, pos := "ref.go:96", after := #[{ on := 2, ground := Go.Ground.data }, { on := 21, ground := Go.Ground.data }], guard := none }) (v := ?_) rfl (by kernel_rfl) (by kernel_rfl) (by kernel_rfl) (fun _ _ _ h => h) (Or.inl ⟨by rfl, ?_⟩) (by assumption) ?_
              rotate_left
              · (intro w hSw; (try dsimp only at hSw); go_simp) <;> with_reducible rfl
              simp only [Act.put, List.setIfInBounds_toArray, List.set_cons_zero, List.set_cons_succ]
              refine wpAnyH_done (by kernel_rfl) ?_ _
              refine NoPanic.normal ?_
              have HB5 := Lib.hid (below_trans HB4.out HDR.out)
              have HFB5 := Lib.hid (HFB.out.below HDR.out)
              generalize hW5 : w6 = w5 at *
              clear hW5
              rcases Int.lt_trichotomy lf 0 with hlf | hlf | hlf
              · have u9 : (lf == 0) = false := by rw [beq_eq_false_iff_ne]; omega
                have u8 : decide (0 < lf) = false := decide_eq_false (by omega)
                have q7 : lf ≤ 0 := by omega
                have HRS : Hid (callF 3 ⟨rm, fs, lf, false⟩ xn m = (⟨rm, withF (outF fs xn) ⟨m, xs, xt⟩, lf, false⟩, 0)) := Lib.hid (by rw [call3_ok HRG.out Hp.out.symm Hpm.out.symm rfl HFXX.out hdir, exe_stay (by simp only; omega)])
                have HOB := Lib.hid (below1 w5 (.cells #[.int .i64 rm, .slice (some ⟨b, off, none⟩) L cap, .int .i64 lf, .bool false] 24))
                have HRD5 := Lib.hid (HRD.out.below HB5.out)
                have r0 := HRD5.out.cell (i := 0) rfl
                have r1 := HRD5.out.cell (i := 1) rfl
                have r2 := HRD5.out.cell (i := 2) rfl
                have r3 := HRD5.out.cell (i := 3) rfl
                have HRDo := Lib.hid (HRD5.out.alloc (.cells #[.int .i64 rm, .slice (some ⟨b, off, none⟩) L cap, .int .i64 lf, .bool false] 24))
                have v2 := HRDo.out.cell (i := 2) rfl
                have HRDp := Lib.hid (HRD5.out.alloc (.cells #[.int .i64 rm, .slice (some ⟨b, off, none⟩) L cap, .int .i64 lf, .bool false] 24))
                have v1 := HRDp.out.cell (i := 1) rfl
                have HFBo := Lib.hid (HFB5.out.alloc (.cells #[.int .i64 rm, .slice (some ⟨b, off, none⟩) L cap, .int .i64 lf, .bool false] 24))
                have g0 := HFBo.out.cell (i := 0) rfl
                have g1 := HFBo.out.cell (i := 1) rfl
                have g2 := HFBo.out.cell (i := 2) rfl
                have tg0 := HFBo.out.thaw 0
                have tg1 := HFBo.out.thaw 1
                have tg2 := HFBo.out.thaw 2
                have e2 := HFB5.out.cell (i := 2) rfl
                have HLN : Hid (fs.length ≤ 900) := Lib.hid (by have := HRG.out.fs.len; simp only at this; omega)
                have HBF := Lib.hid ((But.refl w3.heap.size (w5.alloc (.cells #[.int .i64 rm, .slice (some ⟨b, off, none⟩) L cap, .int .i64 lf, .bool false] 24))).set 0 (.string m))
                have HFX : Hid (RowF ((w5.alloc (.cells #[.int .i64 rm, .slice (some ⟨b, off, none⟩) L cap, .int .i64 lf, .bool false] 24)).setCell ⟨w3.heap.size, 0, none⟩ (.string m)) w3.heap.size ⟨m, xs, xt⟩) := Lib.hid ((HFB5.out.alloc (.cells #[.int .i64 rm, .slice (some ⟨b, off, none⟩) L cap, .int .i64 lf, .bool false] 24)).set 0 (.string m))
                have HBX : Hid (Below W1.heap.size W1 ((w5.alloc (.cells #[.int .i64 rm, .slice (some ⟨b, off, none⟩) L cap, .int .i64 lf, .bool false] 24)).setCell ⟨w3.heap.size, 0, none⟩ (.string m))) := Lib.hid ((below_trans HB5.out (below1 w5 (.cells #[.int .i64 rm, .slice (some ⟨b, off, none⟩) L cap, .int .i64 lf, .bool false] 24))).trans (HBF.out.below (by have := HB3.out.size; omega)))
                have hfo : w5.heap.size ≠ w3.heap.size := by have := HFB5.out.lt; omega
                have HRO : Hid (Row ((w5.alloc (.cells #[.int .i64 rm, .slice (some ⟨b, off, none⟩) L cap, .int .i64 lf, .bool false] 24)).setCell ⟨w3.heap.size, 0, none⟩ (.string m)) w5.heap.size 24 [.int .i64 rm, .slice (some ⟨b, off, none⟩) L cap, .int .i64 lf, .bool false]) := Lib.hid ((row_new w5 #[.int .i64 rm, .slice (some ⟨b, off, none⟩) L cap, .int .i64 lf, .bool false] 24).keep (HBF.out.block _ hfo))
                have HRDx := Lib.hid (HRD.out.below HBX.out)
                have dx1 := HRDx.out.cell (i := 1) rfl
                have x0 := HFX.out.cell (i := 0) rfl
                have x1 := HFX.out.cell (i := 1) rfl
                have x2 := HFX.out.cell (i := 2) rfl
                have HRO5 : Hid (w5.heap.size < ((w5.alloc (.cells #[.int .i64 rm, .slice (some ⟨b, off, none⟩) L cap, .int .i64 lf, .bool false] 24)).setCell ⟨w3.heap.size, 0, none⟩ (.string m)).heap.size) := Lib.hid HRO.out.lt
                have HWI := Lib.hid (fun W hb => rwithout_any W _ cap fs xn (by rw [← HL.out]; exact HXO.out W hb) (by have := HLN.out; omega))
                rw [← HL.out] at HWI
                go_wp2
                generalize hWY : ((w5.alloc (.cells #[.int .i64 rm, .slice (some ⟨b, off, none⟩) L cap, .int .i64 lf, .bool false] 24)).setCell ⟨w3.heap.size, 0, none⟩ (.string m)) = wy at *
                clear hWY x0 x1 x2 dx1
                have HDY := Lib.hid (Below.refl wy.heap.size wy).drew
                have HSY : Hid (∀ W, Below wy.heap.size wy W → W.cell? ⟨w.heap.size, 1, none⟩ = some (.slice (some ⟨b, off, none⟩) L cap) ∧ W.cell? ⟨w3.heap.size, 0, none⟩ = some (.string m) ∧ W.cell? ⟨w3.heap.size, 1, none⟩ = some (.string xs) ∧ W.cell? ⟨w3.heap.size, 2, none⟩ = some (.string xt)) := Lib.hid (fun W hb => ⟨(HRDx.out.below hb).cell (i := 1) rfl, (HFX.out.below hb).cell (i := 0) rfl, (HFX.out.below hb).cell (i := 1) rfl, (HFX.out.below hb).cell (i := 2) rfl⟩)
                have hs0 := HSY.out _ HDY.out
                refine wp_region_noPanic ?_
                refine wp_region_held_drew (S := fun W => W.cell? ⟨w.heap.size, 1, none⟩ = some (.slice (some ⟨b, off, none⟩) L cap) ∧ W.cell? ⟨w3.heap.size, 0, none⟩ = some (.string m) ∧ W.cell? ⟨w3.heap.size, 1, none⟩ = some (.string xs) ∧ W.cell? ⟨w3.heap.size, 2, none⟩ = some (.string xt)) (by kernel_rfl) hs0 (fun hHeld => ?_)
                clear hs0
                generalize hWZ : wy.drew = wz at *
                clear hWZ
                refine wpAnyH_take (i := 0) (oi := { dst := some 145, op := Go.Op.fieldAddr 24 (Go.Operand.tmp 4) 1, type := 0, pos := "ref.go:122", after := #[], guard := none }) (v := ?_) rfl (by kernel_rfl) (by kernel_rfl) (by kernel_rfl) (fun _ _ _ h => h) (Or.inl ⟨by rfl, ?_⟩) (by assumption) ?_
                rotate_left
                · (intro w hSw; (try dsimp only at hSw); go_simp) <;> with_reducible rfl
                simp only [Act.put, List.setIfInBounds_toArray, List.set_cons_zero, List.set_cons_succ]
                refine wpAnyH_take (i := 1) (oi := { dst := some 146, op := Go.Op.load 22 (Go.Operand.tmp 145), type := 22, pos := "ref.go:122", after := #[{ on := 0, ground := Go.Ground.data }], guard := none }) (v := ?_) rfl (by kernel_rfl) (by kernel_rfl) (by kernel_rfl) (fun _ _ _ h => h) (Or.inl ⟨by rfl, ?_⟩) (by assumption) ?_
                rotate_left
                · (intro w hSw; (try dsimp only at hSw); go_simp) <;> with_reducible rfl
                simp only [Act.put, List.setIfInBounds_toArray, List.set_cons_zero, List.set_cons_succ]
                refine wpAnyH_take (i := 2) (oi := { dst := some 147, op := Go.Op.move (Go.Operand.tmp 2), type := 9, pos := "ref.go:122", after := #[], guard := none }) (v := ?_) rfl (by kernel_rfl) (by kernel_rfl) (by kernel_rfl) (fun _ _ _ h => h) (Or.inl ⟨by rfl, ?_⟩) (by assumption) ?_
                rotate_left
                · (intro w hSw; (try dsimp only at hSw); go_simp) <;> with_reducible rfl
                simp only [Act.put, List.setIfInBounds_toArray, List.set_cons_zero, List.set_cons_succ]
                refine wpAnyH_take (i := 4) (oi := { dst := some 149, op := Go.Op.load 44 (Go.Operand.tmp 12), type := 44, pos := "ref.go:122", after := #[], guard := none }) (v := ?_) rfl (by kernel_rfl) (by kernel_rfl) (by kernel_rfl) (fun _ _ _ h => h) (Or.inl ⟨by rfl, ?_⟩) (by assumption) ?_
                rotate_left
                · (intro w hSw; (try dsimp only at hSw); go_simp) <;> with_reducible rfl
                simp only [Act.put, List.setIfInBounds_toArray, List.set_cons_zero, List.set_cons_succ]
                refine wpAnyH_ready (rs := [3]) (by kernel_rfl) (by simp) ?_
                refine AllReadyH.cons (o := { dst := some 148, op := Go.Op.call { callee := Go.Callee.value (Go.Operand.func 27), args := #[Go.Operand.tmp 146, Go.Operand.tmp 147], argTypes := #[22, 9] }, type := 22, pos := "ref.go:122", after := #[{ on := 1, ground := Go.Ground.data }, { on := 2, ground := Go.Ground.data }], guard := none }) rfl (fun K hK => ?_) AllReadyH.nil
                go_simp
                refine (HWI.out wz (below_trans HB1.out (below_trans HBX.out HDY.out))).mono ?_
                rintro e w6 hp
                obtain ⟨a6, c6, rfl, hs, hb⟩ := hp.fs
                have HY6 := Lib.hid (below_trans HDY.out hb)
                have HW2 := Lib.hid (rwith_any w6 a6 c6 (outF fs xn) ⟨m, xs, xt⟩ hs (by have h1 := HLN.out; have h2 := len_out fs xn; omega))
                clear hs hp hb
                go_wp2_with fail
                refine hK.out _ _ ?_ (fun hz2 => ?_)
                · exact HSY.out _ HY6.out
                clear hK K hHeld 
                try simp only [Act.put, List.setIfInBounds_toArray, List.set_cons_zero, List.set_cons_succ]
                refine wpAnyH_ready (rs := [5]) (by kernel_rfl) (by simp) ?_
                refine AllReadyH.cons (o := { dst := some 150, op := Go.Op.call { callee := Go.Callee.value (Go.Operand.func 26), args := #[Go.Operand.tmp 148, Go.Operand.tmp 149], argTypes := #[22, 44] }, type := 22, pos := "ref.go:122", after := #[{ on := 3, ground := Go.Ground.data }, { on := 4, ground := Go.Ground.data }, { on := 3, ground := Go.Ground.chain }], guard := none }) rfl (fun K hK => ?_) AllReadyH.nil
                go_simp
                refine HW2.out.mono ?_
                rintro e w7 hp
                obtain ⟨a7, c7, rfl, hs, hb⟩ := hp.fs
                have HS7 := Lib.hid hs
                have HY7 := Lib.hid (below_trans HY6.out hb)
                have HB7 := Lib.hid (below_trans HBX.out HY7.out)
                have HRO7 := Lib.hid (HRO.out.below HY7.out)
                have hb := HY7.out
                go_wp2_with fail
                refine hK.out _ _ ?_ (fun hz3 => ?_)
                · exact HSY.out _ HY7.out
                clear hK K hz2 
                try simp only [Act.put, List.setIfInBounds_toArray, List.set_cons_zero, List.set_cons_succ]
                obtain ⟨L7, HL7⟩ : ∃ L, Hid (L = (withF (outF fs xn) ⟨m, xs, xt⟩).length) := ⟨_, Lib.hid rfl⟩
                rw [← HL7.out] at HS7 ⊢
                have HRR7 := Lib.hid (HRR.out.below HB7.out)
                have HBO := Lib.hid ((But.refl w5.heap.size w7).set 1 (.slice a7 L7 c7))
                have HO8 := Lib.hid (HRO7.out.set 1 (.slice a7 L7 c7))
                have HS8 := Lib.hid (slf_one HS7.out HRO7.out HBO.out)
                have hne : w.heap.size + 1 ≠ w5.heap.size := by have h1 := HSZ.out; have h2 := HB5.out.size; omega
                have HRR8 := Lib.hid (HRR7.out.keep (HBO.out.block (w.heap.size + 1) hne))
                have HB8 : Hid (Below W1.heap.size W1 (w7.setCell ⟨w5.heap.size, 1, none⟩ (.slice a7 L7 c7))) := Lib.hid (HB7.out.trans (HBO.out.below (by have := HB5.out.size; omega)))
                have o0 := HRO7.out.cell (i := 0) rfl
                have o1 := HRO7.out.cell (i := 1) rfl
                have o2 := HRO7.out.cell (i := 2) rfl
                have o3 := HRO7.out.cell (i := 3) rfl
                have to0 := HRO7.out.thaw 0
                have to1 := HRO7.out.thaw 1
                have to2 := HRO7.out.thaw 2
                have to3 := HRO7.out.thaw 3
                have k0 := HRR7.out.cell (i := 0) rfl
                have k1 := HRR7.out.cell (i := 1) rfl
                have k2 := HRR7.out.cell (i := 2) rfl
                have k3 := HRR7.out.cell (i := 3) rfl
                have tk0 := HRR7.out.thaw 0
                have tk1 := HRR7.out.thaw 1
                have tk2 := HRR7.out.thaw 2
                have tk3 := HRR7.out.thaw 3
                have R9 := put4_row HRR8.out (.int .i64 rm) (.slice a7 L7 c7) (.int .i64 lf) (.bool false)
                have f0 := R9.cell (i := 0) rfl
                have f1 := R9.cell (i := 1) rfl
                have f2 := R9.cell (i := 2) rfl
                have f3 := R9.cell (i := 3) rfl
                have HFIN : Hid (DkP (callF 3 ⟨rm, fs, lf, false⟩ xn m) w (.returned (.tuple #[.agg #[.int .i64 rm, (.slice a7 L7 c7), .int .i64 lf, .bool false], .int .i64 0])) (put4 (w7.setCell ⟨w5.heap.size, 1, none⟩ (.slice a7 L7 c7)) (w.heap.size + 1) (.int .i64 rm) (.slice a7 L7 c7) (.int .i64 lf) (.bool false))) := Lib.hid (by
                  rw [HRS.out]
                  exact DkP.put (a := a7) (cap := c7) (w7 := (w7.setCell ⟨w5.heap.size, 1, none⟩ (.slice a7 L7 c7))) (R := w.heap.size + 1) (by simp only; rw [← HL7.out]; exact HS8.out) (below_trans HB1.out HB8.out) (by omega) HRR8.out (by simp only; rw [← HL7.out]) (by simp only; rw [← HL7.out]; rfl))
                clear R9
                refine wpAnyH_take (i := 6) (oi := { dst := some 151, op := Go.Op.fieldAddr 24 (Go.Operand.tmp 13) 1, type := 0, pos := "ref.go:122", after := #[{ on := 0, ground := Go.Ground.phase }, { on := 1, ground := Go.Ground.phase }, { on := 2, ground := Go.Ground.phase }, { on := 3, ground := Go.Ground.phase }, { on := 4, ground := Go.Ground.phase }, { on := 5, ground := Go.Ground.phase }], guard := none }) (v := ?_) rfl (by kernel_rfl) (by kernel_rfl) (by kernel_rfl) (fun _ _ _ h => h) (Or.inl ⟨by rfl, ?_⟩) (by assumption) ?_
                rotate_left
                · (intro w hSw; (try dsimp only at hSw); go_simp) <;> with_reducible rfl
                simp only [Act.put, List.setIfInBounds_toArray, List.set_cons_zero, List.set_cons_succ]
                have hlast : (fun W : World => W.cell? ⟨w.heap.size, 1, none⟩ = some (.slice (some ⟨b, off, none⟩) L cap) ∧ W.cell? ⟨w3.heap.size, 0, none⟩ = some (.string m) ∧ W.cell? ⟨w3.heap.size, 1, none⟩ = some (.string xs) ∧ W.cell? ⟨w3.heap.size, 2, none⟩ = some (.string xt)) (w7.setCell ⟨w5.heap.size, 1, none⟩ (.slice a7 L7 c7)) := ⟨(show Row (w7.setCell ⟨w5.heap.size, 1, none⟩ (.slice a7 L7 c7)) w.heap.size 24 [.int .i64 rm, .slice (some ⟨b, off, none⟩) L cap, .int .i64 lf, .bool false] from (HRD.out.below HB7.out).keep (HBO.out.block _ (by have h1 := HSZ.out; have h2 := HB5.out.size; omega))).cell (i := 1) rfl, ((HFX.out.below HY7.out).keep (HBO.out.block _ (by have := HFB5.out.lt; omega))).cell (i := 0) rfl, ((HFX.out.below HY7.out).keep (HBO.out.block _ (by have := HFB5.out.lt; omega))).cell (i := 1) rfl, ((HFX.out.below HY7.out).keep (HBO.out.block _ (by have := HFB5.out.lt; omega))).cell (i := 2) rfl⟩
                refine wpAnyH_ready (rs := [7]) (by kernel_rfl) (by simp) ?_
                refine AllReadyH.cons (o := { dst := none, op := Go.Op.store 22 (Go.Operand.tmp 151) (Go.Operand.tmp 150), type := 0, pos := "ref.go:122", after := #[{ on := 6, ground := Go.Ground.data }, { on := 5, ground := Go.Ground.data }, { on := 5, ground := Go.Ground.chain }, { on := 0, ground := Go.Ground.phase }, { on := 1, ground := Go.Ground.phase }, { on := 2, ground := Go.Ground.phase }, { on := 3, ground := Go.Ground.phase }, { on := 4, ground := Go.Ground.phase }, { on := 5, ground := Go.Ground.phase }], guard := none }) rfl (fun K hK => ?_) AllReadyH.nil
                go_simp
                refine hK.out _ _ ?_ (fun hz4 => ?_)
                · exact hlast
                clear hK K hz3 
                try simp only [Act.put, List.setIfInBounds_toArray, List.set_cons_zero, List.set_cons_succ]
                refine wpAnyH_done (by kernel_rfl) ?_ _
                refine NoPanic.normal ?_
                go_wp2
                exact bodyPost_ret (v := .tuple #[.agg #[.int .i64 rm, (.slice a7 L7 c7), .int .i64 lf, .bool false], .int .i64 0]) (by simp [results, Try.results10, go_sem, f0, f1, f2, f3]) rfl HFIN.out
              · have u9 : (lf == 0) = true := by rw [beq_iff_eq]; exact hlf
                have u8 : decide (0 < lf) = false := decide_eq_false (by omega)
                have HLF := Lib.hid hlf
                clear hlf
                have HRS : Hid (callF 3 ⟨rm, fs, lf, false⟩ xn m = (⟨rm, fs, 0, true⟩, 132)) := Lib.hid (by rw [call3_ok HRG.out Hp.out.symm Hpm.out.symm rfl HFXX.out hdir, exe_off HLF.out])
                have HOB := Lib.hid (below1 w5 (.cells #[.int .i64 rm, .slice (some ⟨b, off, none⟩) L cap, .int .i64 lf, .bool true] 24))
                have HRD5 := Lib.hid (HRD.out.below HB5.out)
                have r0 := HRD5.out.cell (i := 0) rfl
                have r1 := HRD5.out.cell (i := 1) rfl
                have r2 := HRD5.out.cell (i := 2) rfl
                have r3 := HRD5.out.cell (i := 3) rfl
                have HRDo := Lib.hid (HRD5.out.alloc (.cells #[.int .i64 rm, .slice (some ⟨b, off, none⟩) L cap, .int .i64 lf, .bool false] 24))
                have v2 := HRDo.out.cell (i := 2) rfl
                have HRDp := Lib.hid (HRD5.out.alloc (.cells #[.int .i64 rm, .slice (some ⟨b, off, none⟩) L cap, .int .i64 lf, .bool true] 24))
                have v1 := HRDp.out.cell (i := 1) rfl
                have HFBo := Lib.hid (HFB5.out.alloc (.cells #[.int .i64 rm, .slice (some ⟨b, off, none⟩) L cap, .int .i64 lf, .bool true] 24))
                have g0 := HFBo.out.cell (i := 0) rfl
                have g1 := HFBo.out.cell (i := 1) rfl
                have g2 := HFBo.out.cell (i := 2) rfl
                have tg0 := HFBo.out.thaw 0
                have tg1 := HFBo.out.thaw 1
                have tg2 := HFBo.out.thaw 2
                have e2 := HFB5.out.cell (i := 2) rfl
                have HRO : Hid (Row (w5.alloc (.cells #[.int .i64 rm, .slice (some ⟨b, off, none⟩) L cap, .int .i64 lf, .bool true] 24)) w5.heap.size 24 [.int .i64 rm, .slice (some ⟨b, off, none⟩) L cap, .int .i64 lf, .bool true]) := Lib.hid (row_new w5 #[.int .i64 rm, .slice (some ⟨b, off, none⟩) L cap, .int .i64 lf, .bool true] _)
                have HB7 := Lib.hid (below_trans HB5.out HOB.out)
                have HS7 := Lib.hid (HXO.out _ (below_trans HB1.out HB7.out))
                have HRR7 := Lib.hid (HRR.out.below HB7.out)
                have o0 := HRO.out.cell (i := 0) rfl
                have o1 := HRO.out.cell (i := 1) rfl
                have o2 := HRO.out.cell (i := 2) rfl
                have o3 := HRO.out.cell (i := 3) rfl
                have HS8 := HS7
                have HRR8 := HRR7
                have HB8 := HB7
                have k0 := HRR8.out.cell (i := 0) rfl
                have k1 := HRR8.out.cell (i := 1) rfl
                have k2 := HRR8.out.cell (i := 2) rfl
                have k3 := HRR8.out.cell (i := 3) rfl
                have tk0 := HRR8.out.thaw 0
                have tk1 := HRR8.out.thaw 1
                have tk2 := HRR8.out.thaw 2
                have tk3 := HRR8.out.thaw 3
                have R9 := put4_row HRR8.out (.int .i64 rm) (.slice (some ⟨b, off, none⟩) L cap) (.int .i64 lf) (.bool true)
                have f0 := R9.cell (i := 0) rfl
                have f1 := R9.cell (i := 1) rfl
                have f2 := R9.cell (i := 2) rfl
                have f3 := R9.cell (i := 3) rfl
                have HFIN : Hid (DkP (callF 3 ⟨rm, fs, lf, false⟩ xn m) w (.returned (.tuple #[.agg #[.int .i64 rm, (.slice (some ⟨b, off, none⟩) L cap), .int .i64 lf, .bool true], .int .i64 132])) (put4 (w5.alloc (.cells #[.int .i64 rm, .slice (some ⟨b, off, none⟩) L cap, .int .i64 lf, .bool true] 24)) (w.heap.size + 1) (.int .i64 rm) (.slice (some ⟨b, off, none⟩) L cap) (.int .i64 lf) (.bool true))) := Lib.hid (by
                  rw [HRS.out]
                  have hz : lf = 0 := HLF.out
                  exact DkP.put (a := some ⟨b, off, none⟩) (cap := cap) (w7 := (w5.alloc (.cells #[.int .i64 rm, .slice (some ⟨b, off, none⟩) L cap, .int .i64 lf, .bool true] 24))) (R := w.heap.size + 1) (by simp only; rw [← HL.out]; exact HS8.out) (below_trans HB1.out HB8.out) (by omega) HRR8.out (by simp only [hz]; rw [← HL.out]) (by simp only [hz]; rw [← HL.out]; rfl))
                clear R9
                go_wp2
                exact bodyPost_ret (v := .tuple #[.agg #[.int .i64 rm, (.slice (some ⟨b, off, none⟩) L cap), .int .i64 lf, .bool true], .int .i64 132]) (by simp [results, Try.results10, go_sem, f0, f1, f2, f3]) rfl HFIN.out
              · have u9 : (lf == 0) = false := by rw [beq_eq_false_iff_ne]; omega
                have u8 : decide (0 < lf) = true := decide_eq_true hlf
                have q8 : IntKind.i64.wrap (lf - 1) = lf - 1 := IntWalk.i64_in _ (by have := (lfB_iff.1 HRG.out.left).2; simp only at this; omega)
                have q7 := hlf
                have HRS : Hid (callF 3 ⟨rm, fs, lf, false⟩ xn m = (⟨rm, withF (outF fs xn) ⟨m, xs, xt⟩, (lf - 1), false⟩, 0)) := Lib.hid (by rw [call3_ok HRG.out Hp.out.symm Hpm.out.symm rfl HFXX.out hdir, exe_down hlf])
                have HOB := Lib.hid (below1 w5 (.cells #[.int .i64 rm, .slice (some ⟨b, off, none⟩) L cap, .int .i64 (lf - 1), .bool false] 24))
                have HRD5 := Lib.hid (HRD.out.below HB5.out)
                have r0 := HRD5.out.cell (i := 0) rfl
                have r1 := HRD5.out.cell (i := 1) rfl
                have r2 := HRD5.out.cell (i := 2) rfl
                have r3 := HRD5.out.cell (i := 3) rfl
                have HRDo := Lib.hid (HRD5.out.alloc (.cells #[.int .i64 rm, .slice (some ⟨b, off, none⟩) L cap, .int .i64 lf, .bool false] 24))
                have v2 := HRDo.out.cell (i := 2) rfl
                have HRDp := Lib.hid (HRD5.out.alloc (.cells #[.int .i64 rm, .slice (some ⟨b, off, none⟩) L cap, .int .i64 (lf - 1), .bool false] 24))
                have v1 := HRDp.out.cell (i := 1) rfl
                have HFBo := Lib.hid (HFB5.out.alloc (.cells #[.int .i64 rm, .slice (some ⟨b, off, none⟩) L cap, .int .i64 (lf - 1), .bool false] 24))
                have g0 := HFBo.out.cell (i := 0) rfl
                have g1 := HFBo.out.cell (i := 1) rfl
                have g2 := HFBo.out.cell (i := 2) rfl
                have tg0 := HFBo.out.thaw 0
                have tg1 := HFBo.out.thaw 1
                have tg2 := HFBo.out.thaw 2
                have e2 := HFB5.out.cell (i := 2) rfl
                have HLN : Hid (fs.length ≤ 900) := Lib.hid (by have := HRG.out.fs.len; simp only at this; omega)
                have HBF := Lib.hid ((But.refl w3.heap.size (w5.alloc (.cells #[.int .i64 rm, .slice (some ⟨b, off, none⟩) L cap, .int .i64 (lf - 1), .bool false] 24))).set 0 (.string m))
                have HFX : Hid (RowF ((w5.alloc (.cells #[.int .i64 rm, .slice (some ⟨b, off, none⟩) L cap, .int .i64 (lf - 1), .bool false] 24)).setCell ⟨w3.heap.size, 0, none⟩ (.string m)) w3.heap.size ⟨m, xs, xt⟩) := Lib.hid ((HFB5.out.alloc (.cells #[.int .i64 rm, .slice (some ⟨b, off, none⟩) L cap, .int .i64 (lf - 1), .bool false] 24)).set 0 (.string m))
                have HBX : Hid (Below W1.heap.size W1 ((w5.alloc (.cells #[.int .i64 rm, .slice (some ⟨b, off, none⟩) L cap, .int .i64 (lf - 1), .bool false] 24)).setCell ⟨w3.heap.size, 0, none⟩ (.string m))) := Lib.hid ((below_trans HB5.out (below1 w5 (.cells #[.int .i64 rm, .slice (some ⟨b, off, none⟩) L cap, .int .i64 (lf - 1), .bool false] 24))).trans (HBF.out.below (by have := HB3.out.size; omega)))
                have hfo : w5.heap.size ≠ w3.heap.size := by have := HFB5.out.lt; omega
                have HRO : Hid (Row ((w5.alloc (.cells #[.int .i64 rm, .slice (some ⟨b, off, none⟩) L cap, .int .i64 (lf - 1), .bool false] 24)).setCell ⟨w3.heap.size, 0, none⟩ (.string m)) w5.heap.size 24 [.int .i64 rm, .slice (some ⟨b, off, none⟩) L cap, .int .i64 (lf - 1), .bool false]) := Lib.hid ((row_new w5 #[.int .i64 rm, .slice (some ⟨b, off, none⟩) L cap, .int .i64 (lf - 1), .bool false] 24).keep (HBF.out.block _ hfo))
                have HRDx := Lib.hid (HRD.out.below HBX.out)
                have dx1 := HRDx.out.cell (i := 1) rfl
                have x0 := HFX.out.cell (i := 0) rfl
                have x1 := HFX.out.cell (i := 1) rfl
                have x2 := HFX.out.cell (i := 2) rfl
                have HRO5 : Hid (w5.heap.size < ((w5.alloc (.cells #[.int .i64 rm, .slice (some ⟨b, off, none⟩) L cap, .int .i64 (lf - 1), .bool false] 24)).setCell ⟨w3.heap.size, 0, none⟩ (.string m)).heap.size) := Lib.hid HRO.out.lt
                have HWI := Lib.hid (fun W hb => rwithout_any W _ cap fs xn (by rw [← HL.out]; exact HXO.out W hb) (by have := HLN.out; omega))
                rw [← HL.out] at HWI
                go_wp2
                generalize hWY : ((w5.alloc (.cells #[.int .i64 rm, .slice (some ⟨b, off, none⟩) L cap, .int .i64 (lf - 1), .bool false] 24)).setCell ⟨w3.heap.size, 0, none⟩ (.string m)) = wy at *
                clear hWY x0 x1 x2 dx1
                have HDY := Lib.hid (Below.refl wy.heap.size wy).drew
                have HSY : Hid (∀ W, Below wy.heap.size wy W → W.cell? ⟨w.heap.size, 1, none⟩ = some (.slice (some ⟨b, off, none⟩) L cap) ∧ W.cell? ⟨w3.heap.size, 0, none⟩ = some (.string m) ∧ W.cell? ⟨w3.heap.size, 1, none⟩ = some (.string xs) ∧ W.cell? ⟨w3.heap.size, 2, none⟩ = some (.string xt)) := Lib.hid (fun W hb => ⟨(HRDx.out.below hb).cell (i := 1) rfl, (HFX.out.below hb).cell (i := 0) rfl, (HFX.out.below hb).cell (i := 1) rfl, (HFX.out.below hb).cell (i := 2) rfl⟩)
                have hs0 := HSY.out _ HDY.out
                refine wp_region_noPanic ?_
                refine wp_region_held_drew (S := fun W => W.cell? ⟨w.heap.size, 1, none⟩ = some (.slice (some ⟨b, off, none⟩) L cap) ∧ W.cell? ⟨w3.heap.size, 0, none⟩ = some (.string m) ∧ W.cell? ⟨w3.heap.size, 1, none⟩ = some (.string xs) ∧ W.cell? ⟨w3.heap.size, 2, none⟩ = some (.string xt)) (by kernel_rfl) hs0 (fun hHeld => ?_)
                clear hs0
                generalize hWZ : wy.drew = wz at *
                clear hWZ
                refine wpAnyH_take (i := 0) (oi := { dst := some 145, op := Go.Op.fieldAddr 24 (Go.Operand.tmp 4) 1, type := 0, pos := "ref.go:122", after := #[], guard := none }) (v := ?_) rfl (by kernel_rfl) (by kernel_rfl) (by kernel_rfl) (fun _ _ _ h => h) (Or.inl ⟨by rfl, ?_⟩) (by assumption) ?_
                rotate_left
                · (intro w hSw; (try dsimp only at hSw); go_simp) <;> with_reducible rfl
                simp only [Act.put, List.setIfInBounds_toArray, List.set_cons_zero, List.set_cons_succ]
                refine wpAnyH_take (i := 1) (oi := { dst := some 146, op := Go.Op.load 22 (Go.Operand.tmp 145), type := 22, pos := "ref.go:122", after := #[{ on := 0, ground := Go.Ground.data }], guard := none }) (v := ?_) rfl (by kernel_rfl) (by kernel_rfl) (by kernel_rfl) (fun _ _ _ h => h) (Or.inl ⟨by rfl, ?_⟩) (by assumption) ?_
                rotate_left
                · (intro w hSw; (try dsimp only at hSw); go_simp) <;> with_reducible rfl
                simp only [Act.put, List.setIfInBounds_toArray, List.set_cons_zero, List.set_cons_succ]
                refine wpAnyH_take (i := 2) (oi := { dst := some 147, op := Go.Op.move (Go.Operand.tmp 2), type := 9, pos := "ref.go:122", after := #[], guard := none }) (v := ?_) rfl (by kernel_rfl) (by kernel_rfl) (by kernel_rfl) (fun _ _ _ h => h) (Or.inl ⟨by rfl, ?_⟩) (by assumption) ?_
                rotate_left
                · (intro w hSw; (try dsimp only at hSw); go_simp) <;> with_reducible rfl
                simp only [Act.put, List.setIfInBounds_toArray, List.set_cons_zero, List.set_cons_succ]
                refine wpAnyH_take (i := 4) (oi := { dst := some 149, op := Go.Op.load 44 (Go.Operand.tmp 12), type := 44, pos := "ref.go:122", after := #[], guard := none }) (v := ?_) rfl (by kernel_rfl) (by kernel_rfl) (by kernel_rfl) (fun _ _ _ h => h) (Or.inl ⟨by rfl, ?_⟩) (by assumption) ?_
                rotate_left
                · (intro w hSw; (try dsimp only at hSw); go_simp) <;> with_reducible rfl
                simp only [Act.put, List.setIfInBounds_toArray, List.set_cons_zero, List.set_cons_succ]
                refine wpAnyH_ready (rs := [3]) (by kernel_rfl) (by simp) ?_
                refine AllReadyH.cons (o := { dst := some 148, op := Go.Op.call { callee := Go.Callee.value (Go.Operand.func 27), args := #[Go.Operand.tmp 146, Go.Operand.tmp 147], argTypes := #[22, 9] }, type := 22, pos := "ref.go:122", after := #[{ on := 1, ground := Go.Ground.data }, { on := 2, ground := Go.Ground.data }], guard := none }) rfl (fun K hK => ?_) AllReadyH.nil
                go_simp
                refine (HWI.out wz (below_trans HB1.out (below_trans HBX.out HDY.out))).mono ?_
                rintro e w6 hp
                obtain ⟨a6, c6, rfl, hs, hb⟩ := hp.fs
                have HY6 := Lib.hid (below_trans HDY.out hb)
                have HW2 := Lib.hid (rwith_any w6 a6 c6 (outF fs xn) ⟨m, xs, xt⟩ hs (by have h1 := HLN.out; have h2 := len_out fs xn; omega))
                clear hs hp hb
                go_wp2_with fail
                refine hK.out _ _ ?_ (fun hz2 => ?_)
                · exact HSY.out _ HY6.out
                clear hK K hHeld 
                try simp only [Act.put, List.setIfInBounds_toArray, List.set_cons_zero, List.set_cons_succ]
                refine wpAnyH_ready (rs := [5]) (by kernel_rfl) (by simp) ?_
                refine AllReadyH.cons (o := { dst := some 150, op := Go.Op.call { callee := Go.Callee.value (Go.Operand.func 26), args := #[Go.Operand.tmp 148, Go.Operand.tmp 149], argTypes := #[22, 44] }, type := 22, pos := "ref.go:122", after := #[{ on := 3, ground := Go.Ground.data }, { on := 4, ground := Go.Ground.data }, { on := 3, ground := Go.Ground.chain }], guard := none }) rfl (fun K hK => ?_) AllReadyH.nil
                go_simp
                refine HW2.out.mono ?_
                rintro e w7 hp
                obtain ⟨a7, c7, rfl, hs, hb⟩ := hp.fs
                have HS7 := Lib.hid hs
                have HY7 := Lib.hid (below_trans HY6.out hb)
                have HB7 := Lib.hid (below_trans HBX.out HY7.out)
                have HRO7 := Lib.hid (HRO.out.below HY7.out)
                have hb := HY7.out
                go_wp2_with fail
                refine hK.out _ _ ?_ (fun hz3 => ?_)
                · exact HSY.out _ HY7.out
                clear hK K hz2 
                try simp only [Act.put, List.setIfInBounds_toArray, List.set_cons_zero, List.set_cons_succ]
                obtain ⟨L7, HL7⟩ : ∃ L, Hid (L = (withF (outF fs xn) ⟨m, xs, xt⟩).length) := ⟨_, Lib.hid rfl⟩
                rw [← HL7.out] at HS7 ⊢
                have HRR7 := Lib.hid (HRR.out.below HB7.out)
                have HBO := Lib.hid ((But.refl w5.heap.size w7).set 1 (.slice a7 L7 c7))
                have HO8 := Lib.hid (HRO7.out.set 1 (.slice a7 L7 c7))
                have HS8 := Lib.hid (slf_one HS7.out HRO7.out HBO.out)
                have hne : w.heap.size + 1 ≠ w5.heap.size := by have h1 := HSZ.out; have h2 := HB5.out.size; omega
                have HRR8 := Lib.hid (HRR7.out.keep (HBO.out.block (w.heap.size + 1) hne))
                have HB8 : Hid (Below W1.heap.size W1 (w7.setCell ⟨w5.heap.size, 1, none⟩ (.slice a7 L7 c7))) := Lib.hid (HB7.out.trans (HBO.out.below (by have := HB5.out.size; omega)))
                have o0 := HRO7.out.cell (i := 0) rfl
                have o1 := HRO7.out.cell (i := 1) rfl
                have o2 := HRO7.out.cell (i := 2) rfl
                have o3 := HRO7.out.cell (i := 3) rfl
                have to0 := HRO7.out.thaw 0
                have to1 := HRO7.out.thaw 1
                have to2 := HRO7.out.thaw 2
                have to3 := HRO7.out.thaw 3
                have k0 := HRR7.out.cell (i := 0) rfl
                have k1 := HRR7.out.cell (i := 1) rfl
                have k2 := HRR7.out.cell (i := 2) rfl
                have k3 := HRR7.out.cell (i := 3) rfl
                have tk0 := HRR7.out.thaw 0
                have tk1 := HRR7.out.thaw 1
                have tk2 := HRR7.out.thaw 2
                have tk3 := HRR7.out.thaw 3
                have R9 := put4_row HRR8.out (.int .i64 rm) (.slice a7 L7 c7) (.int .i64 (lf - 1)) (.bool false)
                have f0 := R9.cell (i := 0) rfl
                have f1 := R9.cell (i := 1) rfl
                have f2 := R9.cell (i := 2) rfl
                have f3 := R9.cell (i := 3) rfl
                have HFIN : Hid (DkP (callF 3 ⟨rm, fs, lf, false⟩ xn m) w (.returned (.tuple #[.agg #[.int .i64 rm, (.slice a7 L7 c7), .int .i64 (lf - 1), .bool false], .int .i64 0])) (put4 (w7.setCell ⟨w5.heap.size, 1, none⟩ (.slice a7 L7 c7)) (w.heap.size + 1) (.int .i64 rm) (.slice a7 L7 c7) (.int .i64 (lf - 1)) (.bool false))) := Lib.hid (by
                  rw [HRS.out]
                  exact DkP.put (a := a7) (cap := c7) (w7 := (w7.setCell ⟨w5.heap.size, 1, none⟩ (.slice a7 L7 c7))) (R := w.heap.size + 1) (by simp only; rw [← HL7.out]; exact HS8.out) (below_trans HB1.out HB8.out) (by omega) HRR8.out (by simp only; rw [← HL7.out]) (by simp only; rw [← HL7.out]; rfl))
                clear R9
                refine wpAnyH_take (i := 6) (oi := { dst := some 151, op := Go.Op.fieldAddr 24 (Go.Operand.tmp 13) 1, type := 0, pos := "ref.go:122", after := #[{ on := 0, ground := Go.Ground.phase }, { on := 1, ground := Go.Ground.phase }, { on := 2, ground := Go.Ground.phase }, { on := 3, ground := Go.Ground.phase }, { on := 4, ground := Go.Ground.phase }, { on := 5, ground := Go.Ground.phase }], guard := none }) (v := ?_) rfl (by kernel_rfl) (by kernel_rfl) (by kernel_rfl) (fun _ _ _ h => h) (Or.inl ⟨by rfl, ?_⟩) (by assumption) ?_
                rotate_left
                · (intro w hSw; (try dsimp only at hSw); go_simp) <;> with_reducible rfl
                simp only [Act.put, List.setIfInBounds_toArray, List.set_cons_zero, List.set_cons_succ]
                have hlast : (fun W : World => W.cell? ⟨w.heap.size, 1, none⟩ = some (.slice (some ⟨b, off, none⟩) L cap) ∧ W.cell? ⟨w3.heap.size, 0, none⟩ = some (.string m) ∧ W.cell? ⟨w3.heap.size, 1, none⟩ = some (.string xs) ∧ W.cell? ⟨w3.heap.size, 2, none⟩ = some (.string xt)) (w7.setCell ⟨w5.heap.size, 1, none⟩ (.slice a7 L7 c7)) := ⟨(show Row (w7.setCell ⟨w5.heap.size, 1, none⟩ (.slice a7 L7 c7)) w.heap.size 24 [.int .i64 rm, .slice (some ⟨b, off, none⟩) L cap, .int .i64 lf, .bool false] from (HRD.out.below HB7.out).keep (HBO.out.block _ (by have h1 := HSZ.out; have h2 := HB5.out.size; omega))).cell (i := 1) rfl, ((HFX.out.below HY7.out).keep (HBO.out.block _ (by have := HFB5.out.lt; omega))).cell (i := 0) rfl, ((HFX.out.below HY7.out).keep (HBO.out.block _ (by have := HFB5.out.lt; omega))).cell (i := 1) rfl, ((HFX.out.below HY7.out).keep (HBO.out.block _ (by have := HFB5.out.lt; omega))).cell (i := 2) rfl⟩
                refine wpAnyH_ready (rs := [7]) (by kernel_rfl) (by simp) ?_
                refine AllReadyH.cons (o := { dst := none, op := Go.Op.store 22 (Go.Operand.tmp 151) (Go.Operand.tmp 150), type := 0, pos := "ref.go:122", after := #[{ on := 6, ground := Go.Ground.data }, { on := 5, ground := Go.Ground.data }, { on := 5, ground := Go.Ground.chain }, { on := 0, ground := Go.Ground.phase }, { on := 1, ground := Go.Ground.phase }, { on := 2, ground := Go.Ground.phase }, { on := 3, ground := Go.Ground.phase }, { on := 4, ground := Go.Ground.phase }, { on := 5, ground := Go.Ground.phase }], guard := none }) rfl (fun K hK => ?_) AllReadyH.nil
                go_simp
                refine hK.out _ _ ?_ (fun hz4 => ?_)
                · exact hlast
                clear hK K hz3 
                try simp only [Act.put, List.setIfInBounds_toArray, List.set_cons_zero, List.set_cons_succ]
                refine wpAnyH_done (by kernel_rfl) ?_ _
                refine NoPanic.normal ?_
                go_wp2
                exact bodyPost_ret (v := .tuple #[.agg #[.int .i64 rm, (.slice a7 L7 c7), .int .i64 (lf - 1), .bool false], .int .i64 0]) (by simp [results, Try.results10, go_sem, f0, f1, f2, f3]) rfl HFIN.out
            · have hemp : xt.toList.isEmpty = false := nemp_of hdir
              have HB4 := Lib.hid (below_trans HB3.out (below1 w3 (.cells #[.string xn, .string xs, .string xt] 44)))
              have HFB : Hid (Row (w3.alloc (.cells #[.string xn, .string xs, .string xt] 44)) w3.heap.size 44 [.string xn, .string xs, .string xt]) := Lib.hid (row_new w3 #[.string xn, .string xs, .string xt] _)
              go_wp2
              generalize hW4 : w3.alloc (.cells #[.string xn, .string xs, .string xt] 44) = w4 at *
              clear hW4
              have HRD4 := Lib.hid (HRD.out.below HB4.out)
              have HSD : Hid (∀ W, Below w4.heap.size w4 W → W.cell? ⟨w.heap.size, 0, none⟩ = some (.int .i64 rm) ∧ W.cell? ⟨w.heap.size, 1, none⟩ = some (.slice (some ⟨b, off, none⟩) L cap)) := Lib.hid (fun W hb => ⟨(HRD4.out.below hb).cell (i := 0) rfl, (HRD4.out.below hb).cell (i := 1) rfl⟩)
              have HDR := Lib.hid (Below.refl w4.heap.size w4).drew
              have hs0 := HSD.out _ HDR.out
              refine wp_region_noPanic ?_
              refine wp_region_held_drew (S := fun W => W.cell? ⟨w.heap.size, 0, none⟩ = some (.int .i64 rm) ∧ W.cell? ⟨w.heap.size, 1, none⟩ = some (.slice (some ⟨b, off, none⟩) L cap)) (by kernel_rfl) hs0 (fun hHeld => ?_)
              clear hs0
              generalize hW6 : w4.drew = w6 at *
              clear hW6
              refine wpAnyH_take (i := 0) (oi := { dst := some 49, op := Go.Op.move (Go.Operand.tmp 1), type := 3, pos := "ref.go:96", after := #[], guard := none }) (v := ?_) rfl (by kernel_rfl) (by kernel_rfl) (by kernel_rfl) (fun _ _ _ h => h) (Or.inl ⟨by rfl, ?_⟩) (by assumption) ?_
              rotate_left
              · (intro w hSw; (try dsimp only at hSw); go_simp) <;> with_reducible rfl
              simp only [Act.put, List.setIfInBounds_toArray, List.set_cons_zero, List.set_cons_succ]
              refine wpAnyH_take (i := 1) (oi := { dst := some 50, op := Go.Op.binOp Go.BinOp.eql 3 (Go.Operand.tmp 49) (Go.Operand.const (Go.Value.int Go.IntKind.i64 1)) 3, type := 4, pos := "ref.go:96", after := #[{ on := 0, ground := Go.Ground.data }], guard := none }) (v := ?_) rfl (by kernel_rfl) (by kernel_rfl) (by kernel_rfl) (fun _ _ _ h => h) (Or.inl ⟨by rfl, ?_⟩) (by assumption) ?_
              rotate_left
              · (intro w hSw; (try dsimp only at hSw); go_simp) <;> with_reducible rfl
              simp only [Act.put, List.setIfInBounds_toArray, List.set_cons_zero, List.set_cons_succ]
              refine wpAnyH_take (i := 2) (oi := { dst := some 51, op := Go.Op.move (Go.Operand.tmp 50), type := 4, pos := "ref.go:96", after := #[{ on := 1, ground := Go.Ground.data }], guard := none }) (v := ?_) rfl (by kernel_rfl) (by kernel_rfl) (by kernel_rfl) (fun _ _ _ h => h) (Or.inl ⟨by rfl, ?_⟩) (by assumption) ?_
              rotate_left
              · (intro w hSw; (try dsimp only at hSw); go_simp) <;> with_reducible rfl
              simp only [Act.put, List.setIfInBounds_toArray, List.set_cons_zero, List.set_cons_succ]
              refine wpAnyH_skip (i := 3) (d := 52) (by kernel_rfl) (by kernel_rfl) (by kernel_rfl) (by kernel_rfl) (fun _ _ _ h => h) (by assumption) ?_
              simp only [Act.put, List.setIfInBounds_toArray, List.set_cons_zero, List.set_cons_succ]
              refine wpAnyH_skip (i := 4) (d := 53) (by kernel_rfl) (by kernel_rfl) (by kernel_rfl) (by kernel_rfl) (fun _ _ _ h => h) (by assumption) ?_
              simp only [Act.put, List.setIfInBounds_toArray, List.set_cons_zero, List.set_cons_succ]
              refine wpAnyH_skip (i := 5) (d := 54) (by kernel_rfl) (by kernel_rfl) (by kernel_rfl) (by kernel_rfl) (fun _ _ _ h => h) (by assumption) ?_
              simp only [Act.put, List.setIfInBounds_toArray, List.set_cons_zero, List.set_cons_succ]
              refine wpAnyH_skip (i := 6) (d := 55) (by kernel_rfl) (by kernel_rfl) (by kernel_rfl) (by kernel_rfl) (fun _ _ _ h => h) (by assumption) ?_
              simp only [Act.put, List.setIfInBounds_toArray, List.set_cons_zero, List.set_cons_succ]
              refine wpAnyH_skip (i := 7) (d := 56) (by kernel_rfl) (by kernel_rfl) (by kernel_rfl) (by kernel_rfl) (fun _ _ _ h => h) (by assumption) ?_
              simp only [Act.put, List.setIfInBounds_toArray, List.set_cons_zero, List.set_cons_succ]
              refine wpAnyH_skip (i := 8) (d := 57) (by kernel_rfl) (by kernel_rfl) (by kernel_rfl) (by kernel_rfl) (fun _ _ _ h => h) (by assumption) ?_
              simp only [Act.put, List.setIfInBounds_toArray, List.set_cons_zero, List.set_cons_succ]
              refine wpAnyH_skip (i := 9) (d := 58) (by kernel_rfl) (by kernel_rfl) (by kernel_rfl) (by kernel_rfl) (fun _ _ _ h => h) (by assumption) ?_
              simp only [Act.put, List.setIfInBounds_toArray, List.set_cons_zero, List.set_cons_succ]
              refine wpAnyH_skip (i := 10) (d := 59) (by kernel_rfl) (by kernel_rfl) (by kernel_rfl) (by kernel_rfl) (fun _ _ _ h => h) (by assumption) ?_
              simp only [Act.put, List.setIfInBounds_toArray, List.set_cons_zero, List.set_cons_succ]
              refine wpAnyH_skip (i := 11) (d := 60) (by kernel_rfl) (by kernel_rfl) (by kernel_rfl) (by kernel_rfl) (fun _ _ _ h => h) (by assumption) ?_
              simp only [Act.put, List.setIfInBounds_toArray, List.set_cons_zero, List.set_cons_succ]
              refine wpAnyH_skip (i := 12) (d := 61) (by kernel_rfl) (by kernel_rfl) (by kernel_rfl) (by kernel_rfl) (fun _ _ _ h => h) (by assumption) ?_
              simp only [Act.put, List.setIfInBounds_toArray, List.set_cons_zero, List.set_cons_succ]
              refine wpAnyH_skip (i := 13) (d := 62) (by kernel_rfl) (by kernel_rfl) (by kernel_rfl) (by kernel_rfl) (fun _ _ _ h => h) (by assumption) ?_
              simp only [Act.put, List.setIfInBounds_toArray, List.set_cons_zero, List.set_cons_succ]
              refine wpAnyH_skip (i := 14) (d := 63) (by kernel_rfl) (by kernel_rfl) (by kernel_rfl) (by kernel_rfl) (fun _ _ _ h => h) (by assumption) ?_
              simp only [Act.put, List.setIfInBounds_toArray, List.set_cons_zero, List.set_cons_succ]
              refine wpAnyH_skip (i := 15) (d := 64) (by kernel_rfl) (by kernel_rfl) (by kernel_rfl) (by kernel_rfl) (fun _ _ _ h => h) (by assumption) ?_
              simp only [Act.put, List.setIfInBounds_toArray, List.set_cons_zero, List.set_cons_succ]
              refine wpAnyH_skip (i := 16) (d := 65) (by kernel_rfl) (by kernel_rfl) (by kernel_rfl) (by kernel_rfl) (fun _ _ _ h => h) (by assumption) ?_
              simp only [Act.put, List.setIfInBounds_toArray, List.set_cons_zero, List.set_cons_succ]
              refine wpAnyH_skip (i := 17) (d := 66) (by kernel_rfl) (by kernel_rfl) (by kernel_rfl) (by kernel_rfl) (fun _ _ _ h => h) (by assumption) ?_
              simp only [Act.put, List.setIfInBounds_toArray, List.set_cons_zero, List.set_cons_succ]
              refine wpAnyH_skip (i := 18) (d := 67) (by kernel_rfl) (by kernel_rfl) (by kernel_rfl) (by kernel_rfl) (fun _ _ _ h => h) (by assumption) ?_
              simp only [Act.put, List.setIfInBounds_toArray, List.set_cons_zero, List.set_cons_succ]
              refine wpAnyH_skip (i := 19) (d := 68) (by kernel_rfl) (by kernel_rfl) (by kernel_rfl) (by kernel_rfl) (fun _ _ _ h => h) (by assumption) ?_
              simp only [Act.put, List.setIfInBounds_toArray, List.set_cons_zero, List.set_cons_succ]
              refine wpAnyH_skip (i := 20) (d := 69) (by kernel_rfl) (by kernel_rfl) (by kernel_rfl) (by kernel_rfl) (fun _ _ _ h => h) (by assumption) ?_
              simp only [Act.put, List.setIfInBounds_toArray, List.set_cons_zero, List.set_cons_succ]
              refine wpAnyH_skip (i := 21) (d := 70) (by kernel_rfl) (by kernel_rfl) (by kernel_rfl) (by kernel_rfl) (fun _ _ _ h => h) (by assumption) ?_
              simp only [Act.put, List.setIfInBounds_toArray, List.set_cons_zero, List.set_cons_succ]
              refine wpAnyH_take (i := 22) (oi := { dst := some 71, op := Go.Op.pick (Go.Operand.tmp 51) (Go.Operand.tmp 70) (Go.Operand.const (Go.Value.bool false)), type := 4, pos := "ref.go:96", after := #[{ on := 2, ground := Go.Ground.data }, { on := 21, ground := Go.Ground.data }], guard := none }) (v := ?_) rfl (by kernel_rfl) (by kernel_rfl) (by kernel_rfl) (fun _ _ _ h => h) (Or.inl ⟨by rfl, ?_⟩) (by assumption) ?_
              rotate_left
              · (intro w hSw; (try dsimp only at hSw); go_simp) <;> with_reducible rfl
              simp only [Act.put, List.setIfInBounds_toArray, List.set_cons_zero, List.set_cons_succ]
              refine wpAnyH_done (by kernel_rfl) ?_ _
              refine NoPanic.normal ?_
              have HB5 := Lib.hid (below_trans HB4.out HDR.out)
              have HFB5 := Lib.hid (HFB.out.below HDR.out)
              have g0 := HFB5.out.cell (i := 0) rfl
              have g1 := HFB5.out.cell (i := 1) rfl
              have g2 := HFB5.out.cell (i := 2) rfl
              have HE : Hid (callF 3 ⟨rm, fs, lf, false⟩ xn m = (zeroD, 131)) := Lib.hid (call3_dirty HRG.out Hp.out.symm Hpm.out.symm rfl HFXX.out hdir)
              have HRr := Lib.hid (HRR.out.below HB5.out)
              have HRz := Lib.hid (HRZ.out.below HB5.out)
              have k0 := HRr.out.cell (i := 0) rfl
              have k1 := HRr.out.cell (i := 1) rfl
              have k2 := HRr.out.cell (i := 2) rfl
              have k3 := HRr.out.cell (i := 3) rfl
              have tk0 := HRr.out.thaw 0
              have tk1 := HRr.out.thaw 1
              have tk2 := HRr.out.thaw 2
              have tk3 := HRr.out.thaw 3
              have z0 := HRz.out.cell (i := 0) rfl
              have z1 := HRz.out.cell (i := 1) rfl
              have z2 := HRz.out.cell (i := 2) rfl
              have z3 := HRz.out.cell (i := 3) rfl
              have R9 := put4_row HRr.out (.int .i64 0) (.slice none 0 0) (.int .i64 0) (.bool false)
              have f0 := R9.cell (i := 0) rfl
              have f1 := R9.cell (i := 1) rfl
              have f2 := R9.cell (i := 2) rfl
              have f3 := R9.cell (i := 3) rfl
              have HFIN : Hid (DkP (callF 3 ⟨rm, fs, lf, false⟩ xn m) w (.returned (.tuple #[.agg #[.int .i64 0, .slice none 0 0, .int .i64 0, .bool false], .int .i64 131])) (put4 w6 (w.heap.size + 1) (.int .i64 0) (.slice none 0 0) (.int .i64 0) (.bool false))) := Lib.hid (DkP.zero HE.out ((below_trans HB1.out HB5.out).trans ((put4_but w6 (w.heap.size + 1) (.int .i64 0) (.slice none 0 0) (.int .i64 0) (.bool false)).below (by omega))) rfl)
              clear R9
              go_wp2
              exact bodyPost_ret (v := .tuple #[.agg #[.int .i64 0, .slice none 0 0, .int .i64 0, .bool false], .int .i64 131]) (by simp [results, Try.results10, go_sem, f0, f1, f2, f3]) rfl HFIN.out
end Go.Proofs.Ytmhdodiipkkjpaa.Dk
