/- Package disk: Sync, Rename, Remove. -/
import Derived.Test.YtmhdodiipkkjpaaDo
namespace Go.Proofs.Ytmhdodiipkkjpaa.Dk
open Go.RowKit

theorem put4_same {W : World} {B P : Nat} {t : TypeId} {x0 x1 x2 x3 a b c d : Value} (h : Row W B t [x0, x1, x2, x3]) (hne : B ≠ P) : Row (put4 W P a b c d) B t [x0, x1, x2, x3] := h.keep ((put4_but W P a b c d).block B hne)
theorem emp_of {s : BA} (h : s.size = 0) : s.toList.isEmpty = true := by
  rw [ByteArray.toList_eq]
  have : s.data.toList.length = 0 := by rw [Array.length_toList]; exact h
  rw [List.length_eq_zero_iff.1 this]; rfl
theorem nemp_of {s : BA} (h : s.size ≠ 0) : s.toList.isEmpty = false := by
  cases he : s.toList.isEmpty with
  | false => rfl
  | true =>
    rw [ByteArray.toList_eq] at he
    have h2 := List.isEmpty_iff.1 he
    exact absurd (by show s.data.size = 0; rw [← Array.length_toList, h2]; rfl) h
theorem cr_all (f : Fil) : crF f f.tl.size = ⟨f.nm, f.sy ++ f.tl, noB⟩ := by
  unfold crF
  have : f.tl.extract 0 f.tl.size = f.tl := by
    apply ByteArray.ext
    rw [ByteArray.data_extract]
    exact Array.extract_size
  rw [this]


set_option maxHeartbeats 6400000 in
set_option maxRecDepth 100000 in
theorem sync_any (w : World) (d : Dsk) (a : Option Addr) (cap : Nat) (n : BA) (h : DAt w d a cap) (hn : n.size ≤ 140737488351232) :
    Calls Try.prog 22 #[diV d (.slice a d.fs.length cap), .string n] w (DkP (syncF d n) w) := by
  obtain ⟨rm, fs, lf, dn⟩ := d
  have HX := Lib.hid h.fs
  have HFI := Lib.hid (fun W (hb : Below w.heap.size w W) => find_any W ⟨rm, fs, lf, dn⟩ a cap n [] none 0 (h.old hb) hn (SlS.none _ _) (fun s hs => by cases hs))
  simp only [List.length_nil] at HFI
  obtain ⟨L, HL⟩ : ∃ L, Hid (L = fs.length) := ⟨_, Lib.hid rfl⟩
  simp only at HX HFI ⊢
  have HXO : Hid (∀ W, Below w.heap.size w W → SlF W (Old W) (.slice a L cap) fs) := Lib.hid (fun W hb => by rw [HL.out]; exact HX.out.old hb)
  rw [← HL.out] at HX HFI ⊢
  obtain ⟨W1, HW1⟩ : ∃ W, Hid (W = ((w.alloc (.cells #[.int .i64 rm, .slice a L cap, .int .i64 lf, .bool dn] 24)).alloc (.cells #[.int .i64 0, .slice none 0 0, .int .i64 0, .bool false] 24))) := ⟨_, Lib.hid rfl⟩
  have HB1 : Hid (Below w.heap.size w W1) := Lib.hid (by rw [HW1.out]; exact below2 _ _ _ )
  have HSZ : Hid (W1.heap.size = w.heap.size + 2) := Lib.hid (by rw [HW1.out]; simp)
  have HRD : Hid (Row W1 w.heap.size 24 [.int .i64 rm, .slice a L cap, .int .i64 lf, .bool dn]) := Lib.hid (by rw [HW1.out]; exact (row_new w #[.int .i64 rm, .slice a L cap, .int .i64 lf, .bool dn] _).alloc _)
  have HRR : Hid (Row W1 (w.heap.size + 1) 24 [.int .i64 0, .slice none 0 0, .int .i64 0, .bool false]) := Lib.hid (by
    rw [HW1.out]
    have h := row_new (w.alloc (.cells #[.int .i64 rm, .slice a L cap, .int .i64 lf, .bool dn] 24)) #[.int .i64 0, .slice none 0 0, .int .i64 0, .bool false] 24
    simp only [World.size_alloc] at h
    exact h)
  clear h
  obtain ⟨r, Hr⟩ : ∃ r, Hid (r = findE ⟨rm, fs, lf, dn⟩ [n] n) := ⟨_, Lib.hid rfl⟩
  rw [← Hr.out] at HFI
  have r0 := HRD.out.cell (i := 0) rfl
  have r1 := HRD.out.cell (i := 1) rfl
  have r2 := HRD.out.cell (i := 2) rfl
  have r3 := HRD.out.cell (i := 3) rfl
  rw [HW1.out] at r0 r1 r2 r3
  cases r with
  | error k =>
    have HER := Lib.hid (findE_err Hr.out.symm)
    have hk3 : ((k : Int) == 0) = false := by
      rw [beq_eq_false_iff_ne]
      rcases HER.out with ⟨h, -⟩ | ⟨h, -⟩ | ⟨h, -⟩ <;> omega
    have hk4 : ((k : Int) != 0) = true := by rw [bne, hk3]; rfl
    go_enter Try.func22, Try.ntmps22
    go_wp2_with fail
    rw [← HW1.out]
    refine (HFI.out W1 HB1.out).mono ?_
    rintro e w2 ⟨rfl, hb2⟩
    simp only [finV]
    have HB2 : Hid (Below W1.heap.size W1 w2) := Lib.hid (hb2)
    clear hb2 r0 r1 r2 r3 HW1
    have HB3 := Lib.hid (below_trans HB2.out (below1 w2 (.cells (fiC noF) 44)))
    have HE : Hid (syncF ⟨rm, fs, lf, dn⟩ n = (zeroD, k)) := Lib.hid (by unfold syncF; rw [← Hr.out])
    have HRr := Lib.hid (HRR.out.below HB3.out)
    have k0 := HRr.out.cell (i := 0) rfl
    have k1 := HRr.out.cell (i := 1) rfl
    have k2 := HRr.out.cell (i := 2) rfl
    have k3 := HRr.out.cell (i := 3) rfl
    have tk0 := HRr.out.thaw 0
    have tk1 := HRr.out.thaw 1
    have tk2 := HRr.out.thaw 2
    have tk3 := HRr.out.thaw 3
    have R9 := put4_row HRr.out (.int .i64 0) (.slice none 0 0) (.int .i64 0) (.bool false)
    have f0 := R9.cell (i := 0) rfl
    have f1 := R9.cell (i := 1) rfl
    have f2 := R9.cell (i := 2) rfl
    have f3 := R9.cell (i := 3) rfl
    have HFIN : Hid (DkP (syncF ⟨rm, fs, lf, dn⟩ n) w (.returned (.tuple #[.agg #[.int .i64 0, .slice none 0 0, .int .i64 0, .bool false], .int .i64 ((k : Nat) : Int)])) (put4 (w2.alloc (.cells (fiC noF) 44)) (w.heap.size + 1) (.int .i64 0) (.slice none 0 0) (.int .i64 0) (.bool false))) := Lib.hid (DkP.zero HE.out ((below_trans HB1.out HB3.out).trans ((put4_but (w2.alloc (.cells (fiC noF) 44)) (w.heap.size + 1) (.int .i64 0) (.slice none 0 0) (.int .i64 0) (.bool false)).below (by omega))) rfl)
    clear R9
    go_wp2
    exact bodyPost_ret (v := .tuple #[.agg #[.int .i64 0, .slice none 0 0, .int .i64 0, .bool false], .int .i64 ((k : Nat) : Int)]) (by simp [results, Try.results22, go_sem, f0, f1, f2, f3]) rfl HFIN.out
  | ok f =>
    obtain ⟨hg1, hg2, hg3, hg4⟩ := findE_ok Hr.out.symm
    have HRG := Lib.hid hg1
    have HFT := Lib.hid (hg1.fits f (findF_is hg4).1)
    have HL8 : Hid (fs.length ≤ 900) := Lib.hid (by have := hg1.fs.len; simp only at this; omega)
    clear hg1 hg2 hg3 hg4
    go_enter Try.func22, Try.ntmps22
    go_wp2_with fail
    rw [← HW1.out]
    refine (HFI.out W1 HB1.out).mono ?_
    rintro e w2 ⟨rfl, hb2⟩
    simp only [finV]
    have HB2 : Hid (Below W1.heap.size W1 w2) := Lib.hid (hb2)
    clear hb2 r0 r1 r2 r3 HW1
    have HFB : Hid (RowF (w2.alloc (.cells (fiC f) 44)) w2.heap.size f) := Lib.hid (row_new w2 (fiC f) _)
    have HB3 := Lib.hid (below_trans HB2.out (below1 w2 (.cells (fiC f) 44)))
    have HLE : Hid (w.heap.size + 2 ≤ w2.heap.size) := Lib.hid (by have h1 := HSZ.out; have h2 := HB2.out.size; omega)
    go_wp2
    generalize hW3 : w2.alloc (.cells (fiC f) 44) = W3 at *
    clear hW3
    have HRD3 := Lib.hid (HRD.out.below HB3.out)
    have HS : Hid (∀ W, Below W3.heap.size W3 W → W.cell? ⟨w.heap.size, 0, none⟩ = some (.int .i64 rm) ∧ W.cell? ⟨w.heap.size, 1, none⟩ = some (.slice a L cap) ∧ W.cell? ⟨w.heap.size, 2, none⟩ = some (.int .i64 lf) ∧ W.cell? ⟨w.heap.size, 3, none⟩ = some (.bool dn)) := Lib.hid (fun W hb => ⟨(HRD3.out.below hb).cell (i := 0) rfl, (HRD3.out.below hb).cell (i := 1) rfl, (HRD3.out.below hb).cell (i := 2) rfl, (HRD3.out.below hb).cell (i := 3) rfl⟩)
    have HDR := Lib.hid (Below.refl W3.heap.size W3).drew
    have hs0 := HS.out _ HDR.out
    refine wp_region_noPanic ?_
    refine wp_region_held_drew (S := fun W => W.cell? ⟨w.heap.size, 0, none⟩ = some (.int .i64 rm) ∧ W.cell? ⟨w.heap.size, 1, none⟩ = some (.slice a L cap) ∧ W.cell? ⟨w.heap.size, 2, none⟩ = some (.int .i64 lf) ∧ W.cell? ⟨w.heap.size, 3, none⟩ = some (.bool dn)) (by kernel_rfl) hs0 (fun hHeld => ?_)
    clear hs0
    generalize hW4 : W3.drew = w4 at *
    clear hW4
    refine wpAnyH_take (i := 0) (oi := { dst := some 20, op := Go.Op.load 24 (Go.Operand.tmp 2), type := 24, pos := "disk.go:51", after := #[], guard := none }) (v := ?_) rfl (by kernel_rfl) (by kernel_rfl) (by kernel_rfl) (fun _ _ _ h => h) (Or.inl ⟨by rfl, ?_⟩) (by assumption) ?_
    rotate_left
    · (intro w hSw; (try dsimp only at hSw); go_simp) <;> with_reducible rfl
    simp only [Act.put, List.setIfInBounds_toArray, List.set_cons_zero, List.set_cons_succ]
    refine wpAnyH_take (i := 1) (oi := { dst := some 21, op := Go.Op.move (Go.Operand.tmp 8), type := 62, pos := "disk.go:51", after := #[], guard := none }) (v := ?_) rfl (by kernel_rfl) (by kernel_rfl) (by kernel_rfl) (fun _ _ _ h => h) (Or.inl ⟨by rfl, ?_⟩) (by assumption) ?_
    rotate_left
    · (intro w hSw; (try dsimp only at hSw); go_simp) <;> with_reducible rfl
    simp only [Act.put, List.setIfInBounds_toArray, List.set_cons_zero, List.set_cons_succ]
    refine wpAnyH_take (i := 2) (oi := { dst := some 22, op := Go.Op.load 24 (Go.Operand.tmp 2), type := 24, pos := "disk.go:51", after := #[], guard := none }) (v := ?_) rfl (by kernel_rfl) (by kernel_rfl) (by kernel_rfl) (fun _ _ _ h => h) (Or.inl ⟨by rfl, ?_⟩) (by assumption) ?_
    rotate_left
    · (intro w hSw; (try dsimp only at hSw); go_simp) <;> with_reducible rfl
    simp only [Act.put, List.setIfInBounds_toArray, List.set_cons_zero, List.set_cons_succ]
    have HB5 := Lib.hid (below_trans HDR.out (below1 w4 (.cells #[.int .i64 rm, .slice a L cap, .int .i64 lf, .bool dn] 24)))
    have HRU : Hid (Row (w4.alloc (.cells #[.int .i64 rm, .slice a L cap, .int .i64 lf, .bool dn] 24)) w4.heap.size 24 [.int .i64 rm, .slice a L cap, .int .i64 lf, .bool dn]) := Lib.hid (row_new w4 #[.int .i64 rm, .slice a L cap, .int .i64 lf, .bool dn] _)
    have HUN := Lib.hid (unchanged_any w4 ⟨rm, fs, lf, dn⟩ (.slice a L cap))
    refine wpAnyH_ready (rs := [3]) (by kernel_rfl) (by simp) ?_
    refine AllReadyH.cons (o := { dst := some 23, op := Go.Op.call { callee := Go.Callee.value (Go.Operand.func 39), args := #[Go.Operand.tmp 22], argTypes := #[24] }, type := 64, pos := "disk.go:51", after := #[{ on := 2, ground := Go.Ground.data }], guard := none }) rfl (fun K hK => ?_) AllReadyH.nil
    go_simp
    refine HUN.out.mono ?_
    rintro e w5 ⟨rfl, rfl⟩
    go_wp2_with fail
    refine hK.out _ _ ?_ (fun hz2 => ?_)
    · exact HS.out _ HB5.out
    clear hK K hHeld 
    try simp only [Act.put, List.setIfInBounds_toArray, List.set_cons_zero, List.set_cons_succ]
    generalize hW5 : w4.alloc (.cells #[.int .i64 rm, .slice a L cap, .int .i64 lf, .bool dn] 24) = w5 at *
    clear hW5
    have HB1w := Lib.hid (below_trans HB3.out HB5.out)
    have HDB : Hid (∀ W, Below w5.heap.size w5 W → DBox W w.heap.size ⟨rm, fs, lf, dn⟩ a cap) := Lib.hid (fun W hb => ⟨by simp only; rw [← HL.out]; exact HRD3.out.below (below_trans HB5.out hb), by simp only; rw [← HL.out]; exact HXO.out W (below_trans HB1.out (below_trans HB1w.out hb))⟩)
    have HDU : Hid (∀ W, Below w5.heap.size w5 W → DBox W w4.heap.size ⟨rm, fs, lf, dn⟩ a cap) := Lib.hid (fun W hb => ⟨by simp only; rw [← HL.out]; exact HRU.out.below hb, by simp only; rw [← HL.out]; exact HXO.out W (below_trans HB1.out (below_trans HB1w.out hb))⟩)
    have HON : Hid (∀ W, Below w5.heap.size w5 W → Calls Try.prog 38 #[ptr w.heap.size, ptr w2.heap.size] W (FsPost (withF fs ⟨f.nm, f.sy ++ f.tl, noB⟩) W)) := Lib.hid (fun W hb => by have hh := sync1_any W w.heap.size w2.heap.size ⟨rm, fs, lf, dn⟩ a cap f (HDB.out W hb) (HFB.out.below (below_trans HB5.out hb)) HL8.out HFT.out; rw [cr_all] at hh; exact hh)
    have HOF : Hid (∀ W, Below w5.heap.size w5 W → Calls Try.prog 45 #[ptr w4.heap.size] W (FsPost fs W)) := Lib.hid (fun W hb => same1_any W w4.heap.size ⟨rm, fs, lf, dn⟩ a cap (HDU.out W hb) HL8.out)
    have HPR : Hid (syncF ⟨rm, fs, lf, dn⟩ n = exeF ⟨rm, fs, lf, dn⟩ (withF fs ⟨f.nm, f.sy ++ f.tl, noB⟩) fs) := Lib.hid (by unfold syncF; rw [← Hr.out])
    have HEX := Lib.hid (execS_any w5 ⟨rm, fs, lf, dn⟩ a L cap _ _ _ _ HRG.out.left HON.out HOF.out)
    rw [← HPR.out] at HEX
    clear HON HOF HDB HDU HPR
    refine wpAnyH_ready (rs := [4]) (by kernel_rfl) (by simp) ?_
    refine AllReadyH.cons (o := { dst := some 24, op := Go.Op.call { callee := Go.Callee.value (Go.Operand.func 37), args := #[Go.Operand.tmp 20, Go.Operand.tmp 21, Go.Operand.tmp 23], argTypes := #[24, 64, 64] }, type := 29, pos := "disk.go:51", after := #[{ on := 0, ground := Go.Ground.data }, { on := 1, ground := Go.Ground.data }, { on := 3, ground := Go.Ground.data }, { on := 3, ground := Go.Ground.chain }], guard := none }) rfl (fun K hK => ?_) AllReadyH.nil
    go_simp
    refine HEX.out.mono ?_
    rintro e w7 ⟨a7, c7, rfl, hs7, hb7⟩
    have HB7 := Lib.hid (below_trans HB1w.out hb7)
    have HB57 := Lib.hid (below_trans HB5.out hb7)
    have HRR7 := Lib.hid (HRR.out.below HB7.out)
    have HRD7 := Lib.hid (HRD.out.below HB7.out)
    have HS7 := Lib.hid hs7
    clear hb7 hs7
    obtain ⟨r, HRS⟩ : ∃ r, Hid (r = syncF ⟨rm, fs, lf, dn⟩ n) := ⟨_, Lib.hid rfl⟩
    rw [← HRS.out] at HS7 ⊢
    obtain ⟨⟨rr, rf, rl, rd⟩, k⟩ := r
    simp only at HS7 ⊢
    obtain ⟨L7, HL7⟩ : ∃ L, Hid (L = rf.length) := ⟨_, Lib.hid rfl⟩
    rw [← HL7.out] at HS7 ⊢
    have HFIN : Hid (DkP (syncF ⟨rm, fs, lf, dn⟩ n) w (.returned (.tuple #[.agg #[.int .i64 rr, .slice a7 L7 c7, .int .i64 rl, .bool rd], .int .i64 (k : Nat)])) (put4 w7 (w.heap.size + 1) (.int .i64 rr) (.slice a7 L7 c7) (.int .i64 rl) (.bool rd))) := Lib.hid (by rw [← HRS.out]; exact DkP.put (a := a7) (cap := c7) (w7 := w7) (R := w.heap.size + 1) (by simp only; rw [← HL7.out]; exact HS7.out) (below_trans HB1.out HB7.out) (by omega) HRR7.out (by simp only; rw [← HL7.out]) (by simp only; rw [← HL7.out]))
    go_wp2_with fail
    refine hK.out _ _ ?_ (fun hz3 => ?_)
    · exact HS.out _ HB57.out
    clear hK K hz2 
    try simp only [Act.put, List.setIfInBounds_toArray, List.set_cons_zero, List.set_cons_succ]
    refine wpAnyH_take (i := 5) (oi := { dst := some 25, op := Go.Op.extract (Go.Operand.tmp 24) 0, type := 24, pos := "disk.go:51", after := #[{ on := 4, ground := Go.Ground.data }], guard := none }) (v := ?_) rfl (by kernel_rfl) (by kernel_rfl) (by kernel_rfl) (fun _ _ _ h => h) (Or.inl ⟨by rfl, ?_⟩) (by assumption) ?_
    rotate_left
    · (intro w hSw; (try dsimp only at hSw); go_simp) <;> with_reducible rfl
    simp only [Act.put, List.setIfInBounds_toArray, List.set_cons_zero, List.set_cons_succ]
    refine wpAnyH_take (i := 6) (oi := { dst := some 26, op := Go.Op.extract (Go.Operand.tmp 24) 1, type := 28, pos := "disk.go:51", after := #[{ on := 4, ground := Go.Ground.data }], guard := none }) (v := ?_) rfl (by kernel_rfl) (by kernel_rfl) (by kernel_rfl) (fun _ _ _ h => h) (Or.inl ⟨by rfl, ?_⟩) (by assumption) ?_
    rotate_left
    · (intro w hSw; (try dsimp only at hSw); go_simp) <;> with_reducible rfl
    simp only [Act.put, List.setIfInBounds_toArray, List.set_cons_zero, List.set_cons_succ]
    have k0 := HRR7.out.cell (i := 0) rfl
    have k1 := HRR7.out.cell (i := 1) rfl
    have k2 := HRR7.out.cell (i := 2) rfl
    have k3 := HRR7.out.cell (i := 3) rfl
    have tk0 := HRR7.out.thaw 0
    have tk1 := HRR7.out.thaw 1
    have tk2 := HRR7.out.thaw 2
    have tk3 := HRR7.out.thaw 3
    have R9 := put4_row HRR7.out (.int .i64 rr) (.slice a7 L7 c7) (.int .i64 rl) (.bool rd)
    have f0 := R9.cell (i := 0) rfl
    have f1 := R9.cell (i := 1) rfl
    have f2 := R9.cell (i := 2) rfl
    have f3 := R9.cell (i := 3) rfl
    have RD9 := put4_same (a := .int .i64 rr) (b := .slice a7 L7 c7) (c := .int .i64 rl) (d := .bool rd) HRD7.out (show w.heap.size ≠ w.heap.size + 1 by omega)
    have hz9 : (fun W : World => W.cell? ⟨w.heap.size, 0, none⟩ = some (.int .i64 rm) ∧ W.cell? ⟨w.heap.size, 1, none⟩ = some (.slice a L cap) ∧ W.cell? ⟨w.heap.size, 2, none⟩ = some (.int .i64 lf) ∧ W.cell? ⟨w.heap.size, 3, none⟩ = some (.bool dn)) (put4 w7 (w.heap.size + 1) (.int .i64 rr) (.slice a7 L7 c7) (.int .i64 rl) (.bool rd)) := ⟨RD9.cell (i := 0) rfl, RD9.cell (i := 1) rfl, RD9.cell (i := 2) rfl, RD9.cell (i := 3) rfl⟩
    clear R9 RD9 HRS
    refine wpAnyH_ready (rs := [7]) (by kernel_rfl) (by simp) ?_
    refine AllReadyH.cons (o := { dst := none, op := Go.Op.store 24 (Go.Operand.tmp 4) (Go.Operand.tmp 25), type := 0, pos := "disk.go:51", after := #[{ on := 5, ground := Go.Ground.data }, { on := 4, ground := Go.Ground.chain }, { on := 0, ground := Go.Ground.phase }, { on := 1, ground := Go.Ground.phase }, { on := 2, ground := Go.Ground.phase }, { on := 3, ground := Go.Ground.phase }, { on := 4, ground := Go.Ground.phase }, { on := 5, ground := Go.Ground.phase }, { on := 6, ground := Go.Ground.phase }], guard := none }) rfl (fun K hK => ?_) AllReadyH.nil
    go_simp
    refine hK.out _ _ ?_ (fun hz4 => ?_)
    · exact hz9
    clear hK K hz3 
    try simp only [Act.put, List.setIfInBounds_toArray, List.set_cons_zero, List.set_cons_succ]
    refine wpAnyH_take (i := 8) (oi := { dst := some 5, op := Go.Op.assign (Go.Operand.tmp 26), type := 28, pos := "disk.go:51", after := #[{ on := 6, ground := Go.Ground.data }, { on := 7, ground := Go.Ground.chain }, { on := 0, ground := Go.Ground.phase }, { on := 1, ground := Go.Ground.phase }, { on := 2, ground := Go.Ground.phase }, { on := 3, ground := Go.Ground.phase }, { on := 4, ground := Go.Ground.phase }, { on := 5, ground := Go.Ground.phase }, { on := 6, ground := Go.Ground.phase }, { on := 7, ground := Go.Ground.phase }], guard := none }) (v := ?_) rfl (by kernel_rfl) (by kernel_rfl) (by kernel_rfl) (fun _ _ _ h => h) (Or.inl ⟨by rfl, ?_⟩) (by assumption) ?_
    rotate_left
    · (intro w hSw; (try dsimp only at hSw); go_simp) <;> with_reducible rfl
    simp only [Act.put, List.setIfInBounds_toArray, List.set_cons_zero, List.set_cons_succ]
    refine wpAnyH_done (by kernel_rfl) ?_ _
    refine NoPanic.normal ?_
    go_wp2
    exact bodyPost_ret (v := .tuple #[.agg #[.int .i64 rr, .slice a7 L7 c7, .int .i64 rl, .bool rd], .int .i64 (k : Nat)]) (by simp [results, Try.results22, go_sem, f0, f1, f2, f3]) rfl HFIN.out

end Go.Proofs.Ytmhdodiipkkjpaa.Dk
