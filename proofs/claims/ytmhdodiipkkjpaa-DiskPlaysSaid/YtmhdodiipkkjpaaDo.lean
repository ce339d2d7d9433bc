/- Package disk: Write, Sync, Rename, Remove. -/
import Derived.Test.YtmhdodiipkkjpaaDc
namespace Go.Proofs.Ytmhdodiipkkjpaa.Dk
open Go.RowKit

/-- Files stand while a disk is written into a box. -/
theorem slf_one {W W9 : World} {R : Nat} {n' m' : Int} {a' : Option Addr} {l' c' : Nat} {b' : Bool} {v : Value} {xs : List Fil} (h : SlF W (Old W) v xs) (hR : Row W R 24 [.int .i64 n', .slice a' l' c', .int .i64 m', .bool b']) (hb : But R W W9) : SlF W9 (Old W9) v xs :=
  slf_two h hR hR (fun k hk _ => hb.block k hk) hb.size
theorem fsn (w : World) : SlF w (Old w) (.slice none 0 0) [] := Sl.nil _ _ _ _
theorem DkP.zero {r : Dsk × Nat} {k : Nat} (hr : r = (zeroD, k)) {w w' : World} (hb : Below w.heap.size w w') {e : Ending} (he : e = .returned (.tuple #[.agg #[.int .i64 0, .slice none 0 0, .int .i64 0, .bool false], .int .i64 (k : Nat)])) : DkP r w e w' := by
  subst hr he
  exact ⟨none, 0, rfl, fsn _, hb⟩
/-- A result is stored, and answered. -/
theorem DkP.put {r : Dsk × Nat} {w W w7 : World} {R : Nat} {e : Ending} {a : Option Addr} {cap : Nat} (hs : SlF w7 (Old w7) (.slice a r.1.fs.length cap) r.1.fs) (hb : Below w.heap.size w w7) (hRw : w.heap.size ≤ R) {n' m' : Int} {a' : Option Addr} {l' c' : Nat} {b' : Bool} (hR : Row w7 R 24 [.int .i64 n', .slice a' l' c', .int .i64 m', .bool b'])
    (hW : W = put4 w7 R (.int .i64 r.1.room) (.slice a r.1.fs.length cap) (.int .i64 r.1.left) (.bool r.1.down)) (he : e = .returned (.tuple #[diV r.1 (.slice a r.1.fs.length cap), .int .i64 (r.2 : Nat)])) : DkP r w e W := by
  subst hW he
  have hbut := put4_but w7 R (.int .i64 r.1.room) (.slice a r.1.fs.length cap) (.int .i64 r.1.left) (.bool r.1.down)
  exact ⟨a, cap, rfl, slf_one hs hR hbut, hb.trans (hbut.below hRw)⟩


set_option maxHeartbeats 6400000 in
set_option maxRecDepth 100000 in
theorem write_any (w : World) (d : Dsk) (a : Option Addr) (cap : Nat) (n m : BA) (h : DAt w d a cap) (hn : n.size ≤ 140737488351232) (_hm : m.size ≤ 140737488351232) :
    Calls Try.prog 21 #[diV d (.slice a d.fs.length cap), .string n, .string m] w (DkP (writeF d n m) w) := by
  obtain ⟨rm, fs, lf, dn⟩ := d
  have HX := Lib.hid h.fs
  have HFI := Lib.hid (fun W (hb : Below w.heap.size w W) => find_any W ⟨rm, fs, lf, dn⟩ a cap n [] none 0 (h.old hb) hn (SlS.none _ _) (fun s hs => by cases hs))
  simp only [List.length_nil] at HFI
  have HZ := Lib.hid (fun W (hb : Below w.heap.size w W) (h8 : fs.length ≤ 8) => size_any W a cap fs (h.fs.old hb) h8 h.fit)
  obtain ⟨L, HL⟩ : ∃ L, Hid (L = fs.length) := ⟨_, Lib.hid rfl⟩
  simp only at HX HFI ⊢
  have HXO : Hid (∀ W, Below w.heap.size w W → SlF W (Old W) (.slice a L cap) fs) := Lib.hid (fun W hb => by rw [HL.out]; exact HX.out.old hb)
  rw [← HL.out] at HX HFI HZ ⊢
  obtain ⟨W1, HW1⟩ : ∃ W, Hid (W = ((w.alloc (.cells #[.int .i64 rm, .slice a L cap, .int .i64 lf, .bool dn] 24)).alloc (.cells #[.int .i64 0, .slice none 0 0, .int .i64 0, .bool false] 24))) := ⟨_, Lib.hid rfl⟩
  have HB1 : Hid (Below w.heap.size w W1) := Lib.hid (by rw [HW1.out]; exact below2 _ _ _ )
  have HSZ : Hid (W1.heap.size = w.heap.size + 2) := Lib.hid (by rw [HW1.out]; simp)
  have HRD : Hid (Row W1 w.heap.size 24 [.int .i64 rm, .slice a L cap, .int .i64 lf, .bool dn]) := Lib.hid (by rw [HW1.out]; exact (row_new w #[.int .i64 rm, .slice a L cap, .int .i64 lf, .bool dn] _).alloc _)
  have HRR : Hid (Row W1 (w.heap.size + 1) 24 [.int .i64 0, .slice none 0 0, .int .i64 0, .bool false]) := Lib.hid (by
    rw [HW1.out]
    have h := row_new (w.alloc (.cells #[.int .i64 rm, .slice a L cap, .int .i64 lf, .bool dn] 24)) #[.int .i64 0, .slice none 0 0, .int .i64 0, .bool false] 24
    simp only [World.size_alloc] at h
    exact h)
  clear h
  obtain ⟨r, Hr⟩ : ∃ r, Hid (r = findE ⟨rm, fs, lf, dn⟩ [n] n) := ⟨_, Lib.hid rfl⟩
  rw [← Hr.out] at HFI
  have r0 := HRD.out.cell (i := 0) rfl
  have r1 := HRD.out.cell (i := 1) rfl
  have r2 := HRD.out.cell (i := 2) rfl
  have r3 := HRD.out.cell (i := 3) rfl
  rw [HW1.out] at r0 r1 r2 r3
  cases r with
  | ok f =>
    obtain ⟨hg1, hg2, hg3, hg4⟩ := findE_ok Hr.out.symm
    have HRG := Lib.hid hg1
    have HFS : Hid (f.tl.size ≤ 1048576) := Lib.hid (by have := (hg1.fit (findF_is hg4).1).2; omega)
    clear hg1 hg2 hg3 hg4
    go_enter Try.func21, Try.ntmps21
    go_wp2_with fail
    rw [← HW1.out]
    refine (HFI.out W1 HB1.out).mono ?_
    rintro e w2 ⟨rfl, hb2⟩
    simp only [finV]
    have HB2 := Lib.hid hb2
    clear hb2 r0 r1 r2 r3 HW1
    obtain ⟨xn, xs, xt⟩ := f
    simp only at HFS
    have HB3 := Lib.hid (below_trans HB2.out (below1 w2 (.cells (fiC ⟨xn, xs, xt⟩) 44)))
    have HFB : Hid (RowF (w2.alloc (.cells (fiC ⟨xn, xs, xt⟩) 44)) w2.heap.size ⟨xn, xs, xt⟩) := Lib.hid (row_new w2 (fiC ⟨xn, xs, xt⟩) _)
    go_wp2
    generalize hW3 : w2.alloc (.cells (fiC ⟨xn, xs, xt⟩) 44) = W3 at *
    clear hW3
    have HPF : Hid (writeF ⟨rm, fs, lf, dn⟩ n m = putF ⟨rm, fs, lf, dn⟩ ⟨xn, xs, xt⟩ m) := Lib.hid (by unfold writeF; rw [← Hr.out])
    have hsz8 := HRG.out.fs.len
    have hszt := HRG.out.sz
    have hrh := HRG.out.hi
    have hrl := HRG.out.lo
    simp only at hsz8 hszt hrh hrl
    have HDB := Lib.hid (HRD.out.below HB3.out)
    have HSD : Hid (∀ W, Below W3.heap.size W3 W → W.cell? ⟨w.heap.size, 0, none⟩ = some (.int .i64 rm) ∧ W.cell? ⟨w.heap.size, 1, none⟩ = some (.slice a L cap)) := Lib.hid (fun W hb => ⟨(HDB.out.below hb).cell (i := 0) rfl, (HDB.out.below hb).cell (i := 1) rfl⟩)
    have HDR := Lib.hid (Below.refl W3.heap.size W3).drew
    have hs0 := HSD.out _ HDR.out
    obtain ⟨sz, Hsz⟩ : ∃ s, Hid (s = sizF fs) := ⟨_, Lib.hid rfl⟩
    have HZ8 := Lib.hid (fun W hb => HZ.out W hb (by have := HL.out; omega))
    rw [← Hsz.out] at HZ8
    have hsz0 : (sz : Int) ≤ rm := by rw [Hsz.out]; exact hszt
    have q1 : IntKind.i64.wrap (rm - (sz : Int)) = rm - (sz : Int) := IntWalk.i64_in _ (by omega)
    clear hsz8 hszt
    refine wp_region_noPanic ?_
    refine wp_region_held_drew (S := fun W => W.cell? ⟨w.heap.size, 0, none⟩ = some (.int .i64 rm) ∧ W.cell? ⟨w.heap.size, 1, none⟩ = some (.slice a L cap)) (by kernel_rfl) hs0 (fun hHeld => ?_)
    clear hs0
    generalize hW4 : W3.drew = w4 at *
    clear hW4
    refine wpAnyH_take (i := 0) (oi := { dst := some 37, op := Go.Op.move (Go.Operand.tmp 2), type := 9, pos := "disk.go:35", after := #[], guard := none }) (v := ?_) rfl (by kernel_rfl) (by kernel_rfl) (by kernel_rfl) (fun _ _ _ h => h) (Or.inl ⟨by rfl, ?_⟩) (by assumption) ?_
    rotate_left
    · (intro w hSw; (try dsimp only at hSw); go_simp) <;> with_reducible rfl
    simp only [Act.put, List.setIfInBounds_toArray, List.set_cons_zero, List.set_cons_succ]
    refine wpAnyH_take (i := 1) (oi := { dst := some 38, op := Go.Op.call { callee := Go.Callee.builtin Go.Builtin.len, args := #[Go.Operand.tmp 37], argTypes := #[9] }, type := 3, pos := "disk.go:35", after := #[{ on := 0, ground := Go.Ground.data }], guard := none }) (v := ?_) rfl (by kernel_rfl) (by kernel_rfl) (by kernel_rfl) (fun _ _ _ h => h) (Or.inl ⟨by rfl, ?_⟩) (by assumption) ?_
    rotate_left
    · (intro w hSw; (try dsimp only at hSw); go_simp) <;> with_reducible rfl
    simp only [Act.put, List.setIfInBounds_toArray, List.set_cons_zero, List.set_cons_succ]
    refine wpAnyH_take (i := 2) (oi := { dst := some 39, op := Go.Op.fieldAddr 24 (Go.Operand.tmp 3) 0, type := 0, pos := "disk.go:35", after := #[], guard := none }) (v := ?_) rfl (by kernel_rfl) (by kernel_rfl) (by kernel_rfl) (fun _ _ _ h => h) (Or.inl ⟨by rfl, ?_⟩) (by assumption) ?_
    rotate_left
    · (intro w hSw; (try dsimp only at hSw); go_simp) <;> with_reducible rfl
    simp only [Act.put, List.setIfInBounds_toArray, List.set_cons_zero, List.set_cons_succ]
    refine wpAnyH_take (i := 3) (oi := { dst := some 40, op := Go.Op.load 3 (Go.Operand.tmp 39), type := 3, pos := "disk.go:35", after := #[{ on := 2, ground := Go.Ground.data }], guard := none }) (v := ?_) rfl (by kernel_rfl) (by kernel_rfl) (by kernel_rfl) (fun _ _ _ h => h) (Or.inl ⟨by rfl, ?_⟩) (by assumption) ?_
    rotate_left
    · (intro w hSw; (try dsimp only at hSw); go_simp) <;> with_reducible rfl
    simp only [Act.put, List.setIfInBounds_toArray, List.set_cons_zero, List.set_cons_succ]
    refine wpAnyH_take (i := 4) (oi := { dst := some 41, op := Go.Op.fieldAddr 24 (Go.Operand.tmp 3) 1, type := 0, pos := "disk.go:35", after := #[], guard := none }) (v := ?_) rfl (by kernel_rfl) (by kernel_rfl) (by kernel_rfl) (fun _ _ _ h => h) (Or.inl ⟨by rfl, ?_⟩) (by assumption) ?_
    rotate_left
    · (intro w hSw; (try dsimp only at hSw); go_simp) <;> with_reducible rfl
    simp only [Act.put, List.setIfInBounds_toArray, List.set_cons_zero, List.set_cons_succ]
    refine wpAnyH_take (i := 5) (oi := { dst := some 42, op := Go.Op.load 22 (Go.Operand.tmp 41), type := 22, pos := "disk.go:35", after := #[{ on := 4, ground := Go.Ground.data }], guard := none }) (v := ?_) rfl (by kernel_rfl) (by kernel_rfl) (by kernel_rfl) (fun _ _ _ h => h) (Or.inl ⟨by rfl, ?_⟩) (by assumption) ?_
    rotate_left
    · (intro w hSw; (try dsimp only at hSw); go_simp) <;> with_reducible rfl
    simp only [Act.put, List.setIfInBounds_toArray, List.set_cons_zero, List.set_cons_succ]
    refine wpAnyH_ready (rs := [6]) (by kernel_rfl) (by simp) ?_
    refine AllReadyH.cons (o := { dst := some 43, op := Go.Op.call { callee := Go.Callee.value (Go.Operand.func 34), args := #[Go.Operand.tmp 42], argTypes := #[22] }, type := 3, pos := "disk.go:35", after := #[{ on := 5, ground := Go.Ground.data }], guard := none }) rfl (fun K hK => ?_) AllReadyH.nil
    go_simp
    refine (HZ8.out w4 (below_trans HB1.out (below_trans HB3.out HDR.out))).mono ?_
    rintro e w5 ⟨rfl, hb5⟩
    have HB5 := Lib.hid (below_trans HDR.out hb5)
    clear hb5
    go_wp2_with fail
    refine hK.out _ _ ?_ (fun hz2 => ?_)
    · exact HSD.out _ HB5.out
    clear hK K hHeld 
    try simp only [Act.put, List.setIfInBounds_toArray, List.set_cons_zero, List.set_cons_succ]
    have HBX := Lib.hid (below_trans HB3.out HB5.out)
    refine wpAnyH_take (i := 7) (oi := { dst := some 44, op := Go.Op.binOp Go.BinOp.sub 3 (Go.Operand.tmp 40) (Go.Operand.tmp 43) 3, type := 3, pos := "disk.go:35", after := #[{ on := 3, ground := Go.Ground.data }, { on := 6, ground := Go.Ground.data }], guard := none }) (v := ?_) rfl (by kernel_rfl) (by kernel_rfl) (by kernel_rfl) (fun _ _ _ h => h) (Or.inl ⟨by rfl, ?_⟩) (by assumption) ?_
    rotate_left
    · (intro w hSw; (try dsimp only at hSw); go_simp) <;> with_reducible rfl
    simp only [Act.put, List.setIfInBounds_toArray, List.set_cons_zero, List.set_cons_succ]
    by_cases hlong : rm - (sz : Int) < (m.size : Int)
    · have u8 : decide (rm - (sz : Int) < (m.size : Int)) = true := decide_eq_true hlong
      refine wpAnyH_take (i := 8) (oi := { dst := some 45, op := Go.Op.binOp Go.BinOp.gtr 3 (Go.Operand.tmp 38) (Go.Operand.tmp 44) 3, type := 4, pos := "disk.go:35", after := #[{ on := 1, ground := Go.Ground.data }, { on := 7, ground := Go.Ground.data }], guard := none }) (v := ?_) rfl (by kernel_rfl) (by kernel_rfl) (by kernel_rfl) (fun _ _ _ h => h) (Or.inl ⟨by rfl, ?_⟩) (by assumption) ?_
      rotate_left
      · (intro w hSw; (try dsimp only at hSw); go_simp) <;> with_reducible rfl
      simp only [Act.put, List.setIfInBounds_toArray, List.set_cons_zero, List.set_cons_succ]
      refine wpAnyH_done (by kernel_rfl) ?_ _
      refine NoPanic.normal ?_
      have HE : Hid (writeF ⟨rm, fs, lf, dn⟩ n m = (zeroD, 130)) := Lib.hid (by rw [HPF.out]; unfold putF; rw [if_pos (by rw [← Hsz.out]; exact hlong)])
      have HRr := Lib.hid (HRR.out.below HBX.out)
      have k0 := HRr.out.cell (i := 0) rfl
      have k1 := HRr.out.cell (i := 1) rfl
      have k2 := HRr.out.cell (i := 2) rfl
      have k3 := HRr.out.cell (i := 3) rfl
      have tk0 := HRr.out.thaw 0
      have tk1 := HRr.out.thaw 1
      have tk2 := HRr.out.thaw 2
      have tk3 := HRr.out.thaw 3
      have R9 := put4_row HRr.out (.int .i64 0) (.slice none 0 0) (.int .i64 0) (.bool false)
      have f0 := R9.cell (i := 0) rfl
      have f1 := R9.cell (i := 1) rfl
      have f2 := R9.cell (i := 2) rfl
      have f3 := R9.cell (i := 3) rfl
      have HFIN : Hid (DkP (writeF ⟨rm, fs, lf, dn⟩ n m) w (.returned (.tuple #[.agg #[.int .i64 0, .slice none 0 0, .int .i64 0, .bool false], .int .i64 130])) (put4 w5 (w.heap.size + 1) (.int .i64 0) (.slice none 0 0) (.int .i64 0) (.bool false))) := Lib.hid (DkP.zero HE.out ((below_trans HB1.out HBX.out).trans ((put4_but w5 (w.heap.size + 1) (.int .i64 0) (.slice none 0 0) (.int .i64 0) (.bool false)).below (by omega))) rfl)
      clear R9
      go_wp2
      exact bodyPost_ret (v := .tuple #[.agg #[.int .i64 0, .slice none 0 0, .int .i64 0, .bool false], .int .i64 130]) (by simp [results, Try.results21, go_sem, f0, f1, f2, f3]) rfl HFIN.out
    · have u8 : decide (rm - (sz : Int) < (m.size : Int)) = false := decide_eq_false hlong
      refine wpAnyH_take (i := 8) (oi := { dst := some 45, op := Go.Op.binOp Go.BinOp.gtr 3 (Go.Operand.tmp 38) (Go.Operand.tmp 44) 3, type := 4, pos := "disk.go:35", after := #[{ on := 1, ground := Go.Ground.data }, { on := 7, ground := Go.Ground.data }], guard := none }) (v := ?_) rfl (by kernel_rfl) (by kernel_rfl) (by kernel_rfl) (fun _ _ _ h => h) (Or.inl ⟨by rfl, ?_⟩) (by assumption) ?_
      rotate_left
      · (intro w hSw; (try dsimp only at hSw); go_simp) <;> with_reducible rfl
      simp only [Act.put, List.setIfInBounds_toArray, List.set_cons_zero, List.set_cons_succ]
      refine wpAnyH_done (by kernel_rfl) ?_ _
      refine NoPanic.normal ?_
      have hfits : (sz : Int) + (m.size : Int) ≤ 1048576 := by omega
      have HFB5 := Lib.hid (HFB.out.below HB5.out)
      have HFF : Hid (3 + w.heap.size ≤ 3 + W3.heap.size ∧ W1.heap.size ≤ w2.heap.size) := Lib.hid ⟨by have h1 := HB1.out.size; have h2 := HB3.out.size; omega, HB2.out.size⟩
      have g0 := HFB5.out.cell (i := 0) rfl
      have g1 := HFB5.out.cell (i := 1) rfl
      have g2 := HFB5.out.cell (i := 2) rfl
      have tg2 := HFB5.out.thaw 2
      have q2 : ¬ (9223372036854775807 < xt.size + m.size) := by have := HFS.out; omega
      have HBT := Lib.hid ((But.refl w2.heap.size w5).set 2 (.string (xt ++ m)))
      have HFB6 := Lib.hid (HFB5.out.set 2 (.string (xt ++ m)))
      have HB6 : Hid (Below W1.heap.size W1 (w5.setCell ⟨w2.heap.size, 2, none⟩ (.string (xt ++ m)))) := Lib.hid (HBX.out.trans (HBT.out.below (by have := HB2.out.size; omega)))
      have HRD5 := Lib.hid (HRD.out.below HBX.out)
      have HRD6 := Lib.hid (HRD.out.below HB6.out)
      have r0 := HRD6.out.cell (i := 0) rfl
      have r1 := HRD6.out.cell (i := 1) rfl
      have r2 := HRD6.out.cell (i := 2) rfl
      have r3 := HRD6.out.cell (i := 3) rfl
      have HEX : Hid (∀ W6, W6 = w5.setCell ⟨w2.heap.size, 2, none⟩ (.string (xt ++ m)) → Calls Try.prog 37 #[.agg #[.int .i64 rm, .slice a L cap, .int .i64 lf, .bool dn], .func (.func 35) #[] #[ptr w.heap.size, ptr w2.heap.size], .func (.func 35) #[] #[ptr w.heap.size, ptr w2.heap.size]] W6 (DkP (exeF ⟨rm, fs, lf, dn⟩ (withF fs ⟨xn, xs, xt ++ m⟩) (withF fs ⟨xn, xs, xt ++ m⟩)) W6)) := Lib.hid (fun W6 hW6 => by
        subst hW6
        have hc : ∀ W, Below (w5.setCell ⟨w2.heap.size, 2, none⟩ (.string (xt ++ m))).heap.size (w5.setCell ⟨w2.heap.size, 2, none⟩ (.string (xt ++ m))) W → Calls Try.prog 35 #[ptr w.heap.size, ptr w2.heap.size] W (FsPost (withF fs ⟨xn, xs, xt ++ m⟩) W) := fun W hb =>
          write1_any W w.heap.size w2.heap.size ⟨rm, fs, lf, dn⟩ a cap ⟨xn, xs, xt ++ m⟩ ⟨by simp only; rw [← HL.out]; exact HRD6.out.below hb, by simp only; rw [← HL.out]; exact HXO.out W (below_trans HB1.out (below_trans HB6.out hb))⟩ (HFB6.out.below hb) (by have := HRG.out.fs.len; simp only at *; omega)
        exact execW_any _ ⟨rm, fs, lf, dn⟩ a L cap _ _ _ _ HRG.out.left hc hc)
      have HPR : Hid (writeF ⟨rm, fs, lf, dn⟩ n m = exeF ⟨rm, fs, lf, dn⟩ (withF fs ⟨xn, xs, xt ++ m⟩) (withF fs ⟨xn, xs, xt ++ m⟩)) := Lib.hid (by rw [HPF.out]; unfold putF; rw [if_neg (by simp only; rw [← Hsz.out]; exact hlong)])
      clear hlong u8 q1 hsz0
      go_wp2_with fail
      generalize hW6 : w5.setCell ⟨w2.heap.size, 2, none⟩ (.string (xt ++ m)) = W6 at *
      have HEX2 := Lib.hid (HEX.out W6 rfl)
      rw [← HPR.out] at HEX2
      clear hW6 HEX HPR r0 r1 r2 r3 g0 g1 g2 tg2 HBT
      refine HEX2.out.mono ?_
      rintro e w7 ⟨a7, c7, rfl, hs7, hb7⟩
      have HB7 := Lib.hid (below_trans HB6.out hb7)
      have HRR7 := Lib.hid (HRR.out.below HB7.out)
      have HS7 := Lib.hid hs7
      clear hb7 hs7 HB6
      obtain ⟨r, HRS⟩ : ∃ r, Hid (r = writeF ⟨rm, fs, lf, dn⟩ n m) := ⟨_, Lib.hid rfl⟩
      rw [← HRS.out] at HS7 ⊢
      obtain ⟨⟨rr, rf, rl, rd⟩, k⟩ := r
      simp only at HS7 ⊢
      obtain ⟨L7, HL7⟩ : ∃ L, Hid (L = rf.length) := ⟨_, Lib.hid rfl⟩
      rw [← HL7.out] at HS7 ⊢
      have HFIN : Hid (DkP (writeF ⟨rm, fs, lf, dn⟩ n m) w (.returned (.tuple #[.agg #[.int .i64 rr, .slice a7 L7 c7, .int .i64 rl, .bool rd], .int .i64 (k : Nat)])) (put4 w7 (w.heap.size + 1) (.int .i64 rr) (.slice a7 L7 c7) (.int .i64 rl) (.bool rd))) := Lib.hid (by rw [← HRS.out]; exact DkP.put (a := a7) (cap := c7) (w7 := w7) (R := w.heap.size + 1) (by simp only; rw [← HL7.out]; exact HS7.out) (below_trans HB1.out HB7.out) (by omega) HRR7.out (by simp only; rw [← HL7.out]) (by simp only; rw [← HL7.out]))
      have k0 := HRR7.out.cell (i := 0) rfl
      have k1 := HRR7.out.cell (i := 1) rfl
      have k2 := HRR7.out.cell (i := 2) rfl
      have k3 := HRR7.out.cell (i := 3) rfl
      have tk0 := HRR7.out.thaw 0
      have tk1 := HRR7.out.thaw 1
      have tk2 := HRR7.out.thaw 2
      have tk3 := HRR7.out.thaw 3
      have R9 := put4_row HRR7.out (.int .i64 rr) (.slice a7 L7 c7) (.int .i64 rl) (.bool rd)
      have f0 := R9.cell (i := 0) rfl
      have f1 := R9.cell (i := 1) rfl
      have f2 := R9.cell (i := 2) rfl
      have f3 := R9.cell (i := 3) rfl
      clear R9 HRS
      go_wp2
      exact bodyPost_ret (v := .tuple #[.agg #[.int .i64 rr, .slice a7 L7 c7, .int .i64 rl, .bool rd], .int .i64 (k : Nat)]) (by simp [results, Try.results21, go_sem, f0, f1, f2, f3]) rfl HFIN.out
  | error k =>
    have HER := Lib.hid (findE_err Hr.out.symm)
    by_cases hk : k = 60
    · subst hk
      have HRG : Hid (RgtD ⟨rm, fs, lf, dn⟩) := Lib.hid (by
        rcases HER.out with ⟨h, -⟩ | ⟨h, -⟩ | ⟨-, h, -⟩
        · cases h
        · cases h
        · exact h)
      by_cases h8 : L < 8
      · have u0 : decide ((L : Int) < 8) = true := decide_eq_true (by omega)
        go_enter Try.func21, Try.ntmps21
        go_wp2_with fail
        rw [← HW1.out]
        refine (HFI.out W1 HB1.out).mono ?_
        rintro e w2 ⟨rfl, hb2⟩
        simp only [finV]
        have HB2 := Lib.hid hb2
        clear hb2 r0 r1 r2 r3 HW1
        have c1 := ((HRD.out.below HB2.out).alloc (.cells (fiC noF) 44)).cell (i := 1) rfl
        have HB3 := Lib.hid (below_trans HB2.out (below1 w2 (.cells (fiC ⟨n, ⟨#[]⟩, ⟨#[]⟩⟩) 44)))
        have HFB : Hid (RowF (w2.alloc (.cells (fiC ⟨n, ⟨#[]⟩, ⟨#[]⟩⟩) 44)) w2.heap.size ⟨n, ⟨#[]⟩, ⟨#[]⟩⟩) := Lib.hid (row_new w2 (fiC ⟨n, ⟨#[]⟩, ⟨#[]⟩⟩) _)
        go_wp2
        generalize hW3 : w2.alloc (.cells (fiC ⟨n, ⟨#[]⟩, ⟨#[]⟩⟩) 44) = W3 at *
        clear hW3 c1
        have HPF : Hid (writeF ⟨rm, fs, lf, dn⟩ n m = putF ⟨rm, fs, lf, dn⟩ ⟨n, ⟨#[]⟩, ⟨#[]⟩⟩ m) := Lib.hid (by unfold writeF; rw [← Hr.out]; simp only; rw [if_pos ⟨trivial, by rw [← HL.out]; exact h8⟩])
        have hsz8 := HRG.out.fs.len
        have hszt := HRG.out.sz
        have hrh := HRG.out.hi
        have hrl := HRG.out.lo
        simp only at hsz8 hszt hrh hrl
        have HDB := Lib.hid (HRD.out.below HB3.out)
        have HSD : Hid (∀ W, Below W3.heap.size W3 W → W.cell? ⟨w.heap.size, 0, none⟩ = some (.int .i64 rm) ∧ W.cell? ⟨w.heap.size, 1, none⟩ = some (.slice a L cap)) := Lib.hid (fun W hb => ⟨(HDB.out.below hb).cell (i := 0) rfl, (HDB.out.below hb).cell (i := 1) rfl⟩)
        have HDR := Lib.hid (Below.refl W3.heap.size W3).drew
        have hs0 := HSD.out _ HDR.out
        obtain ⟨sz, Hsz⟩ : ∃ s, Hid (s = sizF fs) := ⟨_, Lib.hid rfl⟩
        have HZ8 := Lib.hid (fun W hb => HZ.out W hb (by have := HL.out; omega))
        rw [← Hsz.out] at HZ8
        have hsz0 : (sz : Int) ≤ rm := by rw [Hsz.out]; exact hszt
        have q1 : IntKind.i64.wrap (rm - (sz : Int)) = rm - (sz : Int) := IntWalk.i64_in _ (by omega)
        clear hsz8 hszt
        refine wp_region_noPanic ?_
        refine wp_region_held_drew (S := fun W => W.cell? ⟨w.heap.size, 0, none⟩ = some (.int .i64 rm) ∧ W.cell? ⟨w.heap.size, 1, none⟩ = some (.slice a L cap)) (by kernel_rfl) hs0 (fun hHeld => ?_)
        clear hs0
        generalize hW4 : W3.drew = w4 at *
        clear hW4
        refine wpAnyH_take (i := 0) (oi := { dst := some 37, op := Go.Op.move (Go.Operand.tmp 2), type := 9, pos := "disk.go:35", after := #[], guard := none }) (v := ?_) rfl (by kernel_rfl) (by kernel_rfl) (by kernel_rfl) (fun _ _ _ h => h) (Or.inl ⟨by rfl, ?_⟩) (by assumption) ?_
        rotate_left
        · (intro w hSw; (try dsimp only at hSw); go_simp) <;> with_reducible rfl
        simp only [Act.put, List.setIfInBounds_toArray, List.set_cons_zero, List.set_cons_succ]
        refine wpAnyH_take (i := 1) (oi := { dst := some 38, op := Go.Op.call { callee := Go.Callee.builtin Go.Builtin.len, args := #[Go.Operand.tmp 37], argTypes := #[9] }, type := 3, pos := "disk.go:35", after := #[{ on := 0, ground := Go.Ground.data }], guard := none }) (v := ?_) rfl (by kernel_rfl) (by kernel_rfl) (by kernel_rfl) (fun _ _ _ h => h) (Or.inl ⟨by rfl, ?_⟩) (by assumption) ?_
        rotate_left
        · (intro w hSw; (try dsimp only at hSw); go_simp) <;> with_reducible rfl
        simp only [Act.put, List.setIfInBounds_toArray, List.set_cons_zero, List.set_cons_succ]
        refine wpAnyH_take (i := 2) (oi := { dst := some 39, op := Go.Op.fieldAddr 24 (Go.Operand.tmp 3) 0, type := 0, pos := "disk.go:35", after := #[], guard := none }) (v := ?_) rfl (by kernel_rfl) (by kernel_rfl) (by kernel_rfl) (fun _ _ _ h => h) (Or.inl ⟨by rfl, ?_⟩) (by assumption) ?_
        rotate_left
        · (intro w hSw; (try dsimp only at hSw); go_simp) <;> with_reducible rfl
        simp only [Act.put, List.setIfInBounds_toArray, List.set_cons_zero, List.set_cons_succ]
        refine wpAnyH_take (i := 3) (oi := { dst := some 40, op := Go.Op.load 3 (Go.Operand.tmp 39), type := 3, pos := "disk.go:35", after := #[{ on := 2, ground := Go.Ground.data }], guard := none }) (v := ?_) rfl (by kernel_rfl) (by kernel_rfl) (by kernel_rfl) (fun _ _ _ h => h) (Or.inl ⟨by rfl, ?_⟩) (by assumption) ?_
        rotate_left
        · (intro w hSw; (try dsimp only at hSw); go_simp) <;> with_reducible rfl
        simp only [Act.put, List.setIfInBounds_toArray, List.set_cons_zero, List.set_cons_succ]
        refine wpAnyH_take (i := 4) (oi := { dst := some 41, op := Go.Op.fieldAddr 24 (Go.Operand.tmp 3) 1, type := 0, pos := "disk.go:35", after := #[], guard := none }) (v := ?_) rfl (by kernel_rfl) (by kernel_rfl) (by kernel_rfl) (fun _ _ _ h => h) (Or.inl ⟨by rfl, ?_⟩) (by assumption) ?_
        rotate_left
        · (intro w hSw; (try dsimp only at hSw); go_simp) <;> with_reducible rfl
        simp only [Act.put, List.setIfInBounds_toArray, List.set_cons_zero, List.set_cons_succ]
        refine wpAnyH_take (i := 5) (oi := { dst := some 42, op := Go.Op.load 22 (Go.Operand.tmp 41), type := 22, pos := "disk.go:35", after := #[{ on := 4, ground := Go.Ground.data }], guard := none }) (v := ?_) rfl (by kernel_rfl) (by kernel_rfl) (by kernel_rfl) (fun _ _ _ h => h) (Or.inl ⟨by rfl, ?_⟩) (by assumption) ?_
        rotate_left
        · (intro w hSw; (try dsimp only at hSw); go_simp) <;> with_reducible rfl
        simp only [Act.put, List.setIfInBounds_toArray, List.set_cons_zero, List.set_cons_succ]
        refine wpAnyH_ready (rs := [6]) (by kernel_rfl) (by simp) ?_
        refine AllReadyH.cons (o := { dst := some 43, op := Go.Op.call { callee := Go.Callee.value (Go.Operand.func 34), args := #[Go.Operand.tmp 42], argTypes := #[22] }, type := 3, pos := "disk.go:35", after := #[{ on := 5, ground := Go.Ground.data }], guard := none }) rfl (fun K hK => ?_) AllReadyH.nil
        go_simp
        refine (HZ8.out w4 (below_trans HB1.out (below_trans HB3.out HDR.out))).mono ?_
        rintro e w5 ⟨rfl, hb5⟩
        have HB5 := Lib.hid (below_trans HDR.out hb5)
        clear hb5
        go_wp2_with fail
        refine hK.out _ _ ?_ (fun hz2 => ?_)
        · exact HSD.out _ HB5.out
        clear hK K hHeld 
        try simp only [Act.put, List.setIfInBounds_toArray, List.set_cons_zero, List.set_cons_succ]
        have HBX := Lib.hid (below_trans HB3.out HB5.out)
        refine wpAnyH_take (i := 7) (oi := { dst := some 44, op := Go.Op.binOp Go.BinOp.sub 3 (Go.Operand.tmp 40) (Go.Operand.tmp 43) 3, type := 3, pos := "disk.go:35", after := #[{ on := 3, ground := Go.Ground.data }, { on := 6, ground := Go.Ground.data }], guard := none }) (v := ?_) rfl (by kernel_rfl) (by kernel_rfl) (by kernel_rfl) (fun _ _ _ h => h) (Or.inl ⟨by rfl, ?_⟩) (by assumption) ?_
        rotate_left
        · (intro w hSw; (try dsimp only at hSw); go_simp) <;> with_reducible rfl
        simp only [Act.put, List.setIfInBounds_toArray, List.set_cons_zero, List.set_cons_succ]
        by_cases hlong : rm - (sz : Int) < (m.size : Int)
        · have u8 : decide (rm - (sz : Int) < (m.size : Int)) = true := decide_eq_true hlong
          refine wpAnyH_take (i := 8) (oi := { dst := some 45, op := Go.Op.binOp Go.BinOp.gtr 3 (Go.Operand.tmp 38) (Go.Operand.tmp 44) 3, type := 4, pos := "disk.go:35", after := #[{ on := 1, ground := Go.Ground.data }, { on := 7, ground := Go.Ground.data }], guard := none }) (v := ?_) rfl (by kernel_rfl) (by kernel_rfl) (by kernel_rfl) (fun _ _ _ h => h) (Or.inl ⟨by rfl, ?_⟩) (by assumption) ?_
          rotate_left
          · (intro w hSw; (try dsimp only at hSw); go_simp) <;> with_reducible rfl
          simp only [Act.put, List.setIfInBounds_toArray, List.set_cons_zero, List.set_cons_succ]
          refine wpAnyH_done (by kernel_rfl) ?_ _
          refine NoPanic.normal ?_
          have HE : Hid (writeF ⟨rm, fs, lf, dn⟩ n m = (zeroD, 130)) := Lib.hid (by rw [HPF.out]; unfold putF; rw [if_pos (by rw [← Hsz.out]; exact hlong)])
          have HRr := Lib.hid (HRR.out.below HBX.out)
          have k0 := HRr.out.cell (i := 0) rfl
          have k1 := HRr.out.cell (i := 1) rfl
          have k2 := HRr.out.cell (i := 2) rfl
          have k3 := HRr.out.cell (i := 3) rfl
          have tk0 := HRr.out.thaw 0
          have tk1 := HRr.out.thaw 1
          have tk2 := HRr.out.thaw 2
          have tk3 := HRr.out.thaw 3
          have R9 := put4_row HRr.out (.int .i64 0) (.slice none 0 0) (.int .i64 0) (.bool false)
          have f0 := R9.cell (i := 0) rfl
          have f1 := R9.cell (i := 1) rfl
          have f2 := R9.cell (i := 2) rfl
          have f3 := R9.cell (i := 3) rfl
          have HFIN : Hid (DkP (writeF ⟨rm, fs, lf, dn⟩ n m) w (.returned (.tuple #[.agg #[.int .i64 0, .slice none 0 0, .int .i64 0, .bool false], .int .i64 130])) (put4 w5 (w.heap.size + 1) (.int .i64 0) (.slice none 0 0) (.int .i64 0) (.bool false))) := Lib.hid (DkP.zero HE.out ((below_trans HB1.out HBX.out).trans ((put4_but w5 (w.heap.size + 1) (.int .i64 0) (.slice none 0 0) (.int .i64 0) (.bool false)).below (by omega))) rfl)
          clear R9
          go_wp2
          exact bodyPost_ret (v := .tuple #[.agg #[.int .i64 0, .slice none 0 0, .int .i64 0, .bool false], .int .i64 130]) (by simp [results, Try.results21, go_sem, f0, f1, f2, f3]) rfl HFIN.out
        · have u8 : decide (rm - (sz : Int) < (m.size : Int)) = false := decide_eq_false hlong
          refine wpAnyH_take (i := 8) (oi := { dst := some 45, op := Go.Op.binOp Go.BinOp.gtr 3 (Go.Operand.tmp 38) (Go.Operand.tmp 44) 3, type := 4, pos := "disk.go:35", after := #[{ on := 1, ground := Go.Ground.data }, { on := 7, ground := Go.Ground.data }], guard := none }) (v := ?_) rfl (by kernel_rfl) (by kernel_rfl) (by kernel_rfl) (fun _ _ _ h => h) (Or.inl ⟨by rfl, ?_⟩) (by assumption) ?_
          rotate_left
          · (intro w hSw; (try dsimp only at hSw); go_simp) <;> with_reducible rfl
          simp only [Act.put, List.setIfInBounds_toArray, List.set_cons_zero, List.set_cons_succ]
          refine wpAnyH_done (by kernel_rfl) ?_ _
          refine NoPanic.normal ?_
          have hfits : (sz : Int) + (m.size : Int) ≤ 1048576 := by omega
          have HFB5 := Lib.hid (HFB.out.below HB5.out)
          have HFF : Hid (3 + w.heap.size ≤ 3 + W3.heap.size ∧ W1.heap.size ≤ w2.heap.size) := Lib.hid ⟨by have h1 := HB1.out.size; have h2 := HB3.out.size; omega, HB2.out.size⟩
          have g0 := HFB5.out.cell (i := 0) rfl
          have g1 := HFB5.out.cell (i := 1) rfl
          have g2 := HFB5.out.cell (i := 2) rfl
          have tg2 := HFB5.out.thaw 2
          have q2 : ¬ (9223372036854775807 < (⟨#[]⟩ : BA).size + m.size) := by have : (⟨#[]⟩ : BA).size = 0 := rfl; omega
          have HBT := Lib.hid ((But.refl w2.heap.size w5).set 2 (.string ((⟨#[]⟩ : BA) ++ m)))
          have HFB6 := Lib.hid (HFB5.out.set 2 (.string ((⟨#[]⟩ : BA) ++ m)))
          have HB6 : Hid (Below W1.heap.size W1 (w5.setCell ⟨w2.heap.size, 2, none⟩ (.string ((⟨#[]⟩ : BA) ++ m)))) := Lib.hid (HBX.out.trans (HBT.out.below (by have := HB2.out.size; omega)))
          have HRD5 := Lib.hid (HRD.out.below HBX.out)
          have HRD6 := Lib.hid (HRD.out.below HB6.out)
          have r0 := HRD6.out.cell (i := 0) rfl
          have r1 := HRD6.out.cell (i := 1) rfl
          have r2 := HRD6.out.cell (i := 2) rfl
          have r3 := HRD6.out.cell (i := 3) rfl
          have HEX : Hid (∀ W6, W6 = w5.setCell ⟨w2.heap.size, 2, none⟩ (.string ((⟨#[]⟩ : BA) ++ m)) → Calls Try.prog 37 #[.agg #[.int .i64 rm, .slice a L cap, .int .i64 lf, .bool dn], .func (.func 35) #[] #[ptr w.heap.size, ptr w2.heap.size], .func (.func 35) #[] #[ptr w.heap.size, ptr w2.heap.size]] W6 (DkP (exeF ⟨rm, fs, lf, dn⟩ (withF fs ⟨n, ⟨#[]⟩, (⟨#[]⟩ : BA) ++ m⟩) (withF fs ⟨n, ⟨#[]⟩, (⟨#[]⟩ : BA) ++ m⟩)) W6)) := Lib.hid (fun W6 hW6 => by
            subst hW6
            have hc : ∀ W, Below (w5.setCell ⟨w2.heap.size, 2, none⟩ (.string ((⟨#[]⟩ : BA) ++ m))).heap.size (w5.setCell ⟨w2.heap.size, 2, none⟩ (.string ((⟨#[]⟩ : BA) ++ m))) W → Calls Try.prog 35 #[ptr w.heap.size, ptr w2.heap.size] W (FsPost (withF fs ⟨n, ⟨#[]⟩, (⟨#[]⟩ : BA) ++ m⟩) W) := fun W hb =>
              write1_any W w.heap.size w2.heap.size ⟨rm, fs, lf, dn⟩ a cap ⟨n, ⟨#[]⟩, (⟨#[]⟩ : BA) ++ m⟩ ⟨by simp only; rw [← HL.out]; exact HRD6.out.below hb, by simp only; rw [← HL.out]; exact HXO.out W (below_trans HB1.out (below_trans HB6.out hb))⟩ (HFB6.out.below hb) (by have := HRG.out.fs.len; simp only at *; omega)
            exact execW_any _ ⟨rm, fs, lf, dn⟩ a L cap _ _ _ _ HRG.out.left hc hc)
          have HPR : Hid (writeF ⟨rm, fs, lf, dn⟩ n m = exeF ⟨rm, fs, lf, dn⟩ (withF fs ⟨n, ⟨#[]⟩, (⟨#[]⟩ : BA) ++ m⟩) (withF fs ⟨n, ⟨#[]⟩, (⟨#[]⟩ : BA) ++ m⟩)) := Lib.hid (by rw [HPF.out]; unfold putF; rw [if_neg (by simp only; rw [← Hsz.out]; exact hlong)])
          clear hlong u8 q1 hsz0
          go_wp2_with fail
          generalize hW6 : w5.setCell ⟨w2.heap.size, 2, none⟩ (.string ((⟨#[]⟩ : BA) ++ m)) = W6 at *
          have HEX2 := Lib.hid (HEX.out W6 rfl)
          rw [← HPR.out] at HEX2
          clear hW6 HEX HPR r0 r1 r2 r3 g0 g1 g2 tg2 HBT
          refine HEX2.out.mono ?_
          rintro e w7 ⟨a7, c7, rfl, hs7, hb7⟩
          have HB7 := Lib.hid (below_trans HB6.out hb7)
          have HRR7 := Lib.hid (HRR.out.below HB7.out)
          have HS7 := Lib.hid hs7
          clear hb7 hs7 HB6
          obtain ⟨r, HRS⟩ : ∃ r, Hid (r = writeF ⟨rm, fs, lf, dn⟩ n m) := ⟨_, Lib.hid rfl⟩
          rw [← HRS.out] at HS7 ⊢
          obtain ⟨⟨rr, rf, rl, rd⟩, k⟩ := r
          simp only at HS7 ⊢
          obtain ⟨L7, HL7⟩ : ∃ L, Hid (L = rf.length) := ⟨_, Lib.hid rfl⟩
          rw [← HL7.out] at HS7 ⊢
          have HFIN : Hid (DkP (writeF ⟨rm, fs, lf, dn⟩ n m) w (.returned (.tuple #[.agg #[.int .i64 rr, .slice a7 L7 c7, .int .i64 rl, .bool rd], .int .i64 (k : Nat)])) (put4 w7 (w.heap.size + 1) (.int .i64 rr) (.slice a7 L7 c7) (.int .i64 rl) (.bool rd))) := Lib.hid (by rw [← HRS.out]; exact DkP.put (a := a7) (cap := c7) (w7 := w7) (R := w.heap.size + 1) (by simp only; rw [← HL7.out]; exact HS7.out) (below_trans HB1.out HB7.out) (by omega) HRR7.out (by simp only; rw [← HL7.out]) (by simp only; rw [← HL7.out]))
          have k0 := HRR7.out.cell (i := 0) rfl
          have k1 := HRR7.out.cell (i := 1) rfl
          have k2 := HRR7.out.cell (i := 2) rfl
          have k3 := HRR7.out.cell (i := 3) rfl
          have tk0 := HRR7.out.thaw 0
          have tk1 := HRR7.out.thaw 1
          have tk2 := HRR7.out.thaw 2
          have tk3 := HRR7.out.thaw 3
          have R9 := put4_row HRR7.out (.int .i64 rr) (.slice a7 L7 c7) (.int .i64 rl) (.bool rd)
          have f0 := R9.cell (i := 0) rfl
          have f1 := R9.cell (i := 1) rfl
          have f2 := R9.cell (i := 2) rfl
          have f3 := R9.cell (i := 3) rfl
          clear R9 HRS
          go_wp2
          exact bodyPost_ret (v := .tuple #[.agg #[.int .i64 rr, .slice a7 L7 c7, .int .i64 rl, .bool rd], .int .i64 (k : Nat)]) (by simp [results, Try.results21, go_sem, f0, f1, f2, f3]) rfl HFIN.out
      · have u0 : decide ((L : Int) < 8) = false := decide_eq_false (by omega)
        go_enter Try.func21, Try.ntmps21
        go_wp2_with fail
        rw [← HW1.out]
        refine (HFI.out W1 HB1.out).mono ?_
        rintro e w2 ⟨rfl, hb2⟩
        simp only [finV]
        have HB2 := Lib.hid hb2
        clear hb2 r0 r1 r2 r3 HW1
        have c1 := ((HRD.out.below HB2.out).alloc (.cells (fiC noF) 44)).cell (i := 1) rfl
        have HB3 := Lib.hid (below_trans HB2.out (below1 w2 (.cells (fiC noF) 44)))
        have HE : Hid (writeF ⟨rm, fs, lf, dn⟩ n m = (zeroD, 130)) := Lib.hid (by unfold writeF; rw [← Hr.out]; simp only; rw [if_neg (fun hh => h8 (by rw [HL.out]; exact hh.2))]; simp)
        have HRr := Lib.hid (HRR.out.below HB3.out)
        have k0 := HRr.out.cell (i := 0) rfl
        have k1 := HRr.out.cell (i := 1) rfl
        have k2 := HRr.out.cell (i := 2) rfl
        have k3 := HRr.out.cell (i := 3) rfl
        have tk0 := HRr.out.thaw 0
        have tk1 := HRr.out.thaw 1
        have tk2 := HRr.out.thaw 2
        have tk3 := HRr.out.thaw 3
        have R9 := put4_row HRr.out (.int .i64 0) (.slice none 0 0) (.int .i64 0) (.bool false)
        have f0 := R9.cell (i := 0) rfl
        have f1 := R9.cell (i := 1) rfl
        have f2 := R9.cell (i := 2) rfl
        have f3 := R9.cell (i := 3) rfl
        have HFIN : Hid (DkP (writeF ⟨rm, fs, lf, dn⟩ n m) w (.returned (.tuple #[.agg #[.int .i64 0, .slice none 0 0, .int .i64 0, .bool false], .int .i64 130])) (put4 (w2.alloc (.cells (fiC noF) 44)) (w.heap.size + 1) (.int .i64 0) (.slice none 0 0) (.int .i64 0) (.bool false))) := Lib.hid (DkP.zero HE.out ((below_trans HB1.out HB3.out).trans ((put4_but (w2.alloc (.cells (fiC noF) 44)) (w.heap.size + 1) (.int .i64 0) (.slice none 0 0) (.int .i64 0) (.bool false)).below (by omega))) rfl)
        clear R9
        go_wp2
        exact bodyPost_ret (v := .tuple #[.agg #[.int .i64 0, .slice none 0 0, .int .i64 0, .bool false], .int .i64 130]) (by simp [results, Try.results21, go_sem, f0, f1, f2, f3]) rfl HFIN.out
    · have hk2 : ((k : Int) == 60) = false := by rw [beq_eq_false_iff_ne]; omega
      have hk3 : ((k : Int) == 0) = false := by
        rw [beq_eq_false_iff_ne]
        rcases HER.out with ⟨h, -⟩ | ⟨h, -⟩ | ⟨h, -⟩ <;> omega
      have hk4 : ((k : Int) != 0) = true := by rw [bne, hk3]; rfl
      go_enter Try.func21, Try.ntmps21
      go_wp2_with fail
      rw [← HW1.out]
      refine (HFI.out W1 HB1.out).mono ?_
      rintro e w2 ⟨rfl, hb2⟩
      simp only [finV]
      have HB2 := Lib.hid hb2
      clear hb2 r0 r1 r2 r3 HW1
      have HB3 := Lib.hid (below_trans HB2.out (below1 w2 (.cells (fiC noF) 44)))
      have HE : Hid (writeF ⟨rm, fs, lf, dn⟩ n m = (zeroD, k)) := Lib.hid (by unfold writeF; rw [← Hr.out]; simp only; rw [if_neg (fun hh => hk hh.1), if_neg hk])
      have HRr := Lib.hid (HRR.out.below HB3.out)
      have k0 := HRr.out.cell (i := 0) rfl
      have k1 := HRr.out.cell (i := 1) rfl
      have k2 := HRr.out.cell (i := 2) rfl
      have k3 := HRr.out.cell (i := 3) rfl
      have tk0 := HRr.out.thaw 0
      have tk1 := HRr.out.thaw 1
      have tk2 := HRr.out.thaw 2
      have tk3 := HRr.out.thaw 3
      have R9 := put4_row HRr.out (.int .i64 0) (.slice none 0 0) (.int .i64 0) (.bool false)
      have f0 := R9.cell (i := 0) rfl
      have f1 := R9.cell (i := 1) rfl
      have f2 := R9.cell (i := 2) rfl
      have f3 := R9.cell (i := 3) rfl
      have HFIN : Hid (DkP (writeF ⟨rm, fs, lf, dn⟩ n m) w (.returned (.tuple #[.agg #[.int .i64 0, .slice none 0 0, .int .i64 0, .bool false], .int .i64 ((k : Nat) : Int)])) (put4 (w2.alloc (.cells (fiC noF) 44)) (w.heap.size + 1) (.int .i64 0) (.slice none 0 0) (.int .i64 0) (.bool false))) := Lib.hid (DkP.zero HE.out ((below_trans HB1.out HB3.out).trans ((put4_but (w2.alloc (.cells (fiC noF) 44)) (w.heap.size + 1) (.int .i64 0) (.slice none 0 0) (.int .i64 0) (.bool false)).below (by omega))) rfl)
      clear R9
      go_wp2
      exact bodyPost_ret (v := .tuple #[.agg #[.int .i64 0, .slice none 0 0, .int .i64 0, .bool false], .int .i64 ((k : Nat) : Int)]) (by simp [results, Try.results21, go_sem, f0, f1, f2, f3]) rfl HFIN.out
end Go.Proofs.Ytmhdodiipkkjpaa.Dk
