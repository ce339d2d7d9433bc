/- Package disk: crashed; the effects of calls; execute. -/
import Derived.Test.YtmhdodiipkkjpaaDx
namespace Go.Proofs.Ytmhdodiipkkjpaa.Dk
open Go.RowKit

abbrev put4 (W : World) (P : Nat) (a b c d : Value) : World := (((W.setCell ⟨P, 0, none⟩ a).setCell ⟨P, 1, none⟩ b).setCell ⟨P, 2, none⟩ c).setCell ⟨P, 3, none⟩ d
theorem put4_but (W : World) (P : Nat) (a b c d : Value) : But P W (put4 W P a b c d) := ((((But.refl P W).set 0 a).set 1 b).set 2 c).set 3 d
theorem put4_row {W : World} {P : Nat} {t : TypeId} {x y z u : Value} (h : Row W P t [x, y, z, u]) (a b c d : Value) : Row (put4 W P a b c d) P t [a, b, c, d] := (((h.set 0 a).set 1 b).set 2 c).set 3 d
/-- A list of files that a call answers. -/
def FsPost (fs : List Fil) (w : World) (e : Ending) (w' : World) : Prop := ∃ a cap, e = .returned (.slice a fs.length cap) ∧ SlF w' (Old w') (.slice a fs.length cap) fs ∧ Below w.heap.size w w'
theorem OwnPost.fs {fs : List Fil} {w : World} {e : Ending} {w' : World} (h : OwnPost fs w e w') : FsPost fs w e w' := by
  obtain ⟨v, rfl, ho, hb⟩ := h
  obtain ⟨a, cap, rfl, -⟩ := owns_form ho
  exact ⟨a, cap, rfl, ho.sl, hb⟩
/-- A disk, and an error's number, that a call answers. -/
def DkP (r : Dsk × Nat) (w : World) (e : Ending) (w' : World) : Prop := ∃ a cap, e = .returned (.tuple #[diV r.1 (.slice a r.1.fs.length cap), .int .i64 (r.2 : Nat)]) ∧ SlF w' (Old w') (.slice a r.1.fs.length cap) r.1.fs ∧ Below w.heap.size w w'

set_option maxHeartbeats 3200000 in
set_option maxRecDepth 100000 in
theorem crashed_any (w : World) (f : Fil) (n : Nat) (hn : n ≤ f.tl.size) (hf : FitF f) :
    Calls Try.prog 32 #[fiV f, .int .i64 n] w fun e w' => e = .returned (fiV (crF f n)) ∧ Below w.heap.size w w' := by
  have h1 := hf.sy
  have h2 := hf.tl
  obtain ⟨xn, xs, xt⟩ := f
  simp only at hn h1 h2
  obtain ⟨W1, HW1⟩ : ∃ W, Hid (W = (w.alloc (.cells (fiC ⟨xn, xs, xt⟩) 44)).alloc (.cells (fiC noF) 44)) := ⟨_, Lib.hid rfl⟩
  have HB1 : Hid (Below w.heap.size w W1) := Lib.hid (by rw [HW1.out]; exact below2 _ _ _)
  have HRB : Hid (Row W1 w.heap.size 44 [.string xn, .string xs, .string xt]) := Lib.hid (by rw [HW1.out]; exact (row_new w (fiC ⟨xn, xs, xt⟩) _).alloc _)
  have HRF : Hid (Row W1 (w.heap.size + 1) 44 [.string ⟨#[]⟩, .string ⟨#[]⟩, .string ⟨#[]⟩]) := Lib.hid (by
    rw [HW1.out]
    have h := row_new (w.alloc (.cells (fiC ⟨xn, xs, xt⟩) 44)) (fiC noF) 44
    rwa [World.size_alloc] at h)
  have hsz : (ByteArray.extract xt 0 n).size = n := by rw [ByteArray.size_extract]; omega
  have HCR : Hid (crF ⟨xn, xs, xt⟩ n = ⟨xn, xs ++ ByteArray.extract xt 0 n, ⟨#[]⟩⟩) := Lib.hid rfl
  go_enter Try.func32, Try.ntmps32
  go_wp2
  rw [← HW1.out]
  clear HW1
  have HDR := Lib.hid (Below.refl W1.heap.size W1).drew
  have hs0 : (fun W : World => W.cell? ⟨w.heap.size, 0, none⟩ = some (.string xn) ∧ W.cell? ⟨w.heap.size, 1, none⟩ = some (.string xs) ∧ W.cell? ⟨w.heap.size, 2, none⟩ = some (.string xt)) W1.drew := ⟨(HRB.out.below HDR.out).cell (i := 0) rfl, (HRB.out.below HDR.out).cell (i := 1) rfl, (HRB.out.below HDR.out).cell (i := 2) rfl⟩
  have q1 : (n : Int) ≤ (xt.size : Int) := by omega
  have q2 : ¬ (9223372036854775807 < xs.size + n) := by omega
  refine wp_region_noPanic ?_
  refine wp_region_held_drew (S := fun W => W.cell? ⟨w.heap.size, 0, none⟩ = some (.string xn) ∧ W.cell? ⟨w.heap.size, 1, none⟩ = some (.string xs) ∧ W.cell? ⟨w.heap.size, 2, none⟩ = some (.string xt)) (by kernel_rfl) hs0 (fun hHeld => ?_)
  clear hs0
  have HRF4 := Lib.hid (HRF.out.below HDR.out)
  have HRB4 := Lib.hid (HRB.out.below HDR.out)
  generalize W1.drew = w4 at *
  refine wpAnyH_take (i := 0) (oi := { dst := some 5, op := Go.Op.fieldAddr 44 (Go.Operand.tmp 2) 0, type := 0, pos := "files.go:54", after := #[], guard := none }) (v := ?_) rfl (by kernel_rfl) (by kernel_rfl) (by kernel_rfl) (fun _ _ _ h => h) (Or.inl ⟨by rfl, ?_⟩) (by assumption) ?_
  rotate_left
  · (intro w hSw; (try dsimp only at hSw); go_simp) <;> with_reducible rfl
  simp only [Act.put, List.setIfInBounds_toArray, List.set_cons_zero, List.set_cons_succ]
  refine wpAnyH_take (i := 1) (oi := { dst := some 6, op := Go.Op.load 9 (Go.Operand.tmp 5), type := 9, pos := "files.go:54", after := #[{ on := 0, ground := Go.Ground.data }], guard := none }) (v := ?_) rfl (by kernel_rfl) (by kernel_rfl) (by kernel_rfl) (fun _ _ _ h => h) (Or.inl ⟨by rfl, ?_⟩) (by assumption) ?_
  rotate_left
  · (intro w hSw; (try dsimp only at hSw); go_simp) <;> with_reducible rfl
  simp only [Act.put, List.setIfInBounds_toArray, List.set_cons_zero, List.set_cons_succ]
  refine wpAnyH_take (i := 2) (oi := { dst := some 7, op := Go.Op.fieldAddr 44 (Go.Operand.tmp 2) 1, type := 0, pos := "files.go:54", after := #[], guard := none }) (v := ?_) rfl (by kernel_rfl) (by kernel_rfl) (by kernel_rfl) (fun _ _ _ h => h) (Or.inl ⟨by rfl, ?_⟩) (by assumption) ?_
  rotate_left
  · (intro w hSw; (try dsimp only at hSw); go_simp) <;> with_reducible rfl
  simp only [Act.put, List.setIfInBounds_toArray, List.set_cons_zero, List.set_cons_succ]
  refine wpAnyH_take (i := 3) (oi := { dst := some 8, op := Go.Op.load 9 (Go.Operand.tmp 7), type := 9, pos := "files.go:54", after := #[{ on := 2, ground := Go.Ground.data }], guard := none }) (v := ?_) rfl (by kernel_rfl) (by kernel_rfl) (by kernel_rfl) (fun _ _ _ h => h) (Or.inl ⟨by rfl, ?_⟩) (by assumption) ?_
  rotate_left
  · (intro w hSw; (try dsimp only at hSw); go_simp) <;> with_reducible rfl
  simp only [Act.put, List.setIfInBounds_toArray, List.set_cons_zero, List.set_cons_succ]
  refine wpAnyH_take (i := 4) (oi := { dst := some 9, op := Go.Op.fieldAddr 44 (Go.Operand.tmp 2) 2, type := 0, pos := "files.go:54", after := #[], guard := none }) (v := ?_) rfl (by kernel_rfl) (by kernel_rfl) (by kernel_rfl) (fun _ _ _ h => h) (Or.inl ⟨by rfl, ?_⟩) (by assumption) ?_
  rotate_left
  · (intro w hSw; (try dsimp only at hSw); go_simp) <;> with_reducible rfl
  simp only [Act.put, List.setIfInBounds_toArray, List.set_cons_zero, List.set_cons_succ]
  refine wpAnyH_take (i := 5) (oi := { dst := some 10, op := Go.Op.load 9 (Go.Operand.tmp 9), type := 9, pos := "files.go:54", after := #[{ on := 4, ground := Go.Ground.data }], guard := none }) (v := ?_) rfl (by kernel_rfl) (by kernel_rfl) (by kernel_rfl) (fun _ _ _ h => h) (Or.inl ⟨by rfl, ?_⟩) (by assumption) ?_
  rotate_left
  · (intro w hSw; (try dsimp only at hSw); go_simp) <;> with_reducible rfl
  simp only [Act.put, List.setIfInBounds_toArray, List.set_cons_zero, List.set_cons_succ]
  refine wpAnyH_take (i := 6) (oi := { dst := some 11, op := Go.Op.move (Go.Operand.tmp 1), type := 3, pos := "files.go:54", after := #[], guard := none }) (v := ?_) rfl (by kernel_rfl) (by kernel_rfl) (by kernel_rfl) (fun _ _ _ h => h) (Or.inl ⟨by rfl, ?_⟩) (by assumption) ?_
  rotate_left
  · (intro w hSw; (try dsimp only at hSw); go_simp) <;> with_reducible rfl
  simp only [Act.put, List.setIfInBounds_toArray, List.set_cons_zero, List.set_cons_succ]
  refine wpAnyH_take (i := 7) (oi := { dst := some 12, op := Go.Op.slice 9 (Go.Operand.tmp 10) none (some (Go.Operand.tmp 11)) none, type := 9, pos := "files.go:54", after := #[{ on := 5, ground := Go.Ground.data }, { on := 6, ground := Go.Ground.data }], guard := none }) (v := ?_) rfl (by kernel_rfl) (by kernel_rfl) (by kernel_rfl) (fun _ _ _ h => h) (Or.inl ⟨by rfl, ?_⟩) (by assumption) ?_
  rotate_left
  · (intro w hSw; (try dsimp only at hSw); go_simp) <;> with_reducible rfl
  simp only [Act.put, List.setIfInBounds_toArray, List.set_cons_zero, List.set_cons_succ]
  refine wpAnyH_take (i := 8) (oi := { dst := some 13, op := Go.Op.binOp Go.BinOp.add 9 (Go.Operand.tmp 8) (Go.Operand.tmp 12) 9, type := 9, pos := "files.go:54", after := #[{ on := 3, ground := Go.Ground.data }, { on := 7, ground := Go.Ground.data }], guard := none }) (v := ?_) rfl (by kernel_rfl) (by kernel_rfl) (by kernel_rfl) (fun _ _ _ h => h) (Or.inl ⟨by rfl, ?_⟩) (by assumption) ?_
  rotate_left
  · (intro w hSw; (try dsimp only at hSw); go_simp) <;> with_reducible rfl
  simp only [Act.put, List.setIfInBounds_toArray, List.set_cons_zero, List.set_cons_succ]
  refine wpAnyH_take (i := 9) (oi := { dst := some 14, op := Go.Op.build 44 #[(0, Go.Operand.tmp 6), (1, Go.Operand.tmp 13)], type := 44, pos := "files.go:54", after := #[{ on := 1, ground := Go.Ground.data }, { on := 8, ground := Go.Ground.data }], guard := none }) (v := ?_) rfl (by kernel_rfl) (by kernel_rfl) (by kernel_rfl) (fun _ _ _ h => h) (Or.inl ⟨by rfl, ?_⟩) (by assumption) ?_
  rotate_left
  · (intro w hSw; (try dsimp only at hSw); go_simp) <;> with_reducible rfl
  simp only [Act.put, List.setIfInBounds_toArray, List.set_cons_zero, List.set_cons_succ]
  have t0 := HRF4.out.thaw 0
  have t1 := HRF4.out.thaw 1
  have t2 := HRF4.out.thaw 2
  have k0 := HRF4.out.cell (i := 0) rfl
  have k1 := HRF4.out.cell (i := 1) rfl
  have k2 := HRF4.out.cell (i := 2) rfl
  have R9 := put3_row HRF4.out (.string xn) (.string (xs ++ ByteArray.extract xt 0 n)) (.string ⟨#[]⟩)
  have f0 := R9.cell (i := 0) rfl
  have f1 := R9.cell (i := 1) rfl
  have f2 := R9.cell (i := 2) rfl
  have HBU := Lib.hid (put3_but w4 (w.heap.size + 1) (.string xn) (.string (xs ++ ByteArray.extract xt 0 n)) (.string ⟨#[]⟩))
  have HRB9 := Lib.hid (HRB4.out.keep (HBU.out.block w.heap.size (by omega)))
  have hz0 : (fun W : World => W.cell? ⟨w.heap.size, 0, none⟩ = some (.string xn) ∧ W.cell? ⟨w.heap.size, 1, none⟩ = some (.string xs) ∧ W.cell? ⟨w.heap.size, 2, none⟩ = some (.string xt)) (put3 w4 (w.heap.size + 1) (.string xn) (.string (xs ++ ByteArray.extract xt 0 n)) (.string ⟨#[]⟩)) := ⟨HRB9.out.cell (i := 0) rfl, HRB9.out.cell (i := 1) rfl, HRB9.out.cell (i := 2) rfl⟩
  have HF9 := Lib.hid ((below_trans HB1.out HDR.out).trans (HBU.out.below (B := w.heap.size) (by omega)))
  clear R9 HBU HRB9
  refine wpAnyH_ready (rs := [10]) (by kernel_rfl) (by simp) ?_
  refine AllReadyH.cons (o := { dst := none, op := Go.Op.store 44 (Go.Operand.tmp 4) (Go.Operand.tmp 14), type := 0, pos := "files.go:54", after := #[{ on := 9, ground := Go.Ground.data }, { on := 0, ground := Go.Ground.phase }, { on := 1, ground := Go.Ground.phase }, { on := 2, ground := Go.Ground.phase }, { on := 3, ground := Go.Ground.phase }, { on := 4, ground := Go.Ground.phase }, { on := 5, ground := Go.Ground.phase }, { on := 6, ground := Go.Ground.phase }, { on := 7, ground := Go.Ground.phase }, { on := 8, ground := Go.Ground.phase }, { on := 9, ground := Go.Ground.phase }], guard := none }) rfl (fun K hK => ?_) AllReadyH.nil
  go_simp
  refine hK.out _ _ ?_ (fun hz => ?_)
  · exact hz0
  clear hK K hHeld 
  try simp only [Act.put, List.setIfInBounds_toArray, List.set_cons_zero, List.set_cons_succ]
  refine wpAnyH_done (by kernel_rfl) ?_ _
  refine NoPanic.normal ?_
  go_wp2
  exact bodyPost_ret (v := fiV ⟨xn, xs ++ ByteArray.extract xt 0 n, ⟨#[]⟩⟩) (by simp [results, Try.results32, go_sem, f0, f1, f2]) rfl ⟨by rw [HCR.out], HF9.out⟩

/-- A disk's box, and what its files read as. -/
structure DBox (W : World) (B : Nat) (d : Dsk) (a : Option Addr) (cap : Nat) : Prop where
  box : Row W B 24 [.int .i64 d.room, .slice a d.fs.length cap, .int .i64 d.left, .bool d.down]
  fs : SlF W (Old W) (.slice a d.fs.length cap) d.fs
theorem DBox.below {W W' : World} {B : Nat} {d : Dsk} {a : Option Addr} {cap : Nat} (h : DBox W B d a cap) (hb : Below W.heap.size W W') : DBox W' B d a cap := ⟨h.box.below hb, h.fs.old hb⟩
abbrev ptr (B : Nat) : Value := .pointer (some ⟨B, 0, none⟩)
abbrev RowF (W : World) (B : Nat) (f : Fil) : Prop := Row W B 44 [.string f.nm, .string f.sy, .string f.tl]

set_option maxHeartbeats 3200000 in
set_option maxRecDepth 100000 in
theorem write1_any (w : World) (B F : Nat) (d : Dsk) (a : Option Addr) (cap : Nat) (f : Fil) (h : DBox w B d a cap) (hf : RowF w F f) (hl : d.fs.length ≤ 900) :
    Calls Try.prog 35 #[ptr B, ptr F] w (FsPost (withF d.fs f) w) := by
  have HW := Lib.hid (with_any w a cap d.fs f h.fs hl)
  have c1 := h.box.cell (i := 1) rfl
  have f0 := hf.cell (i := 0) rfl
  have f1 := hf.cell (i := 1) rfl
  have f2 := hf.cell (i := 2) rfl
  obtain ⟨rm, fs, lf, dn⟩ := d
  obtain ⟨xn, xs, xt⟩ := f
  simp only at HW c1 f0 f1 f2 ⊢
  clear h hf
  go_enter Try.func35, Try.ntmps35
  go_wp2_with fail
  refine HW.out.mono ?_
  rintro e w1 hp
  obtain ⟨a1, c1, rfl, hs, hb⟩ := hp.fs
  have HP : Hid (FsPost (withF fs ⟨xn, xs, xt⟩) w (.returned (.slice a1 (withF fs ⟨xn, xs, xt⟩).length c1)) w1) := Lib.hid ⟨a1, c1, rfl, hs, hb⟩
  clear hp hs hb
  go_wp2
  go_ret
  exact HP.out

set_option maxHeartbeats 3200000 in
set_option maxRecDepth 100000 in
theorem sync1_any (w : World) (B F : Nat) (d : Dsk) (a : Option Addr) (cap : Nat) (f : Fil) (h : DBox w B d a cap) (hf : RowF w F f) (hl : d.fs.length ≤ 900) (hfit : FitF f) :
    Calls Try.prog 38 #[ptr B, ptr F] w (FsPost (withF d.fs (crF f f.tl.size)) w) := by
  have HW := Lib.hid (fun W (hb : Below w.heap.size w W) => with_any W a cap d.fs (crF f f.tl.size) (h.fs.old hb) hl)
  have HC := Lib.hid (fun W => crashed_any W f f.tl.size (Nat.le_refl _) hfit)
  have HDR := Lib.hid (Below.refl w.heap.size w).drew
  have HS : Hid (∀ W, Below w.heap.size w W → W.cell? ⟨B, 1, none⟩ = some (.slice a d.fs.length cap) ∧ W.cell? ⟨F, 0, none⟩ = some (.string f.nm) ∧ W.cell? ⟨F, 1, none⟩ = some (.string f.sy) ∧ W.cell? ⟨F, 2, none⟩ = some (.string f.tl)) := Lib.hid (fun W hb => ⟨(h.box.below hb).cell (i := 1) rfl, (hf.below hb).cell (i := 0) rfl, (hf.below hb).cell (i := 1) rfl, (hf.below hb).cell (i := 2) rfl⟩)
  obtain ⟨rm, fs, lf, dn⟩ := d
  obtain ⟨xn, xs, xt⟩ := f
  have hzt := hfit.tl
  simp only at HW HC HS hzt ⊢
  clear h hf hfit
  obtain ⟨y, HY⟩ : ∃ y, Hid (y = crF ⟨xn, xs, xt⟩ xt.size) := ⟨_, Lib.hid rfl⟩
  rw [← HY.out] at HW HC ⊢
  go_enter Try.func38, Try.ntmps38
  go_wp2
  have hs0 := HS.out _ HDR.out
  refine wp_region_noPanic ?_
  refine wp_region_held_drew (S := fun W => W.cell? ⟨B, 1, none⟩ = some (.slice a fs.length cap) ∧ W.cell? ⟨F, 0, none⟩ = some (.string xn) ∧ W.cell? ⟨F, 1, none⟩ = some (.string xs) ∧ W.cell? ⟨F, 2, none⟩ = some (.string xt)) (by kernel_rfl) hs0 (fun hHeld => ?_)
  clear hs0
  generalize w.drew = w4 at *
  refine wpAnyH_take (i := 0) (oi := { dst := some 3, op := Go.Op.fieldAddr 24 (Go.Operand.tmp 0) 1, type := 0, pos := "disk.go:50", after := #[], guard := none }) (v := ?_) rfl (by kernel_rfl) (by kernel_rfl) (by kernel_rfl) (fun _ _ _ h => h) (Or.inl ⟨by rfl, ?_⟩) (by assumption) ?_
  rotate_left
  · (intro w hSw; (try dsimp only at hSw); go_simp) <;> with_reducible rfl
  simp only [Act.put, List.setIfInBounds_toArray, List.set_cons_zero, List.set_cons_succ]
  refine wpAnyH_take (i := 1) (oi := { dst := some 4, op := Go.Op.load 22 (Go.Operand.tmp 3), type := 22, pos := "disk.go:50", after := #[{ on := 0, ground := Go.Ground.data }], guard := none }) (v := ?_) rfl (by kernel_rfl) (by kernel_rfl) (by kernel_rfl) (fun _ _ _ h => h) (Or.inl ⟨by rfl, ?_⟩) (by assumption) ?_
  rotate_left
  · (intro w hSw; (try dsimp only at hSw); go_simp) <;> with_reducible rfl
  simp only [Act.put, List.setIfInBounds_toArray, List.set_cons_zero, List.set_cons_succ]
  refine wpAnyH_take (i := 2) (oi := { dst := some 5, op := Go.Op.load 44 (Go.Operand.tmp 1), type := 44, pos := "disk.go:50", after := #[], guard := none }) (v := ?_) rfl (by kernel_rfl) (by kernel_rfl) (by kernel_rfl) (fun _ _ _ h => h) (Or.inl ⟨by rfl, ?_⟩) (by assumption) ?_
  rotate_left
  · (intro w hSw; (try dsimp only at hSw); go_simp) <;> with_reducible rfl
  simp only [Act.put, List.setIfInBounds_toArray, List.set_cons_zero, List.set_cons_succ]
  refine wpAnyH_take (i := 3) (oi := { dst := some 6, op := Go.Op.fieldAddr 44 (Go.Operand.tmp 1) 2, type := 0, pos := "disk.go:50", after := #[], guard := none }) (v := ?_) rfl (by kernel_rfl) (by kernel_rfl) (by kernel_rfl) (fun _ _ _ h => h) (Or.inl ⟨by rfl, ?_⟩) (by assumption) ?_
  rotate_left
  · (intro w hSw; (try dsimp only at hSw); go_simp) <;> with_reducible rfl
  simp only [Act.put, List.setIfInBounds_toArray, List.set_cons_zero, List.set_cons_succ]
  refine wpAnyH_take (i := 4) (oi := { dst := some 7, op := Go.Op.load 9 (Go.Operand.tmp 6), type := 9, pos := "disk.go:50", after := #[{ on := 3, ground := Go.Ground.data }], guard := none }) (v := ?_) rfl (by kernel_rfl) (by kernel_rfl) (by kernel_rfl) (fun _ _ _ h => h) (Or.inl ⟨by rfl, ?_⟩) (by assumption) ?_
  rotate_left
  · (intro w hSw; (try dsimp only at hSw); go_simp) <;> with_reducible rfl
  simp only [Act.put, List.setIfInBounds_toArray, List.set_cons_zero, List.set_cons_succ]
  refine wpAnyH_take (i := 5) (oi := { dst := some 8, op := Go.Op.call { callee := Go.Callee.builtin Go.Builtin.len, args := #[Go.Operand.tmp 7], argTypes := #[9] }, type := 3, pos := "disk.go:50", after := #[{ on := 4, ground := Go.Ground.data }], guard := none }) (v := ?_) rfl (by kernel_rfl) (by kernel_rfl) (by kernel_rfl) (fun _ _ _ h => h) (Or.inl ⟨by rfl, ?_⟩) (by assumption) ?_
  rotate_left
  · (intro w hSw; (try dsimp only at hSw); go_simp) <;> with_reducible rfl
  simp only [Act.put, List.setIfInBounds_toArray, List.set_cons_zero, List.set_cons_succ]
  refine wpAnyH_ready (rs := [6]) (by kernel_rfl) (by simp) ?_
  refine AllReadyH.cons (o := { dst := some 9, op := Go.Op.call { callee := Go.Callee.value (Go.Operand.func 32), args := #[Go.Operand.tmp 5, Go.Operand.tmp 8], argTypes := #[44, 3] }, type := 44, pos := "disk.go:50", after := #[{ on := 2, ground := Go.Ground.data }, { on := 5, ground := Go.Ground.data }], guard := none }) rfl (fun K hK => ?_) AllReadyH.nil
  go_simp
  refine (HC.out w4).mono ?_
  rintro e w5 ⟨rfl, hb5⟩
  have HB5 := Lib.hid (below_trans HDR.out hb5)
  clear hb5
  go_wp2_with fail
  refine hK.out _ _ ?_ (fun hz2 => ?_)
  · exact HS.out _ HB5.out
  clear hK K hHeld 
  try simp only [Act.put, List.setIfInBounds_toArray, List.set_cons_zero, List.set_cons_succ]
  refine wpAnyH_ready (rs := [7]) (by kernel_rfl) (by simp) ?_
  refine AllReadyH.cons (o := { dst := some 10, op := Go.Op.call { callee := Go.Callee.value (Go.Operand.func 36), args := #[Go.Operand.tmp 4, Go.Operand.tmp 9], argTypes := #[22, 44] }, type := 22, pos := "disk.go:50", after := #[{ on := 1, ground := Go.Ground.data }, { on := 6, ground := Go.Ground.data }, { on := 6, ground := Go.Ground.chain }], guard := none }) rfl (fun K hK => ?_) AllReadyH.nil
  go_simp
  refine (HW.out w5 HB5.out).mono ?_
  rintro e w6 hp
  obtain ⟨a1, c1, rfl, hs, hb⟩ := hp.fs
  have HP : Hid (FsPost (withF fs y) w (.returned (.slice a1 (withF fs y).length c1)) w6) := Lib.hid ⟨a1, c1, rfl, hs, below_trans HB5.out hb⟩
  have HB6 := Lib.hid (below_trans HB5.out hb)
  clear hp hs hb
  go_wp2_with fail
  refine hK.out _ _ ?_ (fun hz3 => ?_)
  · exact HS.out _ HB6.out
  clear hK K hz2 
  try simp only [Act.put, List.setIfInBounds_toArray, List.set_cons_zero, List.set_cons_succ]
  refine wpAnyH_take (i := 8) (oi := { dst := some 2, op := Go.Op.assign (Go.Operand.tmp 10), type := 22, pos := "disk.go:50", after := #[{ on := 7, ground := Go.Ground.data }, { on := 7, ground := Go.Ground.chain }, { on := 0, ground := Go.Ground.phase }, { on := 1, ground := Go.Ground.phase }, { on := 2, ground := Go.Ground.phase }, { on := 3, ground := Go.Ground.phase }, { on := 4, ground := Go.Ground.phase }, { on := 5, ground := Go.Ground.phase }, { on := 6, ground := Go.Ground.phase }, { on := 7, ground := Go.Ground.phase }], guard := none }) (v := ?_) rfl (by kernel_rfl) (by kernel_rfl) (by kernel_rfl) (fun _ _ _ h => h) (Or.inl ⟨by rfl, ?_⟩) (by assumption) ?_
  rotate_left
  · (intro w hSw; (try dsimp only at hSw); go_simp) <;> with_reducible rfl
  simp only [Act.put, List.setIfInBounds_toArray, List.set_cons_zero, List.set_cons_succ]
  refine wpAnyH_done (by kernel_rfl) ?_ _
  refine NoPanic.normal ?_
  go_wp2
  go_ret
  exact HP.out

set_option maxHeartbeats 3200000 in
set_option maxRecDepth 100000 in
theorem rename1_any (w : World) (B N F : Nat) (d : Dsk) (a : Option Addr) (cap : Nat) (n : BA) (f : Fil) (h : DBox w B d a cap) (hn : Row w N 9 [.string n]) (hf : RowF w F f) (hl : d.fs.length ≤ 900) :
    Calls Try.prog 40 #[ptr B, ptr N, ptr F] w (FsPost (withF (outF d.fs n) f) w) := by
  have HDR := Lib.hid (Below.refl w.heap.size w).drew
  have HO := Lib.hid (fun W (hb : Below w.heap.size w W) => without_any (W.alloc (.cells #[.string n] 9)) a cap d.fs n (some ⟨W.heap.size, 0, none⟩) 1 (h.fs.old (below_trans hb (below1 _ _))) (by omega) (SlS.one W n 9))
  have hlo : (outF d.fs n).length ≤ 900 := by have := len_out d.fs n; omega
  have HS : Hid (∀ W, Below w.heap.size w W → W.cell? ⟨B, 1, none⟩ = some (.slice a d.fs.length cap) ∧ W.cell? ⟨N, 0, none⟩ = some (.string n) ∧ W.cell? ⟨F, 0, none⟩ = some (.string f.nm) ∧ W.cell? ⟨F, 1, none⟩ = some (.string f.sy) ∧ W.cell? ⟨F, 2, none⟩ = some (.string f.tl)) := Lib.hid (fun W hb => ⟨(h.box.below hb).cell (i := 1) rfl, (hn.below hb).cell (i := 0) rfl, (hf.below hb).cell (i := 0) rfl, (hf.below hb).cell (i := 1) rfl, (hf.below hb).cell (i := 2) rfl⟩)
  obtain ⟨rm, fs, lf, dn⟩ := d
  obtain ⟨xn, xs, xt⟩ := f
  simp only at HO HS hlo ⊢
  clear h hf hn
  obtain ⟨A, HA⟩ : ∃ y, Hid (y = outF fs n) := ⟨_, Lib.hid rfl⟩
  rw [← HA.out] at HO hlo ⊢
  go_enter Try.func40, Try.ntmps40
  go_wp2
  have hs0 := HS.out _ HDR.out
  refine wp_region_noPanic ?_
  refine wp_region_held_drew (S := fun W => W.cell? ⟨B, 1, none⟩ = some (.slice a fs.length cap) ∧ W.cell? ⟨N, 0, none⟩ = some (.string n) ∧ W.cell? ⟨F, 0, none⟩ = some (.string xn) ∧ W.cell? ⟨F, 1, none⟩ = some (.string xs) ∧ W.cell? ⟨F, 2, none⟩ = some (.string xt)) (by kernel_rfl) hs0 (fun hHeld => ?_)
  clear hs0
  generalize w.drew = w4 at *
  refine wpAnyH_take (i := 0) (oi := { dst := some 4, op := Go.Op.fieldAddr 24 (Go.Operand.tmp 0) 1, type := 0, pos := "disk.go:64", after := #[], guard := none }) (v := ?_) rfl (by kernel_rfl) (by kernel_rfl) (by kernel_rfl) (fun _ _ _ h => h) (Or.inl ⟨by rfl, ?_⟩) (by assumption) ?_
  rotate_left
  · (intro w hSw; (try dsimp only at hSw); go_simp) <;> with_reducible rfl
  simp only [Act.put, List.setIfInBounds_toArray, List.set_cons_zero, List.set_cons_succ]
  refine wpAnyH_take (i := 1) (oi := { dst := some 5, op := Go.Op.load 22 (Go.Operand.tmp 4), type := 22, pos := "disk.go:64", after := #[{ on := 0, ground := Go.Ground.data }], guard := none }) (v := ?_) rfl (by kernel_rfl) (by kernel_rfl) (by kernel_rfl) (fun _ _ _ h => h) (Or.inl ⟨by rfl, ?_⟩) (by assumption) ?_
  rotate_left
  · (intro w hSw; (try dsimp only at hSw); go_simp) <;> with_reducible rfl
  simp only [Act.put, List.setIfInBounds_toArray, List.set_cons_zero, List.set_cons_succ]
  refine wpAnyH_take (i := 2) (oi := { dst := some 6, op := Go.Op.load 9 (Go.Operand.tmp 1), type := 9, pos := "disk.go:64", after := #[], guard := none }) (v := ?_) rfl (by kernel_rfl) (by kernel_rfl) (by kernel_rfl) (fun _ _ _ h => h) (Or.inl ⟨by rfl, ?_⟩) (by assumption) ?_
  rotate_left
  · (intro w hSw; (try dsimp only at hSw); go_simp) <;> with_reducible rfl
  simp only [Act.put, List.setIfInBounds_toArray, List.set_cons_zero, List.set_cons_succ]
  refine wpAnyH_take (i := 5) (oi := { dst := some 9, op := Go.Op.load 44 (Go.Operand.tmp 2), type := 44, pos := "disk.go:64", after := #[], guard := none }) (v := ?_) rfl (by kernel_rfl) (by kernel_rfl) (by kernel_rfl) (fun _ _ _ h => h) (Or.inl ⟨by rfl, ?_⟩) (by assumption) ?_
  rotate_left
  · (intro w hSw; (try dsimp only at hSw); go_simp) <;> with_reducible rfl
  simp only [Act.put, List.setIfInBounds_toArray, List.set_cons_zero, List.set_cons_succ]
  have HB4 := Lib.hid (below_trans HDR.out (below1 w4 (.cells #[.string n] 9)))
  have HO4 := Lib.hid (HO.out w4 HDR.out)
  refine wpAnyH_ready (rs := [3]) (by kernel_rfl) (by simp) ?_
  refine AllReadyH.cons (o := { dst := some 7, op := Go.Op.buildSlice 68 1 #[(0, Go.Operand.tmp 6)], type := 68, pos := "disk.go:64", after := #[{ on := 2, ground := Go.Ground.data }], guard := none }) rfl (fun K hK => ?_) AllReadyH.nil
  go_simp
  refine hK.out _ _ ?_ (fun hz => ?_)
  · exact HS.out _ HB4.out
  clear hK K hHeld 
  try simp only [Act.put, List.setIfInBounds_toArray, List.set_cons_zero, List.set_cons_succ]
  generalize hW4 : w4.alloc (.cells #[.string n] 9) = w4b at *
  clear hW4
  refine wpAnyH_ready (rs := [4]) (by kernel_rfl) (by simp) ?_
  refine AllReadyH.cons (o := { dst := some 8, op := Go.Op.call { callee := Go.Callee.value (Go.Operand.func 41), args := #[Go.Operand.tmp 5, Go.Operand.tmp 7], argTypes := #[22, 68] }, type := 22, pos := "disk.go:64", after := #[{ on := 1, ground := Go.Ground.data }, { on := 3, ground := Go.Ground.data }], guard := none }) rfl (fun K hK => ?_) AllReadyH.nil
  go_simp
  refine HO4.out.mono ?_
  rintro e w5 hp
  obtain ⟨a1, c1, rfl, hs, hb⟩ := hp.fs
  have HB5 := Lib.hid (below_trans HB4.out hb)
  have HWI := Lib.hid (with_any w5 a1 c1 A ⟨xn, xs, xt⟩ hs hlo)
  clear hp hs hb
  go_wp2_with fail
  refine hK.out _ _ ?_ (fun hz2 => ?_)
  · exact HS.out _ HB5.out
  clear hK K hz 
  try simp only [Act.put, List.setIfInBounds_toArray, List.set_cons_zero, List.set_cons_succ]
  refine wpAnyH_ready (rs := [6]) (by kernel_rfl) (by simp) ?_
  refine AllReadyH.cons (o := { dst := some 10, op := Go.Op.call { callee := Go.Callee.value (Go.Operand.func 36), args := #[Go.Operand.tmp 8, Go.Operand.tmp 9], argTypes := #[22, 44] }, type := 22, pos := "disk.go:64", after := #[{ on := 4, ground := Go.Ground.data }, { on := 5, ground := Go.Ground.data }, { on := 4, ground := Go.Ground.chain }], guard := none }) rfl (fun K hK => ?_) AllReadyH.nil
  go_simp
  refine HWI.out.mono ?_
  rintro e w6 hp
  obtain ⟨a2, c2, rfl, hs, hb⟩ := hp.fs
  have HP : Hid (FsPost (withF A ⟨xn, xs, xt⟩) w (.returned (.slice a2 (withF A ⟨xn, xs, xt⟩).length c2)) w6) := Lib.hid ⟨a2, c2, rfl, hs, below_trans HB5.out hb⟩
  have HB6 := Lib.hid (below_trans HB5.out hb)
  clear hp hs hb
  go_wp2_with fail
  refine hK.out _ _ ?_ (fun hz3 => ?_)
  · exact HS.out _ HB6.out
  clear hK K hz2 
  try simp only [Act.put, List.setIfInBounds_toArray, List.set_cons_zero, List.set_cons_succ]
  refine wpAnyH_take (i := 7) (oi := { dst := some 3, op := Go.Op.assign (Go.Operand.tmp 10), type := 22, pos := "disk.go:64", after := #[{ on := 6, ground := Go.Ground.data }, { on := 6, ground := Go.Ground.chain }, { on := 0, ground := Go.Ground.phase }, { on := 1, ground := Go.Ground.phase }, { on := 2, ground := Go.Ground.phase }, { on := 3, ground := Go.Ground.phase }, { on := 4, ground := Go.Ground.phase }, { on := 5, ground := Go.Ground.phase }, { on := 6, ground := Go.Ground.phase }], guard := none }) (v := ?_) rfl (by kernel_rfl) (by kernel_rfl) (by kernel_rfl) (fun _ _ _ h => h) (Or.inl ⟨by rfl, ?_⟩) (by assumption) ?_
  rotate_left
  · (intro w hSw; (try dsimp only at hSw); go_simp) <;> with_reducible rfl
  simp only [Act.put, List.setIfInBounds_toArray, List.set_cons_zero, List.set_cons_succ]
  refine wpAnyH_done (by kernel_rfl) ?_ _
  refine NoPanic.normal ?_
  go_wp2
  go_ret
  exact HP.out

set_option maxHeartbeats 3200000 in
set_option maxRecDepth 100000 in
theorem remove1_any (w : World) (B N : Nat) (d : Dsk) (a : Option Addr) (cap : Nat) (n : BA) (h : DBox w B d a cap) (hn : Row w N 9 [.string n]) (hl : d.fs.length ≤ 900) :
    Calls Try.prog 42 #[ptr B, ptr N] w (FsPost (outF d.fs n) w) := by
  have HO := Lib.hid (without_any (w.alloc (.cells #[.string n] 9)) a cap d.fs n (some ⟨w.heap.size, 0, none⟩) 1 (h.fs.old (below1 _ _)) (by omega) (SlS.one w n 9))
  have HB4 := Lib.hid (below1 w (.cells #[.string n] 9))
  have c1 := h.box.cell (i := 1) rfl
  have n0 := hn.cell (i := 0) rfl
  obtain ⟨rm, fs, lf, dn⟩ := d
  simp only at HO c1 ⊢
  clear h hn
  obtain ⟨A, HA⟩ : ∃ y, Hid (y = outF fs n) := ⟨_, Lib.hid rfl⟩
  rw [← HA.out] at HO ⊢
  go_enter Try.func42, Try.ntmps42
  go_wp2_with fail
  refine HO.out.mono ?_
  rintro e w5 hp
  obtain ⟨a1, c2, rfl, hs, hb⟩ := hp.fs
  have HP : Hid (FsPost A w (.returned (.slice a1 A.length c2)) w5) := Lib.hid ⟨a1, c2, rfl, hs, below_trans HB4.out hb⟩
  clear hp hs hb
  go_wp2
  go_ret
  exact HP.out

set_option maxHeartbeats 3200000 in
set_option maxRecDepth 100000 in
theorem same1_any (w : World) (B : Nat) (d : Dsk) (a : Option Addr) (cap : Nat) (h : DBox w B d a cap) (hl : d.fs.length ≤ 900) :
    Calls Try.prog 45 #[ptr B] w (FsPost d.fs w) := by
  have HO := Lib.hid (clone_any w a cap d.fs h.fs (by omega))
  have c1 := h.box.cell (i := 1) rfl
  obtain ⟨rm, fs, lf, dn⟩ := d
  simp only at HO c1 ⊢
  clear h
  go_enter Try.func45, Try.ntmps45
  go_wp2_with fail
  refine HO.out.mono ?_
  rintro e w5 hp
  obtain ⟨a1, c2, rfl, hs, hb⟩ := hp.fs
  have HP : Hid (FsPost fs w (.returned (.slice a1 fs.length c2)) w5) := Lib.hid ⟨a1, c2, rfl, hs, hb⟩
  clear hp hs hb
  go_wp2
  go_ret
  exact HP.out

theorem unchanged_any (w : World) (d : Dsk) (v : Value) : Calls Try.prog 39 #[diV d v] w fun e w' => e = .returned (.func (.func 45) #[] #[ptr w.heap.size]) ∧ w' = w.alloc (.cells (diC d v) 24) := by
  obtain ⟨rm, fs, lf, dn⟩ := d
  go_enter Try.func39, Try.ntmps39
  go_wp2
  go_ret
  exact ⟨rfl, rfl⟩


/-- Files lie in no block that holds no text. -/
theorem slf_apart {w : World} {S : Nat → Prop} {v : Value} {xs : List Fil} {A : Nat} {t : TypeId} {cs : List Value} (h : SlF w S v xs) (hA : Row w A t cs) (hn : ∀ (i : Nat) s, cs[i]? ≠ some (.string s)) : SlF w (fun b => S b ∧ b ≠ A) v xs := by
  obtain ⟨a, cap, hv, h1, h2, h3⟩ := h
  refine ⟨a, cap, hv, h1, h2, fun hne => ?_⟩
  obtain ⟨b, off, ha, hb, hat⟩ := h3 hne
  refine ⟨b, off, ha, ⟨hb, fun e => ?_⟩, hat⟩
  subst e
  have hx := (At.f (hat 0 (xs[0]'(List.length_pos_iff.2 hne)) (List.getElem?_eq_getElem _))).1
  have hcell : w.cell? ⟨b, off + 0 * 3, none⟩ = cs[off + 0 * 3]? := by
    have hh : w.heap[b]? = some (.cells cs.toArray t (0, 0)) := hA
    simp [World.cell?, hh]
  rw [hcell] at hx
  exact hn _ _ hx
theorem no_textD {n m : Int} {a : Option Addr} {l c : Nat} {b : Bool} : ∀ (i : Nat) s, [Value.int .i64 n, .slice a l c, .int .i64 m, .bool b][i]? ≠ some (.string s)
  | 0, s => fun e => by have := Option.some.inj e; cases this
  | 1, s => fun e => by have := Option.some.inj e; cases this
  | 2, s => fun e => by have := Option.some.inj e; cases this
  | 3, s => fun e => by have := Option.some.inj e; cases this
  | _ + 4, s => fun e => by simp at e
/-- Files stand while disks are written into two boxes. -/
theorem slf_two {W W9 : World} {D R : Nat} {n m n' m' : Int} {a a' : Option Addr} {l c l' c' : Nat} {b b' : Bool} {v : Value} {xs : List Fil} (h : SlF W (Old W) v xs) (hD : Row W D 24 [.int .i64 n, .slice a l c, .int .i64 m, .bool b]) (hR : Row W R 24 [.int .i64 n', .slice a' l' c', .int .i64 m', .bool b'])
    (hk : ∀ k, k ≠ D → k ≠ R → W9.heap[k]? = W.heap[k]?) (hs : W9.heap.size = W.heap.size) : SlF W9 (Old W9) v xs :=
  Sl.keep (slf_apart (slf_apart h hD no_textD) hR no_textD) (fun b hb => hk b hb.1.2 hb.2) (fun b hb => by have := hb.1.1; show b < W9.heap.size; rw [hs]; exact this) (fun _ _ h => h)


set_option maxHeartbeats 3200000 in
set_option maxRecDepth 100000 in
theorem execW_any (w : World) (d : Dsk) (a0 : Option Addr) (n0 cp0 : Nat) (on off : List Fil) (c1 c2 : Array Value) (hl : lfB d.left = true)
    (H1 : ∀ W, Below w.heap.size w W → Calls Try.prog 35 c1 W (FsPost on W)) (H2 : ∀ W, Below w.heap.size w W → Calls Try.prog 35 c2 W (FsPost off W)) :
    Calls Try.prog 37 #[diV d (.slice a0 n0 cp0), .func (.func 35) #[] c1, .func (.func 35) #[] c2] w (DkP (exeF d on off) w) := by
  obtain ⟨hl1, hl2⟩ := lfB_iff.1 hl
  obtain ⟨rm, fs, lf, dn⟩ := d
  simp only at hl1 hl2
  have HC1 := Lib.hid H1
  have HC2 := Lib.hid H2
  clear hl H1 H2
  by_cases h0 : lf = 0
  · have u0 : (lf == 0) = true := by rw [beq_iff_eq]; exact h0
    have h0' := h0
    clear h0
    have h0 := Lib.hid h0'
    clear h0'
    obtain ⟨W1, HW1⟩ : ∃ W, Hid (W = (w.alloc (.cells #[.int .i64 rm, .slice a0 n0 cp0, .int .i64 lf, .bool dn] 24)).alloc (.cells #[.int .i64 0, .slice none 0 0, .int .i64 0, .bool false] 24)) := ⟨_, Lib.hid rfl⟩
    have HB2 : Hid (Below w.heap.size w W1) := Lib.hid (by rw [HW1.out]; exact below2 _ _ _)
    have HRB1 : Hid (Row W1 w.heap.size 24 [.int .i64 rm, .slice a0 n0 cp0, .int .i64 lf, .bool dn]) := Lib.hid (by rw [HW1.out]; exact (row_new w #[.int .i64 rm, .slice a0 n0 cp0, .int .i64 lf, .bool dn] _).alloc _)
    have HRF1 : Hid (Row W1 (w.heap.size + 1) 24 [.int .i64 0, .slice none 0 0, .int .i64 0, .bool false]) := Lib.hid (by
      rw [HW1.out]
      have h := row_new (w.alloc (.cells #[.int .i64 rm, .slice a0 n0 cp0, .int .i64 lf, .bool dn] 24)) #[.int .i64 0, .slice none 0 0, .int .i64 0, .bool false] 24
      rwa [World.size_alloc] at h)
    go_enter Try.func37, Try.ntmps37
    go_wp2_with fail
    rw [← HW1.out]
    refine (HC2.out _ HB2.out).mono ?_
    rintro e W2 ⟨a2, cp2, rfl, hs, hb⟩
    have HS2 := Lib.hid hs
    have HB3 := Lib.hid hb
    have HRD2 := Lib.hid (HRB1.out.below hb)
    have HRR2 := Lib.hid (HRF1.out.below hb)
    obtain ⟨Lf, HLf⟩ : ∃ L, Hid (L = off.length) := ⟨_, Lib.hid rfl⟩
    rw [← HLf.out] at HS2 ⊢
    clear hs hb
    have r0 := HRD2.out.cell (i := 0) rfl
    have r1 := HRD2.out.cell (i := 1) rfl
    have r2 := HRD2.out.cell (i := 2) rfl
    have r3 := HRD2.out.cell (i := 3) rfl
    have td0 := HRD2.out.thaw 0
    have td1 := HRD2.out.thaw 1
    have td2 := HRD2.out.thaw 2
    have td3 := HRD2.out.thaw 3
    have k0 := HRR2.out.cell (i := 0) rfl
    have k1 := HRR2.out.cell (i := 1) rfl
    have k2 := HRR2.out.cell (i := 2) rfl
    have k3 := HRR2.out.cell (i := 3) rfl
    have t0 := HRR2.out.thaw 0
    have t1 := HRR2.out.thaw 1
    have t2 := HRR2.out.thaw 2
    have t3 := HRR2.out.thaw 3
    have HBU := Lib.hid (((But.refl w.heap.size W2).set 1 (.slice a2 Lf cp2)).set 3 (.bool true))
    have HBP := Lib.hid (put4_but ((W2.setCell ⟨w.heap.size, 1, none⟩ (.slice a2 Lf cp2)).setCell ⟨w.heap.size, 3, none⟩ (.bool true)) (w.heap.size + 1) (.int .i64 rm) (.slice a2 Lf cp2) (.int .i64 (lf)) (.bool true))
    have R9 := put4_row (HRR2.out.keep (HBU.out.block (w.heap.size + 1) (by omega))) (.int .i64 rm) (.slice a2 Lf cp2) (.int .i64 (lf)) (.bool true)
    have f0 := R9.cell (i := 0) rfl
    have f1 := R9.cell (i := 1) rfl
    have f2 := R9.cell (i := 2) rfl
    have f3 := R9.cell (i := 3) rfl
    have HEX : Hid (exeF ⟨rm, fs, lf, dn⟩ on off = (⟨rm, off, lf, true⟩, 132)) := Lib.hid (by unfold exeF; rw [if_pos h0.out, h0.out])
    have HFIN : Hid (DkP (exeF ⟨rm, fs, lf, dn⟩ on off) w (.returned (.tuple #[.agg #[.int .i64 rm, (.slice a2 Lf cp2), .int .i64 (lf), .bool true], .int .i64 132])) (put4 ((W2.setCell ⟨w.heap.size, 1, none⟩ (.slice a2 Lf cp2)).setCell ⟨w.heap.size, 3, none⟩ (.bool true)) (w.heap.size + 1) (.int .i64 rm) (.slice a2 Lf cp2) (.int .i64 (lf)) (.bool true))) := Lib.hid (by
      rw [HEX.out]
      refine ⟨a2, cp2, by rw [HLf.out]; rfl, ?_, ?_⟩
      · have h := slf_two HS2.out HRD2.out HRR2.out (fun k hk1 hk2 => (HBP.out.block k hk2).trans (HBU.out.block k hk1)) (HBP.out.size.trans HBU.out.size)
        simp only; rw [← HLf.out]; exact h
      · exact ((below_trans HB2.out (HB3.out)).trans (HBU.out.below (Nat.le_refl _))).trans (HBP.out.below (B := w.heap.size) (by omega)))
    clear R9
    go_wp2
    exact bodyPost_ret (v := .tuple #[.agg #[.int .i64 rm, (.slice a2 Lf cp2), .int .i64 (lf), .bool true], .int .i64 132]) (by simp [results, Try.results37, go_sem, f0, f1, f2, f3]) rfl HFIN.out
  · have u0 : (lf == 0) = false := by rw [beq_eq_false_iff_ne]; exact h0
    by_cases hp : 0 < lf
    · have u1 : decide (0 < lf) = true := decide_eq_true hp
      obtain ⟨W1, HW1⟩ : ∃ W, Hid (W = (w.alloc (.cells #[.int .i64 rm, .slice a0 n0 cp0, .int .i64 (lf - 1), .bool dn] 24)).alloc (.cells #[.int .i64 0, .slice none 0 0, .int .i64 0, .bool false] 24)) := ⟨_, Lib.hid rfl⟩
      have HB2 : Hid (Below w.heap.size w W1) := Lib.hid (by rw [HW1.out]; exact below2 _ _ _)
      have HRB1 : Hid (Row W1 w.heap.size 24 [.int .i64 rm, .slice a0 n0 cp0, .int .i64 (lf - 1), .bool dn]) := Lib.hid (by rw [HW1.out]; exact (row_new w #[.int .i64 rm, .slice a0 n0 cp0, .int .i64 (lf - 1), .bool dn] _).alloc _)
      have HRF1 : Hid (Row W1 (w.heap.size + 1) 24 [.int .i64 0, .slice none 0 0, .int .i64 0, .bool false]) := Lib.hid (by
        rw [HW1.out]
        have h := row_new (w.alloc (.cells #[.int .i64 rm, .slice a0 n0 cp0, .int .i64 (lf - 1), .bool dn] 24)) #[.int .i64 0, .slice none 0 0, .int .i64 0, .bool false] 24
        rwa [World.size_alloc] at h)
      have q1 : IntKind.i64.wrap (lf - 1) = lf - 1 := IntWalk.i64_in _ (by omega)
      go_enter Try.func37, Try.ntmps37
      go_wp2_with fail
      rw [← HW1.out]
      refine (HC1.out _ HB2.out).mono ?_
      rintro e W2 ⟨a2, cp2, rfl, hs, hb⟩
      have HS2 := Lib.hid hs
      have HB3 := Lib.hid hb
      have HRD2 := Lib.hid (HRB1.out.below hb)
      have HRR2 := Lib.hid (HRF1.out.below hb)
      obtain ⟨Ln, HLn⟩ : ∃ L, Hid (L = on.length) := ⟨_, Lib.hid rfl⟩
      rw [← HLn.out] at HS2 ⊢
      clear hs hb
      have r0 := HRD2.out.cell (i := 0) rfl
      have r1 := HRD2.out.cell (i := 1) rfl
      have r2 := HRD2.out.cell (i := 2) rfl
      have r3 := HRD2.out.cell (i := 3) rfl
      have td0 := HRD2.out.thaw 0
      have td1 := HRD2.out.thaw 1
      have td2 := HRD2.out.thaw 2
      have td3 := HRD2.out.thaw 3
      have k0 := HRR2.out.cell (i := 0) rfl
      have k1 := HRR2.out.cell (i := 1) rfl
      have k2 := HRR2.out.cell (i := 2) rfl
      have k3 := HRR2.out.cell (i := 3) rfl
      have t0 := HRR2.out.thaw 0
      have t1 := HRR2.out.thaw 1
      have t2 := HRR2.out.thaw 2
      have t3 := HRR2.out.thaw 3
      have HBU := Lib.hid ((But.refl w.heap.size W2).set 1 (.slice a2 Ln cp2))
      have HBP := Lib.hid (put4_but (W2.setCell ⟨w.heap.size, 1, none⟩ (.slice a2 Ln cp2)) (w.heap.size + 1) (.int .i64 rm) (.slice a2 Ln cp2) (.int .i64 (lf - 1)) (.bool dn))
      have R9 := put4_row (HRR2.out.keep (HBU.out.block (w.heap.size + 1) (by omega))) (.int .i64 rm) (.slice a2 Ln cp2) (.int .i64 (lf - 1)) (.bool dn)
      have f0 := R9.cell (i := 0) rfl
      have f1 := R9.cell (i := 1) rfl
      have f2 := R9.cell (i := 2) rfl
      have f3 := R9.cell (i := 3) rfl
      have HEX : Hid (exeF ⟨rm, fs, lf, dn⟩ on off = (⟨rm, on, lf - 1, dn⟩, 0)) := Lib.hid (by unfold exeF; simp only; rw [if_neg (by omega), if_pos hp])
      have HFIN : Hid (DkP (exeF ⟨rm, fs, lf, dn⟩ on off) w (.returned (.tuple #[.agg #[.int .i64 rm, (.slice a2 Ln cp2), .int .i64 (lf - 1), .bool dn], .int .i64 0])) (put4 (W2.setCell ⟨w.heap.size, 1, none⟩ (.slice a2 Ln cp2)) (w.heap.size + 1) (.int .i64 rm) (.slice a2 Ln cp2) (.int .i64 (lf - 1)) (.bool dn))) := Lib.hid (by
        rw [HEX.out]
        refine ⟨a2, cp2, by rw [HLn.out]; rfl, ?_, ?_⟩
        · have h := slf_two HS2.out HRD2.out HRR2.out (fun k hk1 hk2 => (HBP.out.block k hk2).trans (HBU.out.block k hk1)) (HBP.out.size.trans HBU.out.size)
          simp only; rw [← HLn.out]; exact h
        · exact ((below_trans HB2.out (HB3.out)).trans (HBU.out.below (Nat.le_refl _))).trans (HBP.out.below (B := w.heap.size) (by omega)))
      clear R9
      go_wp2
      exact bodyPost_ret (v := .tuple #[.agg #[.int .i64 rm, (.slice a2 Ln cp2), .int .i64 (lf - 1), .bool dn], .int .i64 0]) (by simp [results, Try.results37, go_sem, f0, f1, f2, f3]) rfl HFIN.out
    · have u1 : decide (0 < lf) = false := decide_eq_false hp
      obtain ⟨W1, HW1⟩ : ∃ W, Hid (W = (w.alloc (.cells #[.int .i64 rm, .slice a0 n0 cp0, .int .i64 lf, .bool dn] 24)).alloc (.cells #[.int .i64 0, .slice none 0 0, .int .i64 0, .bool false] 24)) := ⟨_, Lib.hid rfl⟩
      have HB2 : Hid (Below w.heap.size w W1) := Lib.hid (by rw [HW1.out]; exact below2 _ _ _)
      have HRB1 : Hid (Row W1 w.heap.size 24 [.int .i64 rm, .slice a0 n0 cp0, .int .i64 lf, .bool dn]) := Lib.hid (by rw [HW1.out]; exact (row_new w #[.int .i64 rm, .slice a0 n0 cp0, .int .i64 lf, .bool dn] _).alloc _)
      have HRF1 : Hid (Row W1 (w.heap.size + 1) 24 [.int .i64 0, .slice none 0 0, .int .i64 0, .bool false]) := Lib.hid (by
        rw [HW1.out]
        have h := row_new (w.alloc (.cells #[.int .i64 rm, .slice a0 n0 cp0, .int .i64 lf, .bool dn] 24)) #[.int .i64 0, .slice none 0 0, .int .i64 0, .bool false] 24
        rwa [World.size_alloc] at h)
      go_enter Try.func37, Try.ntmps37
      go_wp2_with fail
      rw [← HW1.out]
      refine (HC1.out _ HB2.out).mono ?_
      rintro e W2 ⟨a2, cp2, rfl, hs, hb⟩
      have HS2 := Lib.hid hs
      have HB3 := Lib.hid hb
      have HRD2 := Lib.hid (HRB1.out.below hb)
      have HRR2 := Lib.hid (HRF1.out.below hb)
      obtain ⟨Ln, HLn⟩ : ∃ L, Hid (L = on.length) := ⟨_, Lib.hid rfl⟩
      rw [← HLn.out] at HS2 ⊢
      clear hs hb
      have r0 := HRD2.out.cell (i := 0) rfl
      have r1 := HRD2.out.cell (i := 1) rfl
      have r2 := HRD2.out.cell (i := 2) rfl
      have r3 := HRD2.out.cell (i := 3) rfl
      have td0 := HRD2.out.thaw 0
      have td1 := HRD2.out.thaw 1
      have td2 := HRD2.out.thaw 2
      have td3 := HRD2.out.thaw 3
      have k0 := HRR2.out.cell (i := 0) rfl
      have k1 := HRR2.out.cell (i := 1) rfl
      have k2 := HRR2.out.cell (i := 2) rfl
      have k3 := HRR2.out.cell (i := 3) rfl
      have t0 := HRR2.out.thaw 0
      have t1 := HRR2.out.thaw 1
      have t2 := HRR2.out.thaw 2
      have t3 := HRR2.out.thaw 3
      have HBU := Lib.hid ((But.refl w.heap.size W2).set 1 (.slice a2 Ln cp2))
      have HBP := Lib.hid (put4_but (W2.setCell ⟨w.heap.size, 1, none⟩ (.slice a2 Ln cp2)) (w.heap.size + 1) (.int .i64 rm) (.slice a2 Ln cp2) (.int .i64 (lf)) (.bool dn))
      have R9 := put4_row (HRR2.out.keep (HBU.out.block (w.heap.size + 1) (by omega))) (.int .i64 rm) (.slice a2 Ln cp2) (.int .i64 (lf)) (.bool dn)
      have f0 := R9.cell (i := 0) rfl
      have f1 := R9.cell (i := 1) rfl
      have f2 := R9.cell (i := 2) rfl
      have f3 := R9.cell (i := 3) rfl
      have HEX : Hid (exeF ⟨rm, fs, lf, dn⟩ on off = (⟨rm, on, lf, dn⟩, 0)) := Lib.hid (by unfold exeF; simp only; rw [if_neg (by omega), if_neg (by omega)])
      have HFIN : Hid (DkP (exeF ⟨rm, fs, lf, dn⟩ on off) w (.returned (.tuple #[.agg #[.int .i64 rm, (.slice a2 Ln cp2), .int .i64 (lf), .bool dn], .int .i64 0])) (put4 (W2.setCell ⟨w.heap.size, 1, none⟩ (.slice a2 Ln cp2)) (w.heap.size + 1) (.int .i64 rm) (.slice a2 Ln cp2) (.int .i64 (lf)) (.bool dn))) := Lib.hid (by
        rw [HEX.out]
        refine ⟨a2, cp2, by rw [HLn.out]; rfl, ?_, ?_⟩
        · have h := slf_two HS2.out HRD2.out HRR2.out (fun k hk1 hk2 => (HBP.out.block k hk2).trans (HBU.out.block k hk1)) (HBP.out.size.trans HBU.out.size)
          simp only; rw [← HLn.out]; exact h
        · exact ((below_trans HB2.out (HB3.out)).trans (HBU.out.below (Nat.le_refl _))).trans (HBP.out.below (B := w.heap.size) (by omega)))
      clear R9
      go_wp2
      exact bodyPost_ret (v := .tuple #[.agg #[.int .i64 rm, (.slice a2 Ln cp2), .int .i64 (lf), .bool dn], .int .i64 0]) (by simp [results, Try.results37, go_sem, f0, f1, f2, f3]) rfl HFIN.out

set_option maxHeartbeats 3200000 in
set_option maxRecDepth 100000 in
theorem execS_any (w : World) (d : Dsk) (a0 : Option Addr) (n0 cp0 : Nat) (on off : List Fil) (c1 c2 : Array Value) (hl : lfB d.left = true)
    (H1 : ∀ W, Below w.heap.size w W → Calls Try.prog 38 c1 W (FsPost on W)) (H2 : ∀ W, Below w.heap.size w W → Calls Try.prog 45 c2 W (FsPost off W)) :
    Calls Try.prog 37 #[diV d (.slice a0 n0 cp0), .func (.func 38) #[] c1, .func (.func 45) #[] c2] w (DkP (exeF d on off) w) := by
  obtain ⟨hl1, hl2⟩ := lfB_iff.1 hl
  obtain ⟨rm, fs, lf, dn⟩ := d
  simp only at hl1 hl2
  have HC1 := Lib.hid H1
  have HC2 := Lib.hid H2
  clear hl H1 H2
  by_cases h0 : lf = 0
  · have u0 : (lf == 0) = true := by rw [beq_iff_eq]; exact h0
    have h0' := h0
    clear h0
    have h0 := Lib.hid h0'
    clear h0'
    obtain ⟨W1, HW1⟩ : ∃ W, Hid (W = (w.alloc (.cells #[.int .i64 rm, .slice a0 n0 cp0, .int .i64 lf, .bool dn] 24)).alloc (.cells #[.int .i64 0, .slice none 0 0, .int .i64 0, .bool false] 24)) := ⟨_, Lib.hid rfl⟩
    have HB2 : Hid (Below w.heap.size w W1) := Lib.hid (by rw [HW1.out]; exact below2 _ _ _)
    have HRB1 : Hid (Row W1 w.heap.size 24 [.int .i64 rm, .slice a0 n0 cp0, .int .i64 lf, .bool dn]) := Lib.hid (by rw [HW1.out]; exact (row_new w #[.int .i64 rm, .slice a0 n0 cp0, .int .i64 lf, .bool dn] _).alloc _)
    have HRF1 : Hid (Row W1 (w.heap.size + 1) 24 [.int .i64 0, .slice none 0 0, .int .i64 0, .bool false]) := Lib.hid (by
      rw [HW1.out]
      have h := row_new (w.alloc (.cells #[.int .i64 rm, .slice a0 n0 cp0, .int .i64 lf, .bool dn] 24)) #[.int .i64 0, .slice none 0 0, .int .i64 0, .bool false] 24
      rwa [World.size_alloc] at h)
    go_enter Try.func37, Try.ntmps37
    go_wp2_with fail
    rw [← HW1.out]
    refine (HC2.out _ HB2.out).mono ?_
    rintro e W2 ⟨a2, cp2, rfl, hs, hb⟩
    have HS2 := Lib.hid hs
    have HB3 := Lib.hid hb
    have HRD2 := Lib.hid (HRB1.out.below hb)
    have HRR2 := Lib.hid (HRF1.out.below hb)
    obtain ⟨Lf, HLf⟩ : ∃ L, Hid (L = off.length) := ⟨_, Lib.hid rfl⟩
    rw [← HLf.out] at HS2 ⊢
    clear hs hb
    have r0 := HRD2.out.cell (i := 0) rfl
    have r1 := HRD2.out.cell (i := 1) rfl
    have r2 := HRD2.out.cell (i := 2) rfl
    have r3 := HRD2.out.cell (i := 3) rfl
    have td0 := HRD2.out.thaw 0
    have td1 := HRD2.out.thaw 1
    have td2 := HRD2.out.thaw 2
    have td3 := HRD2.out.thaw 3
    have k0 := HRR2.out.cell (i := 0) rfl
    have k1 := HRR2.out.cell (i := 1) rfl
    have k2 := HRR2.out.cell (i := 2) rfl
    have k3 := HRR2.out.cell (i := 3) rfl
    have t0 := HRR2.out.thaw 0
    have t1 := HRR2.out.thaw 1
    have t2 := HRR2.out.thaw 2
    have t3 := HRR2.out.thaw 3
    have HBU := Lib.hid (((But.refl w.heap.size W2).set 1 (.slice a2 Lf cp2)).set 3 (.bool true))
    have HBP := Lib.hid (put4_but ((W2.setCell ⟨w.heap.size, 1, none⟩ (.slice a2 Lf cp2)).setCell ⟨w.heap.size, 3, none⟩ (.bool true)) (w.heap.size + 1) (.int .i64 rm) (.slice a2 Lf cp2) (.int .i64 (lf)) (.bool true))
    have R9 := put4_row (HRR2.out.keep (HBU.out.block (w.heap.size + 1) (by omega))) (.int .i64 rm) (.slice a2 Lf cp2) (.int .i64 (lf)) (.bool true)
    have f0 := R9.cell (i := 0) rfl
    have f1 := R9.cell (i := 1) rfl
    have f2 := R9.cell (i := 2) rfl
    have f3 := R9.cell (i := 3) rfl
    have HEX : Hid (exeF ⟨rm, fs, lf, dn⟩ on off = (⟨rm, off, lf, true⟩, 132)) := Lib.hid (by unfold exeF; rw [if_pos h0.out, h0.out])
    have HFIN : Hid (DkP (exeF ⟨rm, fs, lf, dn⟩ on off) w (.returned (.tuple #[.agg #[.int .i64 rm, (.slice a2 Lf cp2), .int .i64 (lf), .bool true], .int .i64 132])) (put4 ((W2.setCell ⟨w.heap.size, 1, none⟩ (.slice a2 Lf cp2)).setCell ⟨w.heap.size, 3, none⟩ (.bool true)) (w.heap.size + 1) (.int .i64 rm) (.slice a2 Lf cp2) (.int .i64 (lf)) (.bool true))) := Lib.hid (by
      rw [HEX.out]
      refine ⟨a2, cp2, by rw [HLf.out]; rfl, ?_, ?_⟩
      · have h := slf_two HS2.out HRD2.out HRR2.out (fun k hk1 hk2 => (HBP.out.block k hk2).trans (HBU.out.block k hk1)) (HBP.out.size.trans HBU.out.size)
        simp only; rw [← HLf.out]; exact h
      · exact ((below_trans HB2.out (HB3.out)).trans (HBU.out.below (Nat.le_refl _))).trans (HBP.out.below (B := w.heap.size) (by omega)))
    clear R9
    go_wp2
    exact bodyPost_ret (v := .tuple #[.agg #[.int .i64 rm, (.slice a2 Lf cp2), .int .i64 (lf), .bool true], .int .i64 132]) (by simp [results, Try.results37, go_sem, f0, f1, f2, f3]) rfl HFIN.out
  · have u0 : (lf == 0) = false := by rw [beq_eq_false_iff_ne]; exact h0
    by_cases hp : 0 < lf
    · have u1 : decide (0 < lf) = true := decide_eq_true hp
      obtain ⟨W1, HW1⟩ : ∃ W, Hid (W = (w.alloc (.cells #[.int .i64 rm, .slice a0 n0 cp0, .int .i64 (lf - 1), .bool dn] 24)).alloc (.cells #[.int .i64 0, .slice none 0 0, .int .i64 0, .bool false] 24)) := ⟨_, Lib.hid rfl⟩
      have HB2 : Hid (Below w.heap.size w W1) := Lib.hid (by rw [HW1.out]; exact below2 _ _ _)
      have HRB1 : Hid (Row W1 w.heap.size 24 [.int .i64 rm, .slice a0 n0 cp0, .int .i64 (lf - 1), .bool dn]) := Lib.hid (by rw [HW1.out]; exact (row_new w #[.int .i64 rm, .slice a0 n0 cp0, .int .i64 (lf - 1), .bool dn] _).alloc _)
      have HRF1 : Hid (Row W1 (w.heap.size + 1) 24 [.int .i64 0, .slice none 0 0, .int .i64 0, .bool false]) := Lib.hid (by
        rw [HW1.out]
        have h := row_new (w.alloc (.cells #[.int .i64 rm, .slice a0 n0 cp0, .int .i64 (lf - 1), .bool dn] 24)) #[.int .i64 0, .slice none 0 0, .int .i64 0, .bool false] 24
        rwa [World.size_alloc] at h)
      have q1 : IntKind.i64.wrap (lf - 1) = lf - 1 := IntWalk.i64_in _ (by omega)
      go_enter Try.func37, Try.ntmps37
      go_wp2_with fail
      rw [← HW1.out]
      refine (HC1.out _ HB2.out).mono ?_
      rintro e W2 ⟨a2, cp2, rfl, hs, hb⟩
      have HS2 := Lib.hid hs
      have HB3 := Lib.hid hb
      have HRD2 := Lib.hid (HRB1.out.below hb)
      have HRR2 := Lib.hid (HRF1.out.below hb)
      obtain ⟨Ln, HLn⟩ : ∃ L, Hid (L = on.length) := ⟨_, Lib.hid rfl⟩
      rw [← HLn.out] at HS2 ⊢
      clear hs hb
      have r0 := HRD2.out.cell (i := 0) rfl
      have r1 := HRD2.out.cell (i := 1) rfl
      have r2 := HRD2.out.cell (i := 2) rfl
      have r3 := HRD2.out.cell (i := 3) rfl
      have td0 := HRD2.out.thaw 0
      have td1 := HRD2.out.thaw 1
      have td2 := HRD2.out.thaw 2
      have td3 := HRD2.out.thaw 3
      have k0 := HRR2.out.cell (i := 0) rfl
      have k1 := HRR2.out.cell (i := 1) rfl
      have k2 := HRR2.out.cell (i := 2) rfl
      have k3 := HRR2.out.cell (i := 3) rfl
      have t0 := HRR2.out.thaw 0
      have t1 := HRR2.out.thaw 1
      have t2 := HRR2.out.thaw 2
      have t3 := HRR2.out.thaw 3
      have HBU := Lib.hid ((But.refl w.heap.size W2).set 1 (.slice a2 Ln cp2))
      have HBP := Lib.hid (put4_but (W2.setCell ⟨w.heap.size, 1, none⟩ (.slice a2 Ln cp2)) (w.heap.size + 1) (.int .i64 rm) (.slice a2 Ln cp2) (.int .i64 (lf - 1)) (.bool dn))
      have R9 := put4_row (HRR2.out.keep (HBU.out.block (w.heap.size + 1) (by omega))) (.int .i64 rm) (.slice a2 Ln cp2) (.int .i64 (lf - 1)) (.bool dn)
      have f0 := R9.cell (i := 0) rfl
      have f1 := R9.cell (i := 1) rfl
      have f2 := R9.cell (i := 2) rfl
      have f3 := R9.cell (i := 3) rfl
      have HEX : Hid (exeF ⟨rm, fs, lf, dn⟩ on off = (⟨rm, on, lf - 1, dn⟩, 0)) := Lib.hid (by unfold exeF; simp only; rw [if_neg (by omega), if_pos hp])
      have HFIN : Hid (DkP (exeF ⟨rm, fs, lf, dn⟩ on off) w (.returned (.tuple #[.agg #[.int .i64 rm, (.slice a2 Ln cp2), .int .i64 (lf - 1), .bool dn], .int .i64 0])) (put4 (W2.setCell ⟨w.heap.size, 1, none⟩ (.slice a2 Ln cp2)) (w.heap.size + 1) (.int .i64 rm) (.slice a2 Ln cp2) (.int .i64 (lf - 1)) (.bool dn))) := Lib.hid (by
        rw [HEX.out]
        refine ⟨a2, cp2, by rw [HLn.out]; rfl, ?_, ?_⟩
        · have h := slf_two HS2.out HRD2.out HRR2.out (fun k hk1 hk2 => (HBP.out.block k hk2).trans (HBU.out.block k hk1)) (HBP.out.size.trans HBU.out.size)
          simp only; rw [← HLn.out]; exact h
        · exact ((below_trans HB2.out (HB3.out)).trans (HBU.out.below (Nat.le_refl _))).trans (HBP.out.below (B := w.heap.size) (by omega)))
      clear R9
      go_wp2
      exact bodyPost_ret (v := .tuple #[.agg #[.int .i64 rm, (.slice a2 Ln cp2), .int .i64 (lf - 1), .bool dn], .int .i64 0]) (by simp [results, Try.results37, go_sem, f0, f1, f2, f3]) rfl HFIN.out
    · have u1 : decide (0 < lf) = false := decide_eq_false hp
      obtain ⟨W1, HW1⟩ : ∃ W, Hid (W = (w.alloc (.cells #[.int .i64 rm, .slice a0 n0 cp0, .int .i64 lf, .bool dn] 24)).alloc (.cells #[.int .i64 0, .slice none 0 0, .int .i64 0, .bool false] 24)) := ⟨_, Lib.hid rfl⟩
      have HB2 : Hid (Below w.heap.size w W1) := Lib.hid (by rw [HW1.out]; exact below2 _ _ _)
      have HRB1 : Hid (Row W1 w.heap.size 24 [.int .i64 rm, .slice a0 n0 cp0, .int .i64 lf, .bool dn]) := Lib.hid (by rw [HW1.out]; exact (row_new w #[.int .i64 rm, .slice a0 n0 cp0, .int .i64 lf, .bool dn] _).alloc _)
      have HRF1 : Hid (Row W1 (w.heap.size + 1) 24 [.int .i64 0, .slice none 0 0, .int .i64 0, .bool false]) := Lib.hid (by
        rw [HW1.out]
        have h := row_new (w.alloc (.cells #[.int .i64 rm, .slice a0 n0 cp0, .int .i64 lf, .bool dn] 24)) #[.int .i64 0, .slice none 0 0, .int .i64 0, .bool false] 24
        rwa [World.size_alloc] at h)
      go_enter Try.func37, Try.ntmps37
      go_wp2_with fail
      rw [← HW1.out]
      refine (HC1.out _ HB2.out).mono ?_
      rintro e W2 ⟨a2, cp2, rfl, hs, hb⟩
      have HS2 := Lib.hid hs
      have HB3 := Lib.hid hb
      have HRD2 := Lib.hid (HRB1.out.below hb)
      have HRR2 := Lib.hid (HRF1.out.below hb)
      obtain ⟨Ln, HLn⟩ : ∃ L, Hid (L = on.length) := ⟨_, Lib.hid rfl⟩
      rw [← HLn.out] at HS2 ⊢
      clear hs hb
      have r0 := HRD2.out.cell (i := 0) rfl
      have r1 := HRD2.out.cell (i := 1) rfl
      have r2 := HRD2.out.cell (i := 2) rfl
      have r3 := HRD2.out.cell (i := 3) rfl
      have td0 := HRD2.out.thaw 0
      have td1 := HRD2.out.thaw 1
      have td2 := HRD2.out.thaw 2
      have td3 := HRD2.out.thaw 3
      have k0 := HRR2.out.cell (i := 0) rfl
      have k1 := HRR2.out.cell (i := 1) rfl
      have k2 := HRR2.out.cell (i := 2) rfl
      have k3 := HRR2.out.cell (i := 3) rfl
      have t0 := HRR2.out.thaw 0
      have t1 := HRR2.out.thaw 1
      have t2 := HRR2.out.thaw 2
      have t3 := HRR2.out.thaw 3
      have HBU := Lib.hid ((But.refl w.heap.size W2).set 1 (.slice a2 Ln cp2))
      have HBP := Lib.hid (put4_but (W2.setCell ⟨w.heap.size, 1, none⟩ (.slice a2 Ln cp2)) (w.heap.size + 1) (.int .i64 rm) (.slice a2 Ln cp2) (.int .i64 (lf)) (.bool dn))
      have R9 := put4_row (HRR2.out.keep (HBU.out.block (w.heap.size + 1) (by omega))) (.int .i64 rm) (.slice a2 Ln cp2) (.int .i64 (lf)) (.bool dn)
      have f0 := R9.cell (i := 0) rfl
      have f1 := R9.cell (i := 1) rfl
      have f2 := R9.cell (i := 2) rfl
      have f3 := R9.cell (i := 3) rfl
      have HEX : Hid (exeF ⟨rm, fs, lf, dn⟩ on off = (⟨rm, on, lf, dn⟩, 0)) := Lib.hid (by unfold exeF; simp only; rw [if_neg (by omega), if_neg (by omega)])
      have HFIN : Hid (DkP (exeF ⟨rm, fs, lf, dn⟩ on off) w (.returned (.tuple #[.agg #[.int .i64 rm, (.slice a2 Ln cp2), .int .i64 (lf), .bool dn], .int .i64 0])) (put4 (W2.setCell ⟨w.heap.size, 1, none⟩ (.slice a2 Ln cp2)) (w.heap.size + 1) (.int .i64 rm) (.slice a2 Ln cp2) (.int .i64 (lf)) (.bool dn))) := Lib.hid (by
        rw [HEX.out]
        refine ⟨a2, cp2, by rw [HLn.out]; rfl, ?_, ?_⟩
        · have h := slf_two HS2.out HRD2.out HRR2.out (fun k hk1 hk2 => (HBP.out.block k hk2).trans (HBU.out.block k hk1)) (HBP.out.size.trans HBU.out.size)
          simp only; rw [← HLn.out]; exact h
        · exact ((below_trans HB2.out (HB3.out)).trans (HBU.out.below (Nat.le_refl _))).trans (HBP.out.below (B := w.heap.size) (by omega)))
      clear R9
      go_wp2
      exact bodyPost_ret (v := .tuple #[.agg #[.int .i64 rm, (.slice a2 Ln cp2), .int .i64 (lf), .bool dn], .int .i64 0]) (by simp [results, Try.results37, go_sem, f0, f1, f2, f3]) rfl HFIN.out

set_option maxHeartbeats 3200000 in
set_option maxRecDepth 100000 in
theorem execN_any (w : World) (d : Dsk) (a0 : Option Addr) (n0 cp0 : Nat) (on off : List Fil) (c1 c2 : Array Value) (hl : lfB d.left = true)
    (H1 : ∀ W, Below w.heap.size w W → Calls Try.prog 40 c1 W (FsPost on W)) (H2 : ∀ W, Below w.heap.size w W → Calls Try.prog 45 c2 W (FsPost off W)) :
    Calls Try.prog 37 #[diV d (.slice a0 n0 cp0), .func (.func 40) #[] c1, .func (.func 45) #[] c2] w (DkP (exeF d on off) w) := by
  obtain ⟨hl1, hl2⟩ := lfB_iff.1 hl
  obtain ⟨rm, fs, lf, dn⟩ := d
  simp only at hl1 hl2
  have HC1 := Lib.hid H1
  have HC2 := Lib.hid H2
  clear hl H1 H2
  by_cases h0 : lf = 0
  · have u0 : (lf == 0) = true := by rw [beq_iff_eq]; exact h0
    have h0' := h0
    clear h0
    have h0 := Lib.hid h0'
    clear h0'
    obtain ⟨W1, HW1⟩ : ∃ W, Hid (W = (w.alloc (.cells #[.int .i64 rm, .slice a0 n0 cp0, .int .i64 lf, .bool dn] 24)).alloc (.cells #[.int .i64 0, .slice none 0 0, .int .i64 0, .bool false] 24)) := ⟨_, Lib.hid rfl⟩
    have HB2 : Hid (Below w.heap.size w W1) := Lib.hid (by rw [HW1.out]; exact below2 _ _ _)
    have HRB1 : Hid (Row W1 w.heap.size 24 [.int .i64 rm, .slice a0 n0 cp0, .int .i64 lf, .bool dn]) := Lib.hid (by rw [HW1.out]; exact (row_new w #[.int .i64 rm, .slice a0 n0 cp0, .int .i64 lf, .bool dn] _).alloc _)
    have HRF1 : Hid (Row W1 (w.heap.size + 1) 24 [.int .i64 0, .slice none 0 0, .int .i64 0, .bool false]) := Lib.hid (by
      rw [HW1.out]
      have h := row_new (w.alloc (.cells #[.int .i64 rm, .slice a0 n0 cp0, .int .i64 lf, .bool dn] 24)) #[.int .i64 0, .slice none 0 0, .int .i64 0, .bool false] 24
      rwa [World.size_alloc] at h)
    go_enter Try.func37, Try.ntmps37
    go_wp2_with fail
    rw [← HW1.out]
    refine (HC2.out _ HB2.out).mono ?_
    rintro e W2 ⟨a2, cp2, rfl, hs, hb⟩
    have HS2 := Lib.hid hs
    have HB3 := Lib.hid hb
    have HRD2 := Lib.hid (HRB1.out.below hb)
    have HRR2 := Lib.hid (HRF1.out.below hb)
    obtain ⟨Lf, HLf⟩ : ∃ L, Hid (L = off.length) := ⟨_, Lib.hid rfl⟩
    rw [← HLf.out] at HS2 ⊢
    clear hs hb
    have r0 := HRD2.out.cell (i := 0) rfl
    have r1 := HRD2.out.cell (i := 1) rfl
    have r2 := HRD2.out.cell (i := 2) rfl
    have r3 := HRD2.out.cell (i := 3) rfl
    have td0 := HRD2.out.thaw 0
    have td1 := HRD2.out.thaw 1
    have td2 := HRD2.out.thaw 2
    have td3 := HRD2.out.thaw 3
    have k0 := HRR2.out.cell (i := 0) rfl
    have k1 := HRR2.out.cell (i := 1) rfl
    have k2 := HRR2.out.cell (i := 2) rfl
    have k3 := HRR2.out.cell (i := 3) rfl
    have t0 := HRR2.out.thaw 0
    have t1 := HRR2.out.thaw 1
    have t2 := HRR2.out.thaw 2
    have t3 := HRR2.out.thaw 3
    have HBU := Lib.hid (((But.refl w.heap.size W2).set 1 (.slice a2 Lf cp2)).set 3 (.bool true))
    have HBP := Lib.hid (put4_but ((W2.setCell ⟨w.heap.size, 1, none⟩ (.slice a2 Lf cp2)).setCell ⟨w.heap.size, 3, none⟩ (.bool true)) (w.heap.size + 1) (.int .i64 rm) (.slice a2 Lf cp2) (.int .i64 (lf)) (.bool true))
    have R9 := put4_row (HRR2.out.keep (HBU.out.block (w.heap.size + 1) (by omega))) (.int .i64 rm) (.slice a2 Lf cp2) (.int .i64 (lf)) (.bool true)
    have f0 := R9.cell (i := 0) rfl
    have f1 := R9.cell (i := 1) rfl
    have f2 := R9.cell (i := 2) rfl
    have f3 := R9.cell (i := 3) rfl
    have HEX : Hid (exeF ⟨rm, fs, lf, dn⟩ on off = (⟨rm, off, lf, true⟩, 132)) := Lib.hid (by unfold exeF; rw [if_pos h0.out, h0.out])
    have HFIN : Hid (DkP (exeF ⟨rm, fs, lf, dn⟩ on off) w (.returned (.tuple #[.agg #[.int .i64 rm, (.slice a2 Lf cp2), .int .i64 (lf), .bool true], .int .i64 132])) (put4 ((W2.setCell ⟨w.heap.size, 1, none⟩ (.slice a2 Lf cp2)).setCell ⟨w.heap.size, 3, none⟩ (.bool true)) (w.heap.size + 1) (.int .i64 rm) (.slice a2 Lf cp2) (.int .i64 (lf)) (.bool true))) := Lib.hid (by
      rw [HEX.out]
      refine ⟨a2, cp2, by rw [HLf.out]; rfl, ?_, ?_⟩
      · have h := slf_two HS2.out HRD2.out HRR2.out (fun k hk1 hk2 => (HBP.out.block k hk2).trans (HBU.out.block k hk1)) (HBP.out.size.trans HBU.out.size)
        simp only; rw [← HLf.out]; exact h
      · exact ((below_trans HB2.out (HB3.out)).trans (HBU.out.below (Nat.le_refl _))).trans (HBP.out.below (B := w.heap.size) (by omega)))
    clear R9
    go_wp2
    exact bodyPost_ret (v := .tuple #[.agg #[.int .i64 rm, (.slice a2 Lf cp2), .int .i64 (lf), .bool true], .int .i64 132]) (by simp [results, Try.results37, go_sem, f0, f1, f2, f3]) rfl HFIN.out
  · have u0 : (lf == 0) = false := by rw [beq_eq_false_iff_ne]; exact h0
    by_cases hp : 0 < lf
    · have u1 : decide (0 < lf) = true := decide_eq_true hp
      obtain ⟨W1, HW1⟩ : ∃ W, Hid (W = (w.alloc (.cells #[.int .i64 rm, .slice a0 n0 cp0, .int .i64 (lf - 1), .bool dn] 24)).alloc (.cells #[.int .i64 0, .slice none 0 0, .int .i64 0, .bool false] 24)) := ⟨_, Lib.hid rfl⟩
      have HB2 : Hid (Below w.heap.size w W1) := Lib.hid (by rw [HW1.out]; exact below2 _ _ _)
      have HRB1 : Hid (Row W1 w.heap.size 24 [.int .i64 rm, .slice a0 n0 cp0, .int .i64 (lf - 1), .bool dn]) := Lib.hid (by rw [HW1.out]; exact (row_new w #[.int .i64 rm, .slice a0 n0 cp0, .int .i64 (lf - 1), .bool dn] _).alloc _)
      have HRF1 : Hid (Row W1 (w.heap.size + 1) 24 [.int .i64 0, .slice none 0 0, .int .i64 0, .bool false]) := Lib.hid (by
        rw [HW1.out]
        have h := row_new (w.alloc (.cells #[.int .i64 rm, .slice a0 n0 cp0, .int .i64 (lf - 1), .bool dn] 24)) #[.int .i64 0, .slice none 0 0, .int .i64 0, .bool false] 24
        rwa [World.size_alloc] at h)
      have q1 : IntKind.i64.wrap (lf - 1) = lf - 1 := IntWalk.i64_in _ (by omega)
      go_enter Try.func37, Try.ntmps37
      go_wp2_with fail
      rw [← HW1.out]
      refine (HC1.out _ HB2.out).mono ?_
      rintro e W2 ⟨a2, cp2, rfl, hs, hb⟩
      have HS2 := Lib.hid hs
      have HB3 := Lib.hid hb
      have HRD2 := Lib.hid (HRB1.out.below hb)
      have HRR2 := Lib.hid (HRF1.out.below hb)
      obtain ⟨Ln, HLn⟩ : ∃ L, Hid (L = on.length) := ⟨_, Lib.hid rfl⟩
      rw [← HLn.out] at HS2 ⊢
      clear hs hb
      have r0 := HRD2.out.cell (i := 0) rfl
      have r1 := HRD2.out.cell (i := 1) rfl
      have r2 := HRD2.out.cell (i := 2) rfl
      have r3 := HRD2.out.cell (i := 3) rfl
      have td0 := HRD2.out.thaw 0
      have td1 := HRD2.out.thaw 1
      have td2 := HRD2.out.thaw 2
      have td3 := HRD2.out.thaw 3
      have k0 := HRR2.out.cell (i := 0) rfl
      have k1 := HRR2.out.cell (i := 1) rfl
      have k2 := HRR2.out.cell (i := 2) rfl
      have k3 := HRR2.out.cell (i := 3) rfl
      have t0 := HRR2.out.thaw 0
      have t1 := HRR2.out.thaw 1
      have t2 := HRR2.out.thaw 2
      have t3 := HRR2.out.thaw 3
      have HBU := Lib.hid ((But.refl w.heap.size W2).set 1 (.slice a2 Ln cp2))
      have HBP := Lib.hid (put4_but (W2.setCell ⟨w.heap.size, 1, none⟩ (.slice a2 Ln cp2)) (w.heap.size + 1) (.int .i64 rm) (.slice a2 Ln cp2) (.int .i64 (lf - 1)) (.bool dn))
      have R9 := put4_row (HRR2.out.keep (HBU.out.block (w.heap.size + 1) (by omega))) (.int .i64 rm) (.slice a2 Ln cp2) (.int .i64 (lf - 1)) (.bool dn)
      have f0 := R9.cell (i := 0) rfl
      have f1 := R9.cell (i := 1) rfl
      have f2 := R9.cell (i := 2) rfl
      have f3 := R9.cell (i := 3) rfl
      have HEX : Hid (exeF ⟨rm, fs, lf, dn⟩ on off = (⟨rm, on, lf - 1, dn⟩, 0)) := Lib.hid (by unfold exeF; simp only; rw [if_neg (by omega), if_pos hp])
      have HFIN : Hid (DkP (exeF ⟨rm, fs, lf, dn⟩ on off) w (.returned (.tuple #[.agg #[.int .i64 rm, (.slice a2 Ln cp2), .int .i64 (lf - 1), .bool dn], .int .i64 0])) (put4 (W2.setCell ⟨w.heap.size, 1, none⟩ (.slice a2 Ln cp2)) (w.heap.size + 1) (.int .i64 rm) (.slice a2 Ln cp2) (.int .i64 (lf - 1)) (.bool dn))) := Lib.hid (by
        rw [HEX.out]
        refine ⟨a2, cp2, by rw [HLn.out]; rfl, ?_, ?_⟩
        · have h := slf_two HS2.out HRD2.out HRR2.out (fun k hk1 hk2 => (HBP.out.block k hk2).trans (HBU.out.block k hk1)) (HBP.out.size.trans HBU.out.size)
          simp only; rw [← HLn.out]; exact h
        · exact ((below_trans HB2.out (HB3.out)).trans (HBU.out.below (Nat.le_refl _))).trans (HBP.out.below (B := w.heap.size) (by omega)))
      clear R9
      go_wp2
      exact bodyPost_ret (v := .tuple #[.agg #[.int .i64 rm, (.slice a2 Ln cp2), .int .i64 (lf - 1), .bool dn], .int .i64 0]) (by simp [results, Try.results37, go_sem, f0, f1, f2, f3]) rfl HFIN.out
    · have u1 : decide (0 < lf) = false := decide_eq_false hp
      obtain ⟨W1, HW1⟩ : ∃ W, Hid (W = (w.alloc (.cells #[.int .i64 rm, .slice a0 n0 cp0, .int .i64 lf, .bool dn] 24)).alloc (.cells #[.int .i64 0, .slice none 0 0, .int .i64 0, .bool false] 24)) := ⟨_, Lib.hid rfl⟩
      have HB2 : Hid (Below w.heap.size w W1) := Lib.hid (by rw [HW1.out]; exact below2 _ _ _)
      have HRB1 : Hid (Row W1 w.heap.size 24 [.int .i64 rm, .slice a0 n0 cp0, .int .i64 lf, .bool dn]) := Lib.hid (by rw [HW1.out]; exact (row_new w #[.int .i64 rm, .slice a0 n0 cp0, .int .i64 lf, .bool dn] _).alloc _)
      have HRF1 : Hid (Row W1 (w.heap.size + 1) 24 [.int .i64 0, .slice none 0 0, .int .i64 0, .bool false]) := Lib.hid (by
        rw [HW1.out]
        have h := row_new (w.alloc (.cells #[.int .i64 rm, .slice a0 n0 cp0, .int .i64 lf, .bool dn] 24)) #[.int .i64 0, .slice none 0 0, .int .i64 0, .bool false] 24
        rwa [World.size_alloc] at h)
      go_enter Try.func37, Try.ntmps37
      go_wp2_with fail
      rw [← HW1.out]
      refine (HC1.out _ HB2.out).mono ?_
      rintro e W2 ⟨a2, cp2, rfl, hs, hb⟩
      have HS2 := Lib.hid hs
      have HB3 := Lib.hid hb
      have HRD2 := Lib.hid (HRB1.out.below hb)
      have HRR2 := Lib.hid (HRF1.out.below hb)
      obtain ⟨Ln, HLn⟩ : ∃ L, Hid (L = on.length) := ⟨_, Lib.hid rfl⟩
      rw [← HLn.out] at HS2 ⊢
      clear hs hb
      have r0 := HRD2.out.cell (i := 0) rfl
      have r1 := HRD2.out.cell (i := 1) rfl
      have r2 := HRD2.out.cell (i := 2) rfl
      have r3 := HRD2.out.cell (i := 3) rfl
      have td0 := HRD2.out.thaw 0
      have td1 := HRD2.out.thaw 1
      have td2 := HRD2.out.thaw 2
      have td3 := HRD2.out.thaw 3
      have k0 := HRR2.out.cell (i := 0) rfl
      have k1 := HRR2.out.cell (i := 1) rfl
      have k2 := HRR2.out.cell (i := 2) rfl
      have k3 := HRR2.out.cell (i := 3) rfl
      have t0 := HRR2.out.thaw 0
      have t1 := HRR2.out.thaw 1
      have t2 := HRR2.out.thaw 2
      have t3 := HRR2.out.thaw 3
      have HBU := Lib.hid ((But.refl w.heap.size W2).set 1 (.slice a2 Ln cp2))
      have HBP := Lib.hid (put4_but (W2.setCell ⟨w.heap.size, 1, none⟩ (.slice a2 Ln cp2)) (w.heap.size + 1) (.int .i64 rm) (.slice a2 Ln cp2) (.int .i64 (lf)) (.bool dn))
      have R9 := put4_row (HRR2.out.keep (HBU.out.block (w.heap.size + 1) (by omega))) (.int .i64 rm) (.slice a2 Ln cp2) (.int .i64 (lf)) (.bool dn)
      have f0 := R9.cell (i := 0) rfl
      have f1 := R9.cell (i := 1) rfl
      have f2 := R9.cell (i := 2) rfl
      have f3 := R9.cell (i := 3) rfl
      have HEX : Hid (exeF ⟨rm, fs, lf, dn⟩ on off = (⟨rm, on, lf, dn⟩, 0)) := Lib.hid (by unfold exeF; simp only; rw [if_neg (by omega), if_neg (by omega)])
      have HFIN : Hid (DkP (exeF ⟨rm, fs, lf, dn⟩ on off) w (.returned (.tuple #[.agg #[.int .i64 rm, (.slice a2 Ln cp2), .int .i64 (lf), .bool dn], .int .i64 0])) (put4 (W2.setCell ⟨w.heap.size, 1, none⟩ (.slice a2 Ln cp2)) (w.heap.size + 1) (.int .i64 rm) (.slice a2 Ln cp2) (.int .i64 (lf)) (.bool dn))) := Lib.hid (by
        rw [HEX.out]
        refine ⟨a2, cp2, by rw [HLn.out]; rfl, ?_, ?_⟩
        · have h := slf_two HS2.out HRD2.out HRR2.out (fun k hk1 hk2 => (HBP.out.block k hk2).trans (HBU.out.block k hk1)) (HBP.out.size.trans HBU.out.size)
          simp only; rw [← HLn.out]; exact h
        · exact ((below_trans HB2.out (HB3.out)).trans (HBU.out.below (Nat.le_refl _))).trans (HBP.out.below (B := w.heap.size) (by omega)))
      clear R9
      go_wp2
      exact bodyPost_ret (v := .tuple #[.agg #[.int .i64 rm, (.slice a2 Ln cp2), .int .i64 (lf), .bool dn], .int .i64 0]) (by simp [results, Try.results37, go_sem, f0, f1, f2, f3]) rfl HFIN.out

set_option maxHeartbeats 3200000 in
set_option maxRecDepth 100000 in
theorem execR_any (w : World) (d : Dsk) (a0 : Option Addr) (n0 cp0 : Nat) (on off : List Fil) (c1 c2 : Array Value) (hl : lfB d.left = true)
    (H1 : ∀ W, Below w.heap.size w W → Calls Try.prog 42 c1 W (FsPost on W)) (H2 : ∀ W, Below w.heap.size w W → Calls Try.prog 45 c2 W (FsPost off W)) :
    Calls Try.prog 37 #[diV d (.slice a0 n0 cp0), .func (.func 42) #[] c1, .func (.func 45) #[] c2] w (DkP (exeF d on off) w) := by
  obtain ⟨hl1, hl2⟩ := lfB_iff.1 hl
  obtain ⟨rm, fs, lf, dn⟩ := d
  simp only at hl1 hl2
  have HC1 := Lib.hid H1
  have HC2 := Lib.hid H2
  clear hl H1 H2
  by_cases h0 : lf = 0
  · have u0 : (lf == 0) = true := by rw [beq_iff_eq]; exact h0
    have h0' := h0
    clear h0
    have h0 := Lib.hid h0'
    clear h0'
    obtain ⟨W1, HW1⟩ : ∃ W, Hid (W = (w.alloc (.cells #[.int .i64 rm, .slice a0 n0 cp0, .int .i64 lf, .bool dn] 24)).alloc (.cells #[.int .i64 0, .slice none 0 0, .int .i64 0, .bool false] 24)) := ⟨_, Lib.hid rfl⟩
    have HB2 : Hid (Below w.heap.size w W1) := Lib.hid (by rw [HW1.out]; exact below2 _ _ _)
    have HRB1 : Hid (Row W1 w.heap.size 24 [.int .i64 rm, .slice a0 n0 cp0, .int .i64 lf, .bool dn]) := Lib.hid (by rw [HW1.out]; exact (row_new w #[.int .i64 rm, .slice a0 n0 cp0, .int .i64 lf, .bool dn] _).alloc _)
    have HRF1 : Hid (Row W1 (w.heap.size + 1) 24 [.int .i64 0, .slice none 0 0, .int .i64 0, .bool false]) := Lib.hid (by
      rw [HW1.out]
      have h := row_new (w.alloc (.cells #[.int .i64 rm, .slice a0 n0 cp0, .int .i64 lf, .bool dn] 24)) #[.int .i64 0, .slice none 0 0, .int .i64 0, .bool false] 24
      rwa [World.size_alloc] at h)
    go_enter Try.func37, Try.ntmps37
    go_wp2_with fail
    rw [← HW1.out]
    refine (HC2.out _ HB2.out).mono ?_
    rintro e W2 ⟨a2, cp2, rfl, hs, hb⟩
    have HS2 := Lib.hid hs
    have HB3 := Lib.hid hb
    have HRD2 := Lib.hid (HRB1.out.below hb)
    have HRR2 := Lib.hid (HRF1.out.below hb)
    obtain ⟨Lf, HLf⟩ : ∃ L, Hid (L = off.length) := ⟨_, Lib.hid rfl⟩
    rw [← HLf.out] at HS2 ⊢
    clear hs hb
    have r0 := HRD2.out.cell (i := 0) rfl
    have r1 := HRD2.out.cell (i := 1) rfl
    have r2 := HRD2.out.cell (i := 2) rfl
    have r3 := HRD2.out.cell (i := 3) rfl
    have td0 := HRD2.out.thaw 0
    have td1 := HRD2.out.thaw 1
    have td2 := HRD2.out.thaw 2
    have td3 := HRD2.out.thaw 3
    have k0 := HRR2.out.cell (i := 0) rfl
    have k1 := HRR2.out.cell (i := 1) rfl
    have k2 := HRR2.out.cell (i := 2) rfl
    have k3 := HRR2.out.cell (i := 3) rfl
    have t0 := HRR2.out.thaw 0
    have t1 := HRR2.out.thaw 1
    have t2 := HRR2.out.thaw 2
    have t3 := HRR2.out.thaw 3
    have HBU := Lib.hid (((But.refl w.heap.size W2).set 1 (.slice a2 Lf cp2)).set 3 (.bool true))
    have HBP := Lib.hid (put4_but ((W2.setCell ⟨w.heap.size, 1, none⟩ (.slice a2 Lf cp2)).setCell ⟨w.heap.size, 3, none⟩ (.bool true)) (w.heap.size + 1) (.int .i64 rm) (.slice a2 Lf cp2) (.int .i64 (lf)) (.bool true))
    have R9 := put4_row (HRR2.out.keep (HBU.out.block (w.heap.size + 1) (by omega))) (.int .i64 rm) (.slice a2 Lf cp2) (.int .i64 (lf)) (.bool true)
    have f0 := R9.cell (i := 0) rfl
    have f1 := R9.cell (i := 1) rfl
    have f2 := R9.cell (i := 2) rfl
    have f3 := R9.cell (i := 3) rfl
    have HEX : Hid (exeF ⟨rm, fs, lf, dn⟩ on off = (⟨rm, off, lf, true⟩, 132)) := Lib.hid (by unfold exeF; rw [if_pos h0.out, h0.out])
    have HFIN : Hid (DkP (exeF ⟨rm, fs, lf, dn⟩ on off) w (.returned (.tuple #[.agg #[.int .i64 rm, (.slice a2 Lf cp2), .int .i64 (lf), .bool true], .int .i64 132])) (put4 ((W2.setCell ⟨w.heap.size, 1, none⟩ (.slice a2 Lf cp2)).setCell ⟨w.heap.size, 3, none⟩ (.bool true)) (w.heap.size + 1) (.int .i64 rm) (.slice a2 Lf cp2) (.int .i64 (lf)) (.bool true))) := Lib.hid (by
      rw [HEX.out]
      refine ⟨a2, cp2, by rw [HLf.out]; rfl, ?_, ?_⟩
      · have h := slf_two HS2.out HRD2.out HRR2.out (fun k hk1 hk2 => (HBP.out.block k hk2).trans (HBU.out.block k hk1)) (HBP.out.size.trans HBU.out.size)
        simp only; rw [← HLf.out]; exact h
      · exact ((below_trans HB2.out (HB3.out)).trans (HBU.out.below (Nat.le_refl _))).trans (HBP.out.below (B := w.heap.size) (by omega)))
    clear R9
    go_wp2
    exact bodyPost_ret (v := .tuple #[.agg #[.int .i64 rm, (.slice a2 Lf cp2), .int .i64 (lf), .bool true], .int .i64 132]) (by simp [results, Try.results37, go_sem, f0, f1, f2, f3]) rfl HFIN.out
  · have u0 : (lf == 0) = false := by rw [beq_eq_false_iff_ne]; exact h0
    by_cases hp : 0 < lf
    · have u1 : decide (0 < lf) = true := decide_eq_true hp
      obtain ⟨W1, HW1⟩ : ∃ W, Hid (W = (w.alloc (.cells #[.int .i64 rm, .slice a0 n0 cp0, .int .i64 (lf - 1), .bool dn] 24)).alloc (.cells #[.int .i64 0, .slice none 0 0, .int .i64 0, .bool false] 24)) := ⟨_, Lib.hid rfl⟩
      have HB2 : Hid (Below w.heap.size w W1) := Lib.hid (by rw [HW1.out]; exact below2 _ _ _)
      have HRB1 : Hid (Row W1 w.heap.size 24 [.int .i64 rm, .slice a0 n0 cp0, .int .i64 (lf - 1), .bool dn]) := Lib.hid (by rw [HW1.out]; exact (row_new w #[.int .i64 rm, .slice a0 n0 cp0, .int .i64 (lf - 1), .bool dn] _).alloc _)
      have HRF1 : Hid (Row W1 (w.heap.size + 1) 24 [.int .i64 0, .slice none 0 0, .int .i64 0, .bool false]) := Lib.hid (by
        rw [HW1.out]
        have h := row_new (w.alloc (.cells #[.int .i64 rm, .slice a0 n0 cp0, .int .i64 (lf - 1), .bool dn] 24)) #[.int .i64 0, .slice none 0 0, .int .i64 0, .bool false] 24
        rwa [World.size_alloc] at h)
      have q1 : IntKind.i64.wrap (lf - 1) = lf - 1 := IntWalk.i64_in _ (by omega)
      go_enter Try.func37, Try.ntmps37
      go_wp2_with fail
      rw [← HW1.out]
      refine (HC1.out _ HB2.out).mono ?_
      rintro e W2 ⟨a2, cp2, rfl, hs, hb⟩
      have HS2 := Lib.hid hs
      have HB3 := Lib.hid hb
      have HRD2 := Lib.hid (HRB1.out.below hb)
      have HRR2 := Lib.hid (HRF1.out.below hb)
      obtain ⟨Ln, HLn⟩ : ∃ L, Hid (L = on.length) := ⟨_, Lib.hid rfl⟩
      rw [← HLn.out] at HS2 ⊢
      clear hs hb
      have r0 := HRD2.out.cell (i := 0) rfl
      have r1 := HRD2.out.cell (i := 1) rfl
      have r2 := HRD2.out.cell (i := 2) rfl
      have r3 := HRD2.out.cell (i := 3) rfl
      have td0 := HRD2.out.thaw 0
      have td1 := HRD2.out.thaw 1
      have td2 := HRD2.out.thaw 2
      have td3 := HRD2.out.thaw 3
      have k0 := HRR2.out.cell (i := 0) rfl
      have k1 := HRR2.out.cell (i := 1) rfl
      have k2 := HRR2.out.cell (i := 2) rfl
      have k3 := HRR2.out.cell (i := 3) rfl
      have t0 := HRR2.out.thaw 0
      have t1 := HRR2.out.thaw 1
      have t2 := HRR2.out.thaw 2
      have t3 := HRR2.out.thaw 3
      have HBU := Lib.hid ((But.refl w.heap.size W2).set 1 (.slice a2 Ln cp2))
      have HBP := Lib.hid (put4_but (W2.setCell ⟨w.heap.size, 1, none⟩ (.slice a2 Ln cp2)) (w.heap.size + 1) (.int .i64 rm) (.slice a2 Ln cp2) (.int .i64 (lf - 1)) (.bool dn))
      have R9 := put4_row (HRR2.out.keep (HBU.out.block (w.heap.size + 1) (by omega))) (.int .i64 rm) (.slice a2 Ln cp2) (.int .i64 (lf - 1)) (.bool dn)
      have f0 := R9.cell (i := 0) rfl
      have f1 := R9.cell (i := 1) rfl
      have f2 := R9.cell (i := 2) rfl
      have f3 := R9.cell (i := 3) rfl
      have HEX : Hid (exeF ⟨rm, fs, lf, dn⟩ on off = (⟨rm, on, lf - 1, dn⟩, 0)) := Lib.hid (by unfold exeF; simp only; rw [if_neg (by omega), if_pos hp])
      have HFIN : Hid (DkP (exeF ⟨rm, fs, lf, dn⟩ on off) w (.returned (.tuple #[.agg #[.int .i64 rm, (.slice a2 Ln cp2), .int .i64 (lf - 1), .bool dn], .int .i64 0])) (put4 (W2.setCell ⟨w.heap.size, 1, none⟩ (.slice a2 Ln cp2)) (w.heap.size + 1) (.int .i64 rm) (.slice a2 Ln cp2) (.int .i64 (lf - 1)) (.bool dn))) := Lib.hid (by
        rw [HEX.out]
        refine ⟨a2, cp2, by rw [HLn.out]; rfl, ?_, ?_⟩
        · have h := slf_two HS2.out HRD2.out HRR2.out (fun k hk1 hk2 => (HBP.out.block k hk2).trans (HBU.out.block k hk1)) (HBP.out.size.trans HBU.out.size)
          simp only; rw [← HLn.out]; exact h
        · exact ((below_trans HB2.out (HB3.out)).trans (HBU.out.below (Nat.le_refl _))).trans (HBP.out.below (B := w.heap.size) (by omega)))
      clear R9
      go_wp2
      exact bodyPost_ret (v := .tuple #[.agg #[.int .i64 rm, (.slice a2 Ln cp2), .int .i64 (lf - 1), .bool dn], .int .i64 0]) (by simp [results, Try.results37, go_sem, f0, f1, f2, f3]) rfl HFIN.out
    · have u1 : decide (0 < lf) = false := decide_eq_false hp
      obtain ⟨W1, HW1⟩ : ∃ W, Hid (W = (w.alloc (.cells #[.int .i64 rm, .slice a0 n0 cp0, .int .i64 lf, .bool dn] 24)).alloc (.cells #[.int .i64 0, .slice none 0 0, .int .i64 0, .bool false] 24)) := ⟨_, Lib.hid rfl⟩
      have HB2 : Hid (Below w.heap.size w W1) := Lib.hid (by rw [HW1.out]; exact below2 _ _ _)
      have HRB1 : Hid (Row W1 w.heap.size 24 [.int .i64 rm, .slice a0 n0 cp0, .int .i64 lf, .bool dn]) := Lib.hid (by rw [HW1.out]; exact (row_new w #[.int .i64 rm, .slice a0 n0 cp0, .int .i64 lf, .bool dn] _).alloc _)
      have HRF1 : Hid (Row W1 (w.heap.size + 1) 24 [.int .i64 0, .slice none 0 0, .int .i64 0, .bool false]) := Lib.hid (by
        rw [HW1.out]
        have h := row_new (w.alloc (.cells #[.int .i64 rm, .slice a0 n0 cp0, .int .i64 lf, .bool dn] 24)) #[.int .i64 0, .slice none 0 0, .int .i64 0, .bool false] 24
        rwa [World.size_alloc] at h)
      go_enter Try.func37, Try.ntmps37
      go_wp2_with fail
      rw [← HW1.out]
      refine (HC1.out _ HB2.out).mono ?_
      rintro e W2 ⟨a2, cp2, rfl, hs, hb⟩
      have HS2 := Lib.hid hs
      have HB3 := Lib.hid hb
      have HRD2 := Lib.hid (HRB1.out.below hb)
      have HRR2 := Lib.hid (HRF1.out.below hb)
      obtain ⟨Ln, HLn⟩ : ∃ L, Hid (L = on.length) := ⟨_, Lib.hid rfl⟩
      rw [← HLn.out] at HS2 ⊢
      clear hs hb
      have r0 := HRD2.out.cell (i := 0) rfl
      have r1 := HRD2.out.cell (i := 1) rfl
      have r2 := HRD2.out.cell (i := 2) rfl
      have r3 := HRD2.out.cell (i := 3) rfl
      have td0 := HRD2.out.thaw 0
      have td1 := HRD2.out.thaw 1
      have td2 := HRD2.out.thaw 2
      have td3 := HRD2.out.thaw 3
      have k0 := HRR2.out.cell (i := 0) rfl
      have k1 := HRR2.out.cell (i := 1) rfl
      have k2 := HRR2.out.cell (i := 2) rfl
      have k3 := HRR2.out.cell (i := 3) rfl
      have t0 := HRR2.out.thaw 0
      have t1 := HRR2.out.thaw 1
      have t2 := HRR2.out.thaw 2
      have t3 := HRR2.out.thaw 3
      have HBU := Lib.hid ((But.refl w.heap.size W2).set 1 (.slice a2 Ln cp2))
      have HBP := Lib.hid (put4_but (W2.setCell ⟨w.heap.size, 1, none⟩ (.slice a2 Ln cp2)) (w.heap.size + 1) (.int .i64 rm) (.slice a2 Ln cp2) (.int .i64 (lf)) (.bool dn))
      have R9 := put4_row (HRR2.out.keep (HBU.out.block (w.heap.size + 1) (by omega))) (.int .i64 rm) (.slice a2 Ln cp2) (.int .i64 (lf)) (.bool dn)
      have f0 := R9.cell (i := 0) rfl
      have f1 := R9.cell (i := 1) rfl
      have f2 := R9.cell (i := 2) rfl
      have f3 := R9.cell (i := 3) rfl
      have HEX : Hid (exeF ⟨rm, fs, lf, dn⟩ on off = (⟨rm, on, lf, dn⟩, 0)) := Lib.hid (by unfold exeF; simp only; rw [if_neg (by omega), if_neg (by omega)])
      have HFIN : Hid (DkP (exeF ⟨rm, fs, lf, dn⟩ on off) w (.returned (.tuple #[.agg #[.int .i64 rm, (.slice a2 Ln cp2), .int .i64 (lf), .bool dn], .int .i64 0])) (put4 (W2.setCell ⟨w.heap.size, 1, none⟩ (.slice a2 Ln cp2)) (w.heap.size + 1) (.int .i64 rm) (.slice a2 Ln cp2) (.int .i64 (lf)) (.bool dn))) := Lib.hid (by
        rw [HEX.out]
        refine ⟨a2, cp2, by rw [HLn.out]; rfl, ?_, ?_⟩
        · have h := slf_two HS2.out HRD2.out HRR2.out (fun k hk1 hk2 => (HBP.out.block k hk2).trans (HBU.out.block k hk1)) (HBP.out.size.trans HBU.out.size)
          simp only; rw [← HLn.out]; exact h
        · exact ((below_trans HB2.out (HB3.out)).trans (HBU.out.below (Nat.le_refl _))).trans (HBP.out.below (B := w.heap.size) (by omega)))
      clear R9
      go_wp2
      exact bodyPost_ret (v := .tuple #[.agg #[.int .i64 rm, (.slice a2 Ln cp2), .int .i64 (lf), .bool dn], .int .i64 0]) (by simp [results, Try.results37, go_sem, f0, f1, f2, f3]) rfl HFIN.out
end Go.Proofs.Ytmhdodiipkkjpaa.Dk
