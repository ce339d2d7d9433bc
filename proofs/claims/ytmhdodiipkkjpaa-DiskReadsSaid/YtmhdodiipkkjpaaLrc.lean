/- DiskReads: a disk that may be; case c. -/
import Derived.Test.YtmhdodiipkkjpaaLr
namespace Go.Proofs.Ytmhdodiipkkjpaa.Dk
open Go.RowKit

set_option maxHeartbeats 6400000 in
set_option maxRecDepth 100000 in
theorem lreads_c (w : World) (d : Dsk) (a : Option Addr) (cap : Nat) (ak : Option Addr) (ck : Nat) (n : BA) (left : Int) (keep : List Int) (h : DAt w d a cap) (hn : n.size ≤ 140737488351232) (hk : SlI w (Old w) (.slice ak keep.length ck) keep) (hw : ∀ n, n ∈ keep → I64 n) (hR : RgtD d) (hnm : nmB n = true) (hdn : d.down = false) (hfn : findF d.fs n = none) (hat : atF d.fs n = -1) :
    Calls Try.prog 4 #[diV d (.slice a d.fs.length cap), .string n, .int .i64 left, .slice ak keep.length ck] w fun e w' => e = .returned (.bool true) ∧ Below w.heap.size w w' := by
  have HCR := Lib.hid (fun W (hb : Below w.heap.size w W) => crashok_any W d a cap ak ck keep (h.old hb) (hk.old hb) hw hR)
  have HCU := Lib.hid (fun W (hb : Below w.heap.size w W) => cut_any W d a cap left (h.old hb))
  have HRE := Lib.hid (fun W (hb : Below w.heap.size w W) => read_any W d a cap n (h.old hb) hn)
  have HRR := Lib.hid (fun W (hb : Below w.heap.size w W) => rright_any W d a cap (h.old hb))
  have HRC := Lib.hid (fun W (hb : Below w.heap.size w W) => rcrash_any W d a cap ak ck keep (h.old hb) (by have := hR.fs.len; omega) (hk.old hb))
  have HAT := Lib.hid (fun W (hb : Below w.heap.size w W) => rat_any W d a cap n (h.fs.old hb))
  have HNM := Lib.hid (fun W => rname_any n W hn)
  have HXO := Lib.hid (fun W (hb : Below w.heap.size w W) => h.fs.old hb)
  have HAL := Lib.hid (fun W => alive_any W)
  rw [read_none hR hnm hdn hfn] at HRE
  rw [hnm] at HNM
  have HRG := Lib.hid hR
  rw [hat] at HAT
  clear h hk hw hR hnm hat hfn
  obtain ⟨rm, fs, lf, dn⟩ := d
  obtain ⟨L, HL⟩ : ∃ L, Hid (L = fs.length) := ⟨_, Lib.hid rfl⟩
  obtain ⟨M, HM⟩ : ∃ L, Hid (L = keep.length) := ⟨_, Lib.hid rfl⟩
  simp only at HCR HCU HRE HRR HRC HAT HXO HRG hdn ⊢
  subst hdn
  obtain ⟨cf, HCF⟩ : ∃ l, Hid (l = crFs keep fs) := ⟨_, Lib.hid rfl⟩
  have HLC : Hid (L = cf.length) := Lib.hid (by rw [HL.out, HCF.out, crs_len])
  rw [← HCF.out] at HCR HRC
  rw [← HL.out] at HCR HCU HRE HRR HRC HAT HXO ⊢
  rw [← HM.out] at HCR HRC ⊢
  have HRD := Lib.hid (row_new w #[.int .i64 rm, .slice a L cap, .int .i64 lf, .bool false] 24)
  have HB1 := Lib.hid (below1 w (.cells #[.int .i64 rm, .slice a L cap, .int .i64 lf, .bool false] 24))
  have r0 := HRD.out.cell (i := 0) rfl
  have r1 := HRD.out.cell (i := 1) rfl
  have r2 := HRD.out.cell (i := 2) rfl
  have r3 := HRD.out.cell (i := 3) rfl
  go_enter Try.func4, Try.ntmps4
  go_wp2_with fail
  generalize hW1 : w.alloc (.cells #[.int .i64 rm, .slice a L cap, .int .i64 lf, .bool false] 24) = W1 at *
  clear hW1
  refine (HRE.out W1 HB1.out).mono ?_
  rintro e w2 ⟨rfl, hb2⟩
  have HB2 := Lib.hid (below_trans HB1.out hb2)
  have HRD2 := Lib.hid (HRD.out.below hb2)
  clear hb2 r0 r1 r2 r3
  have r0 := HRD2.out.cell (i := 0) rfl
  have r1 := HRD2.out.cell (i := 1) rfl
  have r2 := HRD2.out.cell (i := 2) rfl
  have r3 := HRD2.out.cell (i := 3) rfl
  go_wp2_with fail
  refine (HCU.out w2 HB2.out).mono ?_
  rintro e w3 ⟨a3, c3, rfl, hs3, hb3⟩
  clear r0 r1 r2 r3
  obtain ⟨r, HRS⟩ : ∃ r, Hid (r = cutF ⟨rm, fs, lf, false⟩ left) := ⟨_, Lib.hid rfl⟩
  rw [← HRS.out] at hs3 ⊢
  obtain ⟨⟨rr, rf, rl, rd⟩, kc⟩ := r
  simp only at hs3 ⊢
  obtain ⟨L7, HL7⟩ : ∃ L, Hid (L = rf.length) := ⟨_, Lib.hid rfl⟩
  rw [← HL7.out] at hs3 ⊢
  have HBx3 := Lib.hid (below_trans hb3 (below1 w3 (.cells #[.int .i64 rr, .slice a3 L7 c3, .int .i64 rl, .bool rd] 24)))
  have HB3 := Lib.hid (below_trans HB2.out HBx3.out)
  have HRA : Hid (Row (w3.alloc (.cells #[.int .i64 rr, .slice a3 L7 c3, .int .i64 rl, .bool rd] 24)) w3.heap.size 24 [.int .i64 rr, .slice a3 L7 c3, .int .i64 rl, .bool rd]) := Lib.hid (row_new w3 #[.int .i64 rr, .slice a3 L7 c3, .int .i64 rl, .bool rd] _)
  have HSA := Lib.hid (hs3.old (below1 w3 (.cells #[.int .i64 rr, .slice a3 L7 c3, .int .i64 rl, .bool rd] 24)))
  have HRD3 := Lib.hid (HRD2.out.below HBx3.out)
  have HNE : Hid (w.heap.size < w3.heap.size) := Lib.hid (by have h1 := HRD2.out.lt; have h2 := hb3.size; omega)
  have r0 := HRD3.out.cell (i := 0) rfl
  have r1 := HRD3.out.cell (i := 1) rfl
  have r2 := HRD3.out.cell (i := 2) rfl
  have r3 := HRD3.out.cell (i := 3) rfl
  clear hs3 hb3
  go_wp2_with fail
  generalize hW4 : w3.alloc (.cells #[.int .i64 rr, .slice a3 L7 c3, .int .i64 rl, .bool rd] 24) = w4 at *
  clear hW4 r0 r1 r2 r3
  refine (HCR.out w4 HB3.out).mono ?_
  rintro e w5 ⟨a5, c5, rfl, hs5, hb5⟩
  have HBx5 := Lib.hid (below_trans hb5 (below1 w5 (.cells #[.int .i64 rm, .slice a5 L c5, .int .i64 (-1), .bool false] 24)))
  have HB5 := Lib.hid (below_trans HB3.out HBx5.out)
  have HRB : Hid (Row (w5.alloc (.cells #[.int .i64 rm, .slice a5 L c5, .int .i64 (-1), .bool false] 24)) w5.heap.size 24 [.int .i64 rm, .slice a5 L c5, .int .i64 (-1), .bool false]) := Lib.hid (row_new w5 #[.int .i64 rm, .slice a5 L c5, .int .i64 (-1), .bool false] _)
  have HSB := Lib.hid (hs5.old (below1 w5 (.cells #[.int .i64 rm, .slice a5 L c5, .int .i64 (-1), .bool false] 24)))
  have HRD5 := Lib.hid (HRD3.out.below HBx5.out)
  have HRA5 := Lib.hid (HRA.out.below HBx5.out)
  have HSA5 := Lib.hid (HSA.out.old HBx5.out)
  clear hs5 hb5
  have r0 := HRD5.out.cell (i := 0) rfl
  have r1 := HRD5.out.cell (i := 1) rfl
  have r2 := HRD5.out.cell (i := 2) rfl
  have r3 := HRD5.out.cell (i := 3) rfl
  go_wp2_with fail
  generalize hW6 : w5.alloc (.cells #[.int .i64 rm, .slice a5 L c5, .int .i64 (-1), .bool false] 24) = w6 at *
  clear hW6 r0 r1 r2 r3
  refine (HRR.out w6 HB5.out).mono ?_
  rintro e w7 ⟨q, rfl, hq, hb7⟩
  obtain rfl : q = true := hq.2 HRG.out
  have HRA7 := Lib.hid (HRA5.out.below hb7)
  have HSA7 := Lib.hid (HSA5.out.old hb7)
  have HRB7 := Lib.hid (HRB.out.below hb7)
  have HSB7 := Lib.hid (HSB.out.old hb7)
  have HRD7 := Lib.hid (HRD5.out.below hb7)
  have HB7 := Lib.hid (below_trans HB5.out hb7)
  clear hb7 hq
  have HSS : Hid (∀ W, Below w7.heap.size w7 W → W.cell? ⟨w.heap.size, 0, none⟩ = some (.int .i64 rm) ∧ W.cell? ⟨w.heap.size, 1, none⟩ = some (.slice a L cap) ∧ W.cell? ⟨w.heap.size, 2, none⟩ = some (.int .i64 lf) ∧ W.cell? ⟨w.heap.size, 3, none⟩ = some (.bool false) ∧ W.cell? ⟨w5.heap.size, 0, none⟩ = some (.int .i64 rm) ∧ W.cell? ⟨w5.heap.size, 1, none⟩ = some (.slice a5 L c5) ∧ W.cell? ⟨w5.heap.size, 2, none⟩ = some (.int .i64 (-1)) ∧ W.cell? ⟨w5.heap.size, 3, none⟩ = some (.bool false)) := Lib.hid (fun W hb => ⟨(HRD7.out.below hb).cell (i := 0) rfl, (HRD7.out.below hb).cell (i := 1) rfl, (HRD7.out.below hb).cell (i := 2) rfl, (HRD7.out.below hb).cell (i := 3) rfl, (HRB7.out.below hb).cell (i := 0) rfl, (HRB7.out.below hb).cell (i := 1) rfl, (HRB7.out.below hb).cell (i := 2) rfl, (HRB7.out.below hb).cell (i := 3) rfl⟩)
  have HDR := Lib.hid (Below.refl w7.heap.size w7).drew
  have hs0 := HSS.out _ HDR.out
  go_wp2
  refine wp_region_noPanic ?_
  refine wp_region_held_drew (S := fun W => W.cell? ⟨w.heap.size, 0, none⟩ = some (.int .i64 rm) ∧ W.cell? ⟨w.heap.size, 1, none⟩ = some (.slice a L cap) ∧ W.cell? ⟨w.heap.size, 2, none⟩ = some (.int .i64 lf) ∧ W.cell? ⟨w.heap.size, 3, none⟩ = some (.bool false) ∧ W.cell? ⟨w5.heap.size, 0, none⟩ = some (.int .i64 rm) ∧ W.cell? ⟨w5.heap.size, 1, none⟩ = some (.slice a5 L c5) ∧ W.cell? ⟨w5.heap.size, 2, none⟩ = some (.int .i64 (-1)) ∧ W.cell? ⟨w5.heap.size, 3, none⟩ = some (.bool false)) (by kernel_rfl) hs0 (fun hHeld => ?_)
  clear hs0
  generalize hW8 : w7.drew = w8 at *
  clear hW8
  refine wpAnyH_ready (rs := [0]) (by kernel_rfl) (by simp) ?_
  refine AllReadyH.cons (o := { dst := some 68, op := Go.Op.call { callee := Go.Callee.value (Go.Operand.func 8), args := #[], argTypes := #[] }, type := 4, pos := "law.go:55", after := #[], guard := none }) rfl (fun K hK => ?_) AllReadyH.nil
  go_simp
  refine (HAL.out w8).mono ?_
  rintro e w9 ⟨rfl, hb9⟩
  have HB9 := Lib.hid (below_trans HDR.out hb9)
  clear hb9
  go_wp2_with fail
  refine hK.out _ _ ?_ (fun hz1 => ?_)
  · exact HSS.out _ HB9.out
  clear hK K hHeld 
  try simp only [Act.put, List.setIfInBounds_toArray, List.set_cons_zero, List.set_cons_succ]
  refine wpAnyH_take (i := 1) (oi := { dst := some 69, op := Go.Op.unOp Go.UnOp.not 4 (Go.Operand.tmp 68), type := 4, pos := "law.go:55", after := #[{ on := 0, ground := Go.Ground.data }], guard := none }) (v := ?_) rfl (by kernel_rfl) (by kernel_rfl) (by kernel_rfl) (fun _ _ _ h => h) (Or.inl ⟨by rfl, ?_⟩) (by assumption) ?_
  rotate_left
  · (intro w hSw; (try dsimp only at hSw); go_simp) <;> with_reducible rfl
  simp only [Act.put, List.setIfInBounds_toArray, List.set_cons_zero, List.set_cons_succ]
  refine wpAnyH_take (i := 2) (oi := { dst := some 70, op := Go.Op.move (Go.Operand.tmp 69), type := 4, pos := "law.go:55", after := #[{ on := 1, ground := Go.Ground.data }, { on := 0, ground := Go.Ground.chain }], guard := none }) (v := ?_) rfl (by kernel_rfl) (by kernel_rfl) (by kernel_rfl) (fun _ _ _ h => h) (Or.inl ⟨by rfl, ?_⟩) (by assumption) ?_
  rotate_left
  · (intro w hSw; (try dsimp only at hSw); go_simp) <;> with_reducible rfl
  simp only [Act.put, List.setIfInBounds_toArray, List.set_cons_zero, List.set_cons_succ]
  refine wpAnyH_take (i := 3) (oi := { dst := some 71, op := Go.Op.move (Go.Operand.tmp 14), type := 28, pos := "law.go:55", after := #[{ on := 2, ground := Go.Ground.guard }], guard := some (2, false) }) (v := ?_) rfl (by kernel_rfl) (by kernel_rfl) (by kernel_rfl) (fun _ _ _ h => h) (Or.inl ⟨by rfl, ?_⟩) (by assumption) ?_
  rotate_left
  · (intro w hSw; (try dsimp only at hSw); go_simp) <;> with_reducible rfl
  simp only [Act.put, List.setIfInBounds_toArray, List.set_cons_zero, List.set_cons_succ]
  refine wpAnyH_take (i := 4) (oi := { dst := some 72, op := Go.Op.binOp Go.BinOp.neq 28 (Go.Operand.tmp 71) (Go.Operand.const (Go.Value.int Go.IntKind.i64 0)) 28, type := 4, pos := "law.go:55", after := #[{ on := 3, ground := Go.Ground.data }, { on := 2, ground := Go.Ground.guard }], guard := some (2, false) }) (v := ?_) rfl (by kernel_rfl) (by kernel_rfl) (by kernel_rfl) (fun _ _ _ h => h) (Or.inl ⟨by rfl, ?_⟩) (by assumption) ?_
  rotate_left
  · (intro w hSw; (try dsimp only at hSw); go_simp) <;> with_reducible rfl
  simp only [Act.put, List.setIfInBounds_toArray, List.set_cons_zero, List.set_cons_succ]
  refine wpAnyH_take (i := 5) (oi := { dst := some 73, op := Go.Op.pick (Go.Operand.tmp 70) (Go.Operand.const (Go.Value.bool true)) (Go.Operand.tmp 72), type := 4, pos := "law.go:55", after := #[{ on := 2, ground := Go.Ground.data }, { on := 4, ground := Go.Ground.data }], guard := none }) (v := ?_) rfl (by kernel_rfl) (by kernel_rfl) (by kernel_rfl) (fun _ _ _ h => h) (Or.inl ⟨by rfl, ?_⟩) (by assumption) ?_
  rotate_left
  · (intro w hSw; (try dsimp only at hSw); go_simp) <;> with_reducible rfl
  simp only [Act.put, List.setIfInBounds_toArray, List.set_cons_zero, List.set_cons_succ]
  refine wpAnyH_take (i := 6) (oi := { dst := some 74, op := Go.Op.move (Go.Operand.tmp 73), type := 4, pos := "law.go:55", after := #[{ on := 5, ground := Go.Ground.data }, { on := 2, ground := Go.Ground.chain }], guard := none }) (v := ?_) rfl (by kernel_rfl) (by kernel_rfl) (by kernel_rfl) (fun _ _ _ h => h) (Or.inl ⟨by rfl, ?_⟩) (by assumption) ?_
  rotate_left
  · (intro w hSw; (try dsimp only at hSw); go_simp) <;> with_reducible rfl
  simp only [Act.put, List.setIfInBounds_toArray, List.set_cons_zero, List.set_cons_succ]
  refine wpAnyH_take (i := 7) (oi := { dst := some 75, op := Go.Op.load 24 (Go.Operand.tmp 13), type := 24, pos := "law.go:55", after := #[{ on := 6, ground := Go.Ground.guard }], guard := some (6, false) }) (v := ?_) rfl (by kernel_rfl) (by kernel_rfl) (by kernel_rfl) (fun _ _ _ h => h) (Or.inl ⟨by rfl, ?_⟩) (by assumption) ?_
  rotate_left
  · (intro w hSw; (try dsimp only at hSw); go_simp) <;> with_reducible rfl
  simp only [Act.put, List.setIfInBounds_toArray, List.set_cons_zero, List.set_cons_succ]
  refine wpAnyH_take (i := 8) (oi := { dst := some 76, op := Go.Op.load 24 (Go.Operand.tmp 4), type := 24, pos := "law.go:55", after := #[{ on := 6, ground := Go.Ground.guard }], guard := some (6, false) }) (v := ?_) rfl (by kernel_rfl) (by kernel_rfl) (by kernel_rfl) (fun _ _ _ h => h) (Or.inl ⟨by rfl, ?_⟩) (by assumption) ?_
  rotate_left
  · (intro w hSw; (try dsimp only at hSw); go_simp) <;> with_reducible rfl
  simp only [Act.put, List.setIfInBounds_toArray, List.set_cons_zero, List.set_cons_succ]
  refine wpAnyH_take (i := 9) (oi := { dst := some 77, op := Go.Op.move (Go.Operand.tmp 3), type := 35, pos := "law.go:55", after := #[{ on := 6, ground := Go.Ground.guard }], guard := some (6, false) }) (v := ?_) rfl (by kernel_rfl) (by kernel_rfl) (by kernel_rfl) (fun _ _ _ h => h) (Or.inl ⟨by rfl, ?_⟩) (by assumption) ?_
  rotate_left
  · (intro w hSw; (try dsimp only at hSw); go_simp) <;> with_reducible rfl
  simp only [Act.put, List.setIfInBounds_toArray, List.set_cons_zero, List.set_cons_succ]
  refine wpAnyH_ready (rs := [10]) (by kernel_rfl) (by simp) ?_
  refine AllReadyH.cons (o := { dst := some 78, op := Go.Op.call { callee := Go.Callee.value (Go.Operand.func 17), args := #[Go.Operand.tmp 76, Go.Operand.tmp 77], argTypes := #[24, 35] }, type := 24, pos := "law.go:55", after := #[{ on := 8, ground := Go.Ground.data }, { on := 9, ground := Go.Ground.data }, { on := 6, ground := Go.Ground.chain }, { on := 6, ground := Go.Ground.guard }], guard := some (6, false) }) rfl (fun K hK => ?_) AllReadyH.nil
  go_simp
  refine (HRC.out w9 (below_trans HB7.out HB9.out)).mono ?_
  rintro e w10 ⟨a10, c10, rfl, hs10, hb10⟩
  have HS10 := Lib.hid hs10
  have HB10 := Lib.hid (below_trans HB9.out hb10)
  clear hb10 hs10
  go_wp2_with fail
  refine hK.out _ _ ?_ (fun hz2 => ?_)
  · exact HSS.out _ HB10.out
  clear hK K hz1 
  try simp only [Act.put, List.setIfInBounds_toArray, List.set_cons_zero, List.set_cons_succ]
  have HLK := Lib.hid (like_any w10 ⟨rm, cf, -1, false⟩ a5 a10 c5 c10 (by simp only; rw [← HLC.out]; exact HSB7.out.old HB10.out) (by simp only; rw [← HLC.out]; exact HS10.out))
  simp only at HLK
  rw [← HLC.out] at HLK
  refine wpAnyH_ready (rs := [11]) (by kernel_rfl) (by simp) ?_
  refine AllReadyH.cons (o := { dst := some 79, op := Go.Op.call { callee := Go.Callee.value (Go.Operand.func 13), args := #[Go.Operand.tmp 75, Go.Operand.tmp 78], argTypes := #[24, 24] }, type := 4, pos := "law.go:55", after := #[{ on := 7, ground := Go.Ground.data }, { on := 10, ground := Go.Ground.data }, { on := 10, ground := Go.Ground.chain }, { on := 6, ground := Go.Ground.guard }], guard := some (6, false) }) rfl (fun K hK => ?_) AllReadyH.nil
  go_simp
  refine HLK.out.mono ?_
  rintro e w11 ⟨rfl, hb11⟩
  have HB11 := Lib.hid (below_trans HB10.out hb11)
  clear hb11
  go_wp2_with fail
  refine hK.out _ _ ?_ (fun hz3 => ?_)
  · exact HSS.out _ HB11.out
  clear hK K hz2 
  try simp only [Act.put, List.setIfInBounds_toArray, List.set_cons_zero, List.set_cons_succ]
  refine wpAnyH_take (i := 12) (oi := { dst := some 80, op := Go.Op.unOp Go.UnOp.not 4 (Go.Operand.tmp 79), type := 4, pos := "law.go:55", after := #[{ on := 11, ground := Go.Ground.data }, { on := 6, ground := Go.Ground.guard }], guard := some (6, false) }) (v := ?_) rfl (by kernel_rfl) (by kernel_rfl) (by kernel_rfl) (fun _ _ _ h => h) (Or.inl ⟨by rfl, ?_⟩) (by assumption) ?_
  rotate_left
  · (intro w hSw; (try dsimp only at hSw); go_simp) <;> with_reducible rfl
  simp only [Act.put, List.setIfInBounds_toArray, List.set_cons_zero, List.set_cons_succ]
  refine wpAnyH_take (i := 13) (oi := { dst := some 81, op := Go.Op.pick (Go.Operand.tmp 74) (Go.Operand.const (Go.Value.bool true)) (Go.Operand.tmp 80), type := 4, pos := "law.go:55", after := #[{ on := 6, ground := Go.Ground.data }, { on := 12, ground := Go.Ground.data }], guard := none }) (v := ?_) rfl (by kernel_rfl) (by kernel_rfl) (by kernel_rfl) (fun _ _ _ h => h) (Or.inl ⟨by rfl, ?_⟩) (by assumption) ?_
  rotate_left
  · (intro w hSw; (try dsimp only at hSw); go_simp) <;> with_reducible rfl
  simp only [Act.put, List.setIfInBounds_toArray, List.set_cons_zero, List.set_cons_succ]
  refine wpAnyH_done (by kernel_rfl) ?_ _
  refine NoPanic.normal ?_
  clear hz3
  have HRD11 := Lib.hid (HRD7.out.below HB11.out)
  have r0 := HRD11.out.cell (i := 0) rfl
  have r1 := HRD11.out.cell (i := 1) rfl
  have r2 := HRD11.out.cell (i := 2) rfl
  have r3 := HRD11.out.cell (i := 3) rfl
  go_wp2_with fail
  refine (HAT.out w11 (below_trans HB7.out HB11.out)).mono ?_
  rintro e w12 ⟨rfl, hb12⟩
  have HB12 := Lib.hid (below_trans HB11.out hb12)
  have HBW := Lib.hid (below_trans HB7.out HB12.out)
  have HRD12 := Lib.hid (HRD7.out.below HB12.out)
  have HRA12 := Lib.hid (HRA7.out.below HB12.out)
  have HSA12 := Lib.hid (HSA7.out.old HB12.out)
  clear hb12 r0 r1 r2 r3
  go_wp2_with fail
  refine (HNM.out w12).mono ?_
  rintro e w13 ⟨rfl, rfl⟩
  by_cases hl1 : left < -1
  · have u1 : decide (left < -1) = true := decide_eq_true (by omega)
    have HE := HRS.out
    rw [cut_arg (by omega)] at HE
    obtain ⟨rfl, rfl, rfl, rfl, rfl⟩ : 0 = rr ∧ [] = rf ∧ 0 = rl ∧ false = rd ∧ 1 = kc := by
      injection HE with h1 h2
      injection h1 with h3 h4 h5 h6
      exact ⟨h3.symm, h4.symm, h5.symm, h6.symm, h2.symm⟩
    clear HE
    obtain rfl : L7 = 0 := HL7.out
    have r0 := HRD12.out.cell (i := 0) rfl
    have r1 := HRD12.out.cell (i := 1) rfl
    have r2 := HRD12.out.cell (i := 2) rfl
    have r3 := HRD12.out.cell (i := 3) rfl
    have x0 := HRA12.out.cell (i := 0) rfl
    have x1 := HRA12.out.cell (i := 1) rfl
    have x2 := HRA12.out.cell (i := 2) rfl
    have x3 := HRA12.out.cell (i := 3) rfl
    go_wp2_with fail
    refine (likez_any w12 a3 c3 HSA12.out).mono ?_
    rintro e w99 ⟨rfl, hb99⟩
    have HB99 := Lib.hid (below_trans HBW.out hb99)
    clear hb99 x0 x1 x2 x3 r0 r1 r2 r3
    go_wp2
    go_ret
    exact ⟨rfl, HB99.out⟩
  · have u1 : decide (left < -1) = false := decide_eq_false (by omega)
    by_cases hl2 : 1073741824 < left
    · have u2 : decide (1073741824 < left) = true := decide_eq_true (by omega)
      have HE := HRS.out
      rw [cut_arg (by omega)] at HE
      obtain ⟨rfl, rfl, rfl, rfl, rfl⟩ : 0 = rr ∧ [] = rf ∧ 0 = rl ∧ false = rd ∧ 1 = kc := by
        injection HE with h1 h2
        injection h1 with h3 h4 h5 h6
        exact ⟨h3.symm, h4.symm, h5.symm, h6.symm, h2.symm⟩
      clear HE
      obtain rfl : L7 = 0 := HL7.out
      have r0 := HRD12.out.cell (i := 0) rfl
      have r1 := HRD12.out.cell (i := 1) rfl
      have r2 := HRD12.out.cell (i := 2) rfl
      have r3 := HRD12.out.cell (i := 3) rfl
      have x0 := HRA12.out.cell (i := 0) rfl
      have x1 := HRA12.out.cell (i := 1) rfl
      have x2 := HRA12.out.cell (i := 2) rfl
      have x3 := HRA12.out.cell (i := 3) rfl
      go_wp2_with fail
      refine (likez_any w12 a3 c3 HSA12.out).mono ?_
      rintro e w99 ⟨rfl, hb99⟩
      have HB99 := Lib.hid (below_trans HBW.out hb99)
      clear hb99 x0 x1 x2 x3 r0 r1 r2 r3
      go_wp2
      go_ret
      exact ⟨rfl, HB99.out⟩
    · have u2 : decide (1073741824 < left) = false := decide_eq_false (by omega)
      have HE := HRS.out
      rw [cut_up HRG.out (by omega) rfl] at HE
      obtain ⟨rfl, rfl, rfl, rfl, rfl⟩ : rm = rr ∧ fs = rf ∧ left = rl ∧ false = rd ∧ 0 = kc := by
        injection HE with h1 h2
        injection h1 with h3 h4 h5 h6
        exact ⟨h3.symm, h4.symm, h5.symm, h6.symm, h2.symm⟩
      clear HE
      obtain rfl : L = L7 := by rw [HL7.out, HL.out]
      have r0 := HRD12.out.cell (i := 0) rfl
      have r1 := HRD12.out.cell (i := 1) rfl
      have r2 := HRD12.out.cell (i := 2) rfl
      have r3 := HRD12.out.cell (i := 3) rfl
      have tr2 := HRD12.out.thaw 2
      have HBUT := Lib.hid ((But.refl w.heap.size w12).set 2 (.int .i64 left))
      have HRA9 := Lib.hid (HBUT.out.row HRA12.out (by have := HNE.out; omega))
      have HRD9 := Lib.hid (HRD12.out.set 2 (.int .i64 left))
      have HS1 := Lib.hid (slf_one HSA12.out HRD12.out HBUT.out)
      have HS2 := Lib.hid (slf_one (HXO.out w12 HBW.out) HRD12.out HBUT.out)
      have HB9 := Lib.hid (HBW.out.trans (HBUT.out.below (Nat.le_refl _)))
      have x0 := HRA9.out.cell (i := 0) rfl
      have x1 := HRA9.out.cell (i := 1) rfl
      have x2 := HRA9.out.cell (i := 2) rfl
      have x3 := HRA9.out.cell (i := 3) rfl
      have y0 := HRD9.out.cell (i := 0) rfl
      have y1 := HRD9.out.cell (i := 1) rfl
      have y2 := HRD9.out.cell (i := 2) rfl
      have y3 := HRD9.out.cell (i := 3) rfl
      have HLK2 := Lib.hid (like_any _ ⟨rm, fs, left, false⟩ a3 a c3 cap (by simp only; rw [← HL.out]; exact HS1.out) (by simp only; rw [← HL.out]; exact HS2.out))
      simp only at HLK2
      rw [← HL.out] at HLK2
      go_wp2_with fail
      refine HLK2.out.mono ?_
      rintro e w99 ⟨rfl, hb99⟩
      have HB99 := Lib.hid (below_trans HB9.out hb99)
      clear hb99 x0 x1 x2 x3 r0 r1 r2 r3 y0 y1 y2 y3 tr2
      go_wp2
      go_ret
      exact ⟨rfl, HB99.out⟩
end Go.Proofs.Ytmhdodiipkkjpaa.Dk
