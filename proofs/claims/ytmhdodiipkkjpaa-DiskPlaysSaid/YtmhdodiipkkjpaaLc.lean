/- DiskCalls: what the law answers. -/
import Derived.Test.YtmhdodiipkkjpaaDl
namespace Go.Proofs.Ytmhdodiipkkjpaa.Dk
open Go.RowKit

theorem rcall_any (w : World) (d : Dsk) (a : Option Addr) (cap : Nat) (what : Int) (n m : BA) (h : DAt w d a cap) (hn : n.size ≤ 140737488351232) (hm : m.size ≤ 140737488351232) (h1 : 1 ≤ what) (h4 : what ≤ 4) :
    Calls Try.prog 10 #[diV d (.slice a d.fs.length cap), .int .i64 what, .string n, .string m] w (DkP (callF what d n m) w) := by
  rcases (show what = 1 ∨ what = 2 ∨ what = 3 ∨ what = 4 by omega) with rfl | rfl | rfl | rfl
  · exact rcall1_any w d a cap n m h hn hm
  · exact rcall2_any w d a cap n m h hn hm
  · exact rcall3_any w d a cap n m h hn hm
  · exact rcall4_any w d a cap n m h hn hm

set_option maxHeartbeats 6400000 in
set_option maxRecDepth 100000 in
theorem lcalls_any (w : World) (d : Dsk) (a : Option Addr) (cap : Nat) (x : Cal) (h : DAt w d a cap) (hx : FitC x) :
    Calls Try.prog 3 #[diV d (.slice a d.fs.length cap), caV x] w fun e w' => e = .returned (.bool true) ∧ Below w.heap.size w w' := by
  have HC := Lib.hid (fun W (hb : Below w.heap.size w W) => call_any W d a cap x (h.old hb) hx)
  have HR := Lib.hid (fun W (hb : Below w.heap.size w W) (h1 : 1 ≤ x.what) (h4 : x.what ≤ 4) => rcall_any W d a cap x.what x.n x.m (h.old hb) hx.n hx.m h1 h4)
  have HRT := Lib.hid (fun W (hb : Below w.heap.size w W) => right_any W d a cap (h.old hb))
  have HRR := Lib.hid (fun W (hb : Below w.heap.size w W) => rright_any W d a cap (h.old hb))
  have HAL := Lib.hid (fun W => alive_any W)
  clear h hx
  obtain ⟨rm, fs, lf, dn⟩ := d
  obtain ⟨wh, n, m, kk⟩ := x
  obtain ⟨L, HL⟩ : ∃ L, Hid (L = fs.length) := ⟨_, Lib.hid rfl⟩
  simp only at HC HR HRT HRR ⊢
  rw [← HL.out] at HC HR HRT HRR ⊢
  obtain ⟨W1, HW1⟩ : ∃ W, Hid (W = (w.alloc (.cells #[.int .i64 rm, .slice a L cap, .int .i64 lf, .bool dn] 24)).alloc (.cells #[.int .i64 wh, .string n, .string m, .int .i64 kk] 26)) := ⟨_, Lib.hid rfl⟩
  have HB1 : Hid (Below w.heap.size w W1) := Lib.hid (by rw [HW1.out]; exact below2 _ _ _)
  have HRD : Hid (Row W1 w.heap.size 24 [.int .i64 rm, .slice a L cap, .int .i64 lf, .bool dn]) := Lib.hid (by rw [HW1.out]; exact (row_new w #[.int .i64 rm, .slice a L cap, .int .i64 lf, .bool dn] _).alloc _)
  have HRC : Hid (Row W1 (w.heap.size + 1) 26 [.int .i64 wh, .string n, .string m, .int .i64 kk]) := Lib.hid (by
    rw [HW1.out]
    have h := row_new (w.alloc (.cells #[.int .i64 rm, .slice a L cap, .int .i64 lf, .bool dn] 24)) #[.int .i64 wh, .string n, .string m, .int .i64 kk] 26
    simp only [World.size_alloc] at h
    exact h)
  by_cases h1 : 1 ≤ wh
  · have u1 : decide (wh < 1) = false := decide_eq_false (by omega)
    by_cases h4 : wh ≤ 4
    · have u4 : decide (4 < wh) = false := decide_eq_false (by omega)
      by_cases hm : m.size ≤ 2097152
      · have um : decide (2097152 < (m.size : Int)) = false := decide_eq_false (by omega)
        have HR2 := Lib.hid (fun W hb => HR.out W hb h1 h4)
        clear h1 h4
        have r0 := HRD.out.cell (i := 0) rfl
        have r1 := HRD.out.cell (i := 1) rfl
        have r2 := HRD.out.cell (i := 2) rfl
        have r3 := HRD.out.cell (i := 3) rfl
        have y0 := HRC.out.cell (i := 0) rfl
        have y1 := HRC.out.cell (i := 1) rfl
        have y2 := HRC.out.cell (i := 2) rfl
        have y3 := HRC.out.cell (i := 3) rfl
        rw [HW1.out] at r0 r1 r2 r3 y0 y1 y2 y3
        go_enter Try.func3, Try.ntmps3
        go_wp2_with fail
        rw [← HW1.out]
        refine (HC.out W1 HB1.out).mono ?_
        rintro e w2 ⟨a2, c2, rfl, hs2, hb2⟩
        clear r0 r1 r2 r3 y0 y1 y2 y3 HW1
        obtain ⟨r, HRS⟩ : ∃ r, Hid (r = callF wh ⟨rm, fs, lf, dn⟩ n m) := ⟨_, Lib.hid rfl⟩
        rw [← HRS.out] at hs2 HR2 ⊢
        obtain ⟨⟨rr, rf, rl, rd⟩, k⟩ := r
        have HS2 := Lib.hid hs2
        have HB2 := Lib.hid hb2
        clear hs2 hb2
        simp only at HS2 ⊢
        obtain ⟨L7, HL7⟩ : ∃ L, Hid (L = rf.length) := ⟨_, Lib.hid rfl⟩
        rw [← HL7.out] at HS2 ⊢
        have HB3 := Lib.hid (below_trans HB2.out (below1 w2 (.cells #[.int .i64 rr, .slice a2 L7 c2, .int .i64 rl, .bool rd] 24)))
        have HRA : Hid (Row (w2.alloc (.cells #[.int .i64 rr, .slice a2 L7 c2, .int .i64 rl, .bool rd] 24)) w2.heap.size 24 [.int .i64 rr, .slice a2 L7 c2, .int .i64 rl, .bool rd]) := Lib.hid (row_new w2 #[.int .i64 rr, .slice a2 L7 c2, .int .i64 rl, .bool rd] _)
        have HSA := Lib.hid (HS2.out.old (below1 w2 (.cells #[.int .i64 rr, .slice a2 L7 c2, .int .i64 rl, .bool rd] 24)))
        have HRD3 := Lib.hid (HRD.out.below HB3.out)
        have HRC3 := Lib.hid (HRC.out.below HB3.out)
        have r0 := HRD3.out.cell (i := 0) rfl
        have r1 := HRD3.out.cell (i := 1) rfl
        have r2 := HRD3.out.cell (i := 2) rfl
        have r3 := HRD3.out.cell (i := 3) rfl
        have y0 := HRC3.out.cell (i := 0) rfl
        have y1 := HRC3.out.cell (i := 1) rfl
        have y2 := HRC3.out.cell (i := 2) rfl
        go_wp2_with fail
        generalize hW3 : w2.alloc (.cells #[.int .i64 rr, .slice a2 L7 c2, .int .i64 rl, .bool rd] 24) = w3 at *
        refine (HR2.out w3 (below_trans HB1.out HB3.out)).mono ?_
        rintro e w4 ⟨a4, c4, rfl, hs4, hb4⟩
        have HS4 := Lib.hid hs4
        have HB4 := Lib.hid (below_trans HB3.out hb4)
        have HRA4 := Lib.hid (HRA.out.below hb4)
        have HSA4 := Lib.hid (HSA.out.old hb4)
        clear hs4 hb4 hW3 r0 r1 r2 r3 y0 y1 y2
        simp only at HS4 ⊢
        rw [← HL7.out] at HS4 ⊢
        have HB5 := Lib.hid (below_trans HB4.out (below1 w4 (.cells #[.int .i64 rr, .slice a4 L7 c4, .int .i64 rl, .bool rd] 24)))
        have HRB : Hid (Row (w4.alloc (.cells #[.int .i64 rr, .slice a4 L7 c4, .int .i64 rl, .bool rd] 24)) w4.heap.size 24 [.int .i64 rr, .slice a4 L7 c4, .int .i64 rl, .bool rd]) := Lib.hid (row_new w4 #[.int .i64 rr, .slice a4 L7 c4, .int .i64 rl, .bool rd] _)
        have HRA5 := Lib.hid (HRA4.out.alloc (.cells #[.int .i64 rr, .slice a4 L7 c4, .int .i64 rl, .bool rd] 24))
        have HSA5 := Lib.hid (HSA4.out.old (below1 w4 (.cells #[.int .i64 rr, .slice a4 L7 c4, .int .i64 rl, .bool rd] 24)))
        have HSB5 := Lib.hid (HS4.out.old (below1 w4 (.cells #[.int .i64 rr, .slice a4 L7 c4, .int .i64 rl, .bool rd] 24)))
        go_wp2
        generalize hW5 : w4.alloc (.cells #[.int .i64 rr, .slice a4 L7 c4, .int .i64 rl, .bool rd] 24) = w5 at *
        clear hW5
        have HRD5 := Lib.hid (HRD.out.below HB5.out)
        have HSS : Hid (∀ W, Below w5.heap.size w5 W → W.cell? ⟨w.heap.size, 0, none⟩ = some (.int .i64 rm) ∧ W.cell? ⟨w.heap.size, 1, none⟩ = some (.slice a L cap) ∧ W.cell? ⟨w.heap.size, 2, none⟩ = some (.int .i64 lf) ∧ W.cell? ⟨w.heap.size, 3, none⟩ = some (.bool dn) ∧ W.cell? ⟨w2.heap.size, 0, none⟩ = some (.int .i64 rr) ∧ W.cell? ⟨w2.heap.size, 1, none⟩ = some (.slice a2 L7 c2) ∧ W.cell? ⟨w2.heap.size, 2, none⟩ = some (.int .i64 rl) ∧ W.cell? ⟨w2.heap.size, 3, none⟩ = some (.bool rd) ∧ W.cell? ⟨w4.heap.size, 0, none⟩ = some (.int .i64 rr) ∧ W.cell? ⟨w4.heap.size, 1, none⟩ = some (.slice a4 L7 c4) ∧ W.cell? ⟨w4.heap.size, 2, none⟩ = some (.int .i64 rl) ∧ W.cell? ⟨w4.heap.size, 3, none⟩ = some (.bool rd)) := Lib.hid (fun W hb => ⟨(HRD5.out.below hb).cell (i := 0) rfl, (HRD5.out.below hb).cell (i := 1) rfl, (HRD5.out.below hb).cell (i := 2) rfl, (HRD5.out.below hb).cell (i := 3) rfl, (HRA5.out.below hb).cell (i := 0) rfl, (HRA5.out.below hb).cell (i := 1) rfl, (HRA5.out.below hb).cell (i := 2) rfl, (HRA5.out.below hb).cell (i := 3) rfl, (HRB.out.below hb).cell (i := 0) rfl, (HRB.out.below hb).cell (i := 1) rfl, (HRB.out.below hb).cell (i := 2) rfl, (HRB.out.below hb).cell (i := 3) rfl⟩)
        have HDR := Lib.hid (Below.refl w5.heap.size w5).drew
        have hs0 := HSS.out _ HDR.out
        refine wp_region_noPanic ?_
        refine wp_region_held_drew (S := fun W => W.cell? ⟨w.heap.size, 0, none⟩ = some (.int .i64 rm) ∧ W.cell? ⟨w.heap.size, 1, none⟩ = some (.slice a L cap) ∧ W.cell? ⟨w.heap.size, 2, none⟩ = some (.int .i64 lf) ∧ W.cell? ⟨w.heap.size, 3, none⟩ = some (.bool dn) ∧ W.cell? ⟨w2.heap.size, 0, none⟩ = some (.int .i64 rr) ∧ W.cell? ⟨w2.heap.size, 1, none⟩ = some (.slice a2 L7 c2) ∧ W.cell? ⟨w2.heap.size, 2, none⟩ = some (.int .i64 rl) ∧ W.cell? ⟨w2.heap.size, 3, none⟩ = some (.bool rd) ∧ W.cell? ⟨w4.heap.size, 0, none⟩ = some (.int .i64 rr) ∧ W.cell? ⟨w4.heap.size, 1, none⟩ = some (.slice a4 L7 c4) ∧ W.cell? ⟨w4.heap.size, 2, none⟩ = some (.int .i64 rl) ∧ W.cell? ⟨w4.heap.size, 3, none⟩ = some (.bool rd)) (by kernel_rfl) hs0 (fun hHeld => ?_)
        clear hs0
        generalize hW6 : w5.drew = w6 at *
        clear hW6
        refine wpAnyH_ready (rs := [0]) (by kernel_rfl) (by simp) ?_
        refine AllReadyH.cons (o := { dst := some 41, op := Go.Op.call { callee := Go.Callee.value (Go.Operand.func 8), args := #[], argTypes := #[] }, type := 4, pos := "law.go:44", after := #[], guard := none }) rfl (fun K hK => ?_) AllReadyH.nil
        go_simp
        refine (HAL.out w6).mono ?_
        rintro e w7 ⟨rfl, hb7⟩
        have HB7 := Lib.hid (below_trans HDR.out hb7)
        clear hb7
        go_wp2_with fail
        refine hK.out _ _ ?_ (fun hz1 => ?_)
        · exact HSS.out _ HB7.out
        clear hK K hHeld 
        try simp only [Act.put, List.setIfInBounds_toArray, List.set_cons_zero, List.set_cons_succ]
        refine wpAnyH_take (i := 1) (oi := { dst := some 42, op := Go.Op.move (Go.Operand.tmp 41), type := 4, pos := "law.go:44", after := #[{ on := 0, ground := Go.Ground.data }, { on := 0, ground := Go.Ground.chain }], guard := none }) (v := ?_) rfl (by kernel_rfl) (by kernel_rfl) (by kernel_rfl) (fun _ _ _ h => h) (Or.inl ⟨by rfl, ?_⟩) (by assumption) ?_
        rotate_left
        · (intro w hSw; (try dsimp only at hSw); go_simp) <;> with_reducible rfl
        simp only [Act.put, List.setIfInBounds_toArray, List.set_cons_zero, List.set_cons_succ]
        refine wpAnyH_take (i := 2) (oi := { dst := some 43, op := Go.Op.load 24 (Go.Operand.tmp 2), type := 24, pos := "law.go:44", after := #[{ on := 1, ground := Go.Ground.guard }], guard := some (1, true) }) (v := ?_) rfl (by kernel_rfl) (by kernel_rfl) (by kernel_rfl) (fun _ _ _ h => h) (Or.inl ⟨by rfl, ?_⟩) (by assumption) ?_
        rotate_left
        · (intro w hSw; (try dsimp only at hSw); go_simp) <;> with_reducible rfl
        simp only [Act.put, List.setIfInBounds_toArray, List.set_cons_zero, List.set_cons_succ]
        refine wpAnyH_take (i := 4) (oi := { dst := some 45, op := Go.Op.load 24 (Go.Operand.tmp 2), type := 24, pos := "law.go:44", after := #[{ on := 1, ground := Go.Ground.guard }], guard := some (1, true) }) (v := ?_) rfl (by kernel_rfl) (by kernel_rfl) (by kernel_rfl) (fun _ _ _ h => h) (Or.inl ⟨by rfl, ?_⟩) (by assumption) ?_
        rotate_left
        · (intro w hSw; (try dsimp only at hSw); go_simp) <;> with_reducible rfl
        simp only [Act.put, List.setIfInBounds_toArray, List.set_cons_zero, List.set_cons_succ]
        refine wpAnyH_ready (rs := [3]) (by kernel_rfl) (by simp) ?_
        refine AllReadyH.cons (o := { dst := some 44, op := Go.Op.call { callee := Go.Callee.value (Go.Operand.func 11), args := #[Go.Operand.tmp 43], argTypes := #[24] }, type := 4, pos := "law.go:44", after := #[{ on := 2, ground := Go.Ground.data }, { on := 1, ground := Go.Ground.chain }, { on := 1, ground := Go.Ground.guard }], guard := some (1, true) }) rfl (fun K hK => ?_) AllReadyH.nil
        go_simp
        refine (HRT.out w7 (below_trans HB1.out (below_trans HB5.out HB7.out))).mono ?_
        rintro e w8 ⟨q, rfl, hq, hb8⟩
        have HQ := Lib.hid hq
        have HB8 := Lib.hid (below_trans HB7.out hb8)
        clear hb8 hq
        go_wp2_with fail
        refine hK.out _ _ ?_ (fun hz2 => ?_)
        · exact HSS.out _ HB8.out
        clear hK K hz1 
        try simp only [Act.put, List.setIfInBounds_toArray, List.set_cons_zero, List.set_cons_succ]
        refine wpAnyH_ready (rs := [5]) (by kernel_rfl) (by simp) ?_
        refine AllReadyH.cons (o := { dst := some 46, op := Go.Op.call { callee := Go.Callee.value (Go.Operand.func 12), args := #[Go.Operand.tmp 45], argTypes := #[24] }, type := 4, pos := "law.go:44", after := #[{ on := 4, ground := Go.Ground.data }, { on := 3, ground := Go.Ground.chain }, { on := 1, ground := Go.Ground.guard }], guard := some (1, true) }) rfl (fun K hK => ?_) AllReadyH.nil
        go_simp
        refine (HRR.out w8 (below_trans HB1.out (below_trans HB5.out HB8.out))).mono ?_
        rintro e w9 ⟨q9, rfl, hq9, hb9⟩
        obtain rfl : q9 = q := by
          have h1 := HQ.out
          cases q9 <;> cases q <;> simp_all
        have HB9 := Lib.hid (below_trans HB8.out hb9)
        clear hb9 hq9
        go_wp2_with fail
        refine hK.out _ _ ?_ (fun hz3 => ?_)
        · exact HSS.out _ HB9.out
        clear hK K hz2 
        try simp only [Act.put, List.setIfInBounds_toArray, List.set_cons_zero, List.set_cons_succ]
        have uq : (q9 == q9) = true := by simp
        refine wpAnyH_take (i := 6) (oi := { dst := some 47, op := Go.Op.binOp Go.BinOp.eql 4 (Go.Operand.tmp 44) (Go.Operand.tmp 46) 4, type := 4, pos := "law.go:44", after := #[{ on := 3, ground := Go.Ground.data }, { on := 5, ground := Go.Ground.data }, { on := 1, ground := Go.Ground.guard }], guard := some (1, true) }) (v := ?_) rfl (by kernel_rfl) (by kernel_rfl) (by kernel_rfl) (fun _ _ _ h => h) (Or.inl ⟨by rfl, ?_⟩) (by assumption) ?_
        rotate_left
        · (intro w hSw; (try dsimp only at hSw); go_simp) <;> with_reducible rfl
        simp only [Act.put, List.setIfInBounds_toArray, List.set_cons_zero, List.set_cons_succ]
        refine wpAnyH_take (i := 7) (oi := { dst := some 48, op := Go.Op.pick (Go.Operand.tmp 42) (Go.Operand.tmp 47) (Go.Operand.const (Go.Value.bool false)), type := 4, pos := "law.go:44", after := #[{ on := 1, ground := Go.Ground.data }, { on := 6, ground := Go.Ground.data }], guard := none }) (v := ?_) rfl (by kernel_rfl) (by kernel_rfl) (by kernel_rfl) (fun _ _ _ h => h) (Or.inl ⟨by rfl, ?_⟩) (by assumption) ?_
        rotate_left
        · (intro w hSw; (try dsimp only at hSw); go_simp) <;> with_reducible rfl
        simp only [Act.put, List.setIfInBounds_toArray, List.set_cons_zero, List.set_cons_succ]
        refine wpAnyH_take (i := 8) (oi := { dst := some 49, op := Go.Op.move (Go.Operand.tmp 48), type := 4, pos := "law.go:44", after := #[{ on := 7, ground := Go.Ground.data }, { on := 5, ground := Go.Ground.chain }], guard := none }) (v := ?_) rfl (by kernel_rfl) (by kernel_rfl) (by kernel_rfl) (fun _ _ _ h => h) (Or.inl ⟨by rfl, ?_⟩) (by assumption) ?_
        rotate_left
        · (intro w hSw; (try dsimp only at hSw); go_simp) <;> with_reducible rfl
        simp only [Act.put, List.setIfInBounds_toArray, List.set_cons_zero, List.set_cons_succ]
        refine wpAnyH_take (i := 9) (oi := { dst := some 50, op := Go.Op.move (Go.Operand.tmp 6), type := 28, pos := "law.go:44", after := #[{ on := 8, ground := Go.Ground.guard }], guard := some (8, true) }) (v := ?_) rfl (by kernel_rfl) (by kernel_rfl) (by kernel_rfl) (fun _ _ _ h => h) (Or.inl ⟨by rfl, ?_⟩) (by assumption) ?_
        rotate_left
        · (intro w hSw; (try dsimp only at hSw); go_simp) <;> with_reducible rfl
        simp only [Act.put, List.setIfInBounds_toArray, List.set_cons_zero, List.set_cons_succ]
        refine wpAnyH_take (i := 10) (oi := { dst := some 51, op := Go.Op.move (Go.Operand.tmp 8), type := 28, pos := "law.go:44", after := #[{ on := 8, ground := Go.Ground.guard }], guard := some (8, true) }) (v := ?_) rfl (by kernel_rfl) (by kernel_rfl) (by kernel_rfl) (fun _ _ _ h => h) (Or.inl ⟨by rfl, ?_⟩) (by assumption) ?_
        rotate_left
        · (intro w hSw; (try dsimp only at hSw); go_simp) <;> with_reducible rfl
        simp only [Act.put, List.setIfInBounds_toArray, List.set_cons_zero, List.set_cons_succ]
        refine wpAnyH_take (i := 11) (oi := { dst := some 52, op := Go.Op.binOp Go.BinOp.eql 28 (Go.Operand.tmp 50) (Go.Operand.tmp 51) 28, type := 4, pos := "law.go:44", after := #[{ on := 9, ground := Go.Ground.data }, { on := 10, ground := Go.Ground.data }, { on := 8, ground := Go.Ground.guard }], guard := some (8, true) }) (v := ?_) rfl (by kernel_rfl) (by kernel_rfl) (by kernel_rfl) (fun _ _ _ h => h) (Or.inl ⟨by rfl, ?_⟩) (by assumption) ?_
        rotate_left
        · (intro w hSw; (try dsimp only at hSw); go_simp) <;> with_reducible rfl
        simp only [Act.put, List.setIfInBounds_toArray, List.set_cons_zero, List.set_cons_succ]
        refine wpAnyH_take (i := 12) (oi := { dst := some 53, op := Go.Op.pick (Go.Operand.tmp 49) (Go.Operand.tmp 52) (Go.Operand.const (Go.Value.bool false)), type := 4, pos := "law.go:44", after := #[{ on := 8, ground := Go.Ground.data }, { on := 11, ground := Go.Ground.data }], guard := none }) (v := ?_) rfl (by kernel_rfl) (by kernel_rfl) (by kernel_rfl) (fun _ _ _ h => h) (Or.inl ⟨by rfl, ?_⟩) (by assumption) ?_
        rotate_left
        · (intro w hSw; (try dsimp only at hSw); go_simp) <;> with_reducible rfl
        simp only [Act.put, List.setIfInBounds_toArray, List.set_cons_zero, List.set_cons_succ]
        refine wpAnyH_take (i := 13) (oi := { dst := some 54, op := Go.Op.move (Go.Operand.tmp 53), type := 4, pos := "law.go:44", after := #[{ on := 12, ground := Go.Ground.data }, { on := 8, ground := Go.Ground.chain }], guard := none }) (v := ?_) rfl (by kernel_rfl) (by kernel_rfl) (by kernel_rfl) (fun _ _ _ h => h) (Or.inl ⟨by rfl, ?_⟩) (by assumption) ?_
        rotate_left
        · (intro w hSw; (try dsimp only at hSw); go_simp) <;> with_reducible rfl
        simp only [Act.put, List.setIfInBounds_toArray, List.set_cons_zero, List.set_cons_succ]
        refine wpAnyH_take (i := 14) (oi := { dst := some 55, op := Go.Op.load 24 (Go.Operand.tmp 5), type := 24, pos := "law.go:44", after := #[{ on := 13, ground := Go.Ground.guard }], guard := some (13, true) }) (v := ?_) rfl (by kernel_rfl) (by kernel_rfl) (by kernel_rfl) (fun _ _ _ h => h) (Or.inl ⟨by rfl, ?_⟩) (by assumption) ?_
        rotate_left
        · (intro w hSw; (try dsimp only at hSw); go_simp) <;> with_reducible rfl
        simp only [Act.put, List.setIfInBounds_toArray, List.set_cons_zero, List.set_cons_succ]
        refine wpAnyH_take (i := 15) (oi := { dst := some 56, op := Go.Op.load 24 (Go.Operand.tmp 7), type := 24, pos := "law.go:44", after := #[{ on := 13, ground := Go.Ground.guard }], guard := some (13, true) }) (v := ?_) rfl (by kernel_rfl) (by kernel_rfl) (by kernel_rfl) (fun _ _ _ h => h) (Or.inl ⟨by rfl, ?_⟩) (by assumption) ?_
        rotate_left
        · (intro w hSw; (try dsimp only at hSw); go_simp) <;> with_reducible rfl
        simp only [Act.put, List.setIfInBounds_toArray, List.set_cons_zero, List.set_cons_succ]
        have HLK := Lib.hid (like_any w9 ⟨rr, rf, rl, rd⟩ a2 a4 c2 c4 (by simp only; rw [← HL7.out]; exact HSA5.out.old HB9.out) (by simp only; rw [← HL7.out]; exact HSB5.out.old HB9.out))
        simp only at HLK
        rw [← HL7.out] at HLK
        refine wpAnyH_ready (rs := [16]) (by kernel_rfl) (by simp) ?_
        refine AllReadyH.cons (o := { dst := some 57, op := Go.Op.call { callee := Go.Callee.value (Go.Operand.func 13), args := #[Go.Operand.tmp 55, Go.Operand.tmp 56], argTypes := #[24, 24] }, type := 4, pos := "law.go:44", after := #[{ on := 14, ground := Go.Ground.data }, { on := 15, ground := Go.Ground.data }, { on := 13, ground := Go.Ground.chain }, { on := 13, ground := Go.Ground.guard }], guard := some (13, true) }) rfl (fun K hK => ?_) AllReadyH.nil
        go_simp
        refine HLK.out.mono ?_
        rintro e w10 ⟨rfl, hb10⟩
        have HB10 := Lib.hid (below_trans HB9.out hb10)
        clear hb10
        go_wp2_with fail
        refine hK.out _ _ ?_ (fun hz4 => ?_)
        · exact HSS.out _ HB10.out
        clear hK K hz3 
        try simp only [Act.put, List.setIfInBounds_toArray, List.set_cons_zero, List.set_cons_succ]
        refine wpAnyH_take (i := 17) (oi := { dst := some 58, op := Go.Op.pick (Go.Operand.tmp 54) (Go.Operand.tmp 57) (Go.Operand.const (Go.Value.bool false)), type := 4, pos := "law.go:44", after := #[{ on := 13, ground := Go.Ground.data }, { on := 16, ground := Go.Ground.data }], guard := none }) (v := ?_) rfl (by kernel_rfl) (by kernel_rfl) (by kernel_rfl) (fun _ _ _ h => h) (Or.inl ⟨by rfl, ?_⟩) (by assumption) ?_
        rotate_left
        · (intro w hSw; (try dsimp only at hSw); go_simp) <;> with_reducible rfl
        simp only [Act.put, List.setIfInBounds_toArray, List.set_cons_zero, List.set_cons_succ]
        refine wpAnyH_take (i := 18) (oi := { dst := some 4, op := Go.Op.assign (Go.Operand.tmp 58), type := 4, pos := "law.go:44", after := #[{ on := 17, ground := Go.Ground.data }, { on := 16, ground := Go.Ground.chain }, { on := 0, ground := Go.Ground.phase }, { on := 1, ground := Go.Ground.phase }, { on := 2, ground := Go.Ground.phase }, { on := 3, ground := Go.Ground.phase }, { on := 4, ground := Go.Ground.phase }, { on := 5, ground := Go.Ground.phase }, { on := 6, ground := Go.Ground.phase }, { on := 7, ground := Go.Ground.phase }, { on := 8, ground := Go.Ground.phase }, { on := 9, ground := Go.Ground.phase }, { on := 10, ground := Go.Ground.phase }, { on := 11, ground := Go.Ground.phase }, { on := 12, ground := Go.Ground.phase }, { on := 13, ground := Go.Ground.phase }, { on := 14, ground := Go.Ground.phase }, { on := 15, ground := Go.Ground.phase }, { on := 16, ground := Go.Ground.phase }, { on := 17, ground := Go.Ground.phase }], guard := none }) (v := ?_) rfl (by kernel_rfl) (by kernel_rfl) (by kernel_rfl) (fun _ _ _ h => h) (Or.inl ⟨by rfl, ?_⟩) (by assumption) ?_
        rotate_left
        · (intro w hSw; (try dsimp only at hSw); go_simp) <;> with_reducible rfl
        simp only [Act.put, List.setIfInBounds_toArray, List.set_cons_zero, List.set_cons_succ]
        refine wpAnyH_done (by kernel_rfl) ?_ _
        refine NoPanic.normal ?_
        go_wp2
        go_ret
        exact ⟨rfl, below_trans HB1.out (below_trans HB5.out HB10.out)⟩
      · have um : decide (2097152 < (m.size : Int)) = true := decide_eq_true (by omega)
        have r0 := HRD.out.cell (i := 0) rfl
        have r1 := HRD.out.cell (i := 1) rfl
        have r2 := HRD.out.cell (i := 2) rfl
        have r3 := HRD.out.cell (i := 3) rfl
        have y0 := HRC.out.cell (i := 0) rfl
        have y1 := HRC.out.cell (i := 1) rfl
        have y2 := HRC.out.cell (i := 2) rfl
        have y3 := HRC.out.cell (i := 3) rfl
        rw [HW1.out] at r0 r1 r2 r3 y0 y1 y2 y3
        go_enter Try.func3, Try.ntmps3
        go_wp2_with fail
        rw [← HW1.out]
        refine (HAL.out W1).mono ?_
        rintro e w2 ⟨rfl, hb2⟩
        have HB2 := Lib.hid (below_trans HB1.out hb2)
        clear hb2 r0 r1 r2 r3 y0 y1 y2 y3 HW1
        go_wp2
        go_ret
        exact ⟨rfl, HB2.out⟩
    · have u4 : decide (4 < wh) = true := decide_eq_true (by omega)
      have r0 := HRD.out.cell (i := 0) rfl
      have r1 := HRD.out.cell (i := 1) rfl
      have r2 := HRD.out.cell (i := 2) rfl
      have r3 := HRD.out.cell (i := 3) rfl
      have y0 := HRC.out.cell (i := 0) rfl
      have y1 := HRC.out.cell (i := 1) rfl
      have y2 := HRC.out.cell (i := 2) rfl
      have y3 := HRC.out.cell (i := 3) rfl
      rw [HW1.out] at r0 r1 r2 r3 y0 y1 y2 y3
      go_enter Try.func3, Try.ntmps3
      go_wp2_with fail
      rw [← HW1.out]
      refine (HAL.out W1).mono ?_
      rintro e w2 ⟨rfl, hb2⟩
      have HB2 := Lib.hid (below_trans HB1.out hb2)
      clear hb2 r0 r1 r2 r3 y0 y1 y2 y3 HW1
      go_wp2
      go_ret
      exact ⟨rfl, HB2.out⟩
  · have u1 : decide (wh < 1) = true := decide_eq_true (by omega)
    have r0 := HRD.out.cell (i := 0) rfl
    have r1 := HRD.out.cell (i := 1) rfl
    have r2 := HRD.out.cell (i := 2) rfl
    have r3 := HRD.out.cell (i := 3) rfl
    have y0 := HRC.out.cell (i := 0) rfl
    have y1 := HRC.out.cell (i := 1) rfl
    have y2 := HRC.out.cell (i := 2) rfl
    have y3 := HRC.out.cell (i := 3) rfl
    rw [HW1.out] at r0 r1 r2 r3 y0 y1 y2 y3
    go_enter Try.func3, Try.ntmps3
    go_wp2_with fail
    rw [← HW1.out]
    refine (HAL.out W1).mono ?_
    rintro e w2 ⟨rfl, hb2⟩
    have HB2 := Lib.hid (below_trans HB1.out hb2)
    clear hb2 r0 r1 r2 r3 y0 y1 y2 y3 HW1
    go_wp2
    go_ret
    exact ⟨rfl, HB2.out⟩
end Go.Proofs.Ytmhdodiipkkjpaa.Dk
