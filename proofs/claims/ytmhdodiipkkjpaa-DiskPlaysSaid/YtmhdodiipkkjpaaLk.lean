/- DiskKeeps: what the law answers. -/
import Derived.Test.YtmhdodiipkkjpaaDl
namespace Go.Proofs.Ytmhdodiipkkjpaa.Dk
open Go.RowKit

theorem crash_yes {d : Dsk} {keep : List Int} (h : RgtD d) : crashF d keep = (⟨d.room, crFs keep d.fs, -1, false⟩, 0) := by unfold crashF; rw [if_pos h]
theorem crash_no {d : Dsk} {keep : List Int} (h : ¬ RgtD d) : crashF d keep = (zeroD, 1) := by unfold crashF; rw [if_neg h]
theorem read_up {d : Dsk} {n : BA} {f : Fil} (h : RgtD d) (hn : nmB n = true) (hd : d.down = false) (hf : findF d.fs n = some f) : readF d n = (f.sy ++ f.tl, 0) := by
  unfold readF; rw [findE_yes h (by rw [nms_one]; exact hn) hd hf]
theorem read_none {d : Dsk} {n : BA} (h : RgtD d) (hn : nmB n = true) (hd : d.down = false) (hf : findF d.fs n = none) : readF d n = (noB, 60) := by
  unfold readF; rw [findE_no h (by rw [nms_one]; exact hn) hd hf]
theorem read_crash {rm : Int} {fs : List Fil} {keep : List Int} {k : Nat} {x : Fil} (h : RgtD ⟨rm, crFs keep fs, -1, false⟩) (hx : fs[k]? = some x) : readF ⟨rm, crFs keep fs, -1, false⟩ x.nm = (x.sy ++ x.tl.extract 0 (lastF keep k x.tl.size), 0) := by
  have h1 := crs_get (keep := keep) hx
  have h2 := find_at h.fs.srt h1
  have h3 := h.fs.nms _ (mem_at h1)
  have h4 := read_up h h3 rfl h2
  rw [show (crF x (lastF keep k x.tl.size)).nm = x.nm from rfl] at h4
  rw [h4]
  unfold crF
  rw [app_nil]
theorem ext_split (t : BA) (n : Nat) (hn : n ≤ t.size) : t = t.extract 0 n ++ t.extract n t.size := by
  apply ByteArray.ext
  rw [ByteArray.data_append, ByteArray.data_extract, ByteArray.data_extract]
  show t.data = t.data.extract 0 n ++ t.data.extract n t.data.size
  rw [Array.extract_append_extract, Nat.max_eq_right (show n ≤ t.data.size from hn), Nat.min_eq_left (Nat.zero_le _), Array.extract_size]
theorem app_split (s t : BA) (n : Nat) (hn : n ≤ t.size) : s ++ t = (s ++ t.extract 0 n) ++ t.extract n t.size := by
  rw [ByteArray.append_assoc, ← ext_split t n hn]

set_option maxHeartbeats 6400000 in
set_option maxRecDepth 100000 in
theorem lkeeps_any (w : World) (d : Dsk) (a : Option Addr) (cap : Nat) (ak : Option Addr) (ck : Nat) (keep : List Int) (h : DAt w d a cap) (hk : SlI w (Old w) (.slice ak keep.length ck) keep) (hw : ∀ n, n ∈ keep → I64 n) :
    Calls Try.prog 5 #[diV d (.slice a d.fs.length cap), .slice ak keep.length ck] w fun e w' => e = .returned (.bool true) ∧ Below w.heap.size w w' := by
  have HCR := Lib.hid (fun W (hb : Below w.heap.size w W) => crash_any W d a cap ak ck keep (h.old hb) (hk.old hb) hw)
  have HRT := Lib.hid (fun W (hb : Below w.heap.size w W) => right_any W d a cap (h.old hb))
  have HAL := Lib.hid (fun W => alive_any W)
  have HXO0 := Lib.hid (fun W (hb : Below w.heap.size w W) => h.fs.old hb)
  have hll := h.fs.len
  clear h hk hw
  obtain ⟨rm, fs, lf, dn⟩ := d
  obtain ⟨L, HL⟩ : ∃ L, Hid (L = fs.length) := ⟨_, Lib.hid rfl⟩
  obtain ⟨M, HM⟩ : ∃ L, Hid (L = keep.length) := ⟨_, Lib.hid rfl⟩
  simp only at HCR HRT HXO0 hll ⊢
  have hL : L ≤ 9223372036854775807 := by have := HL.out; omega
  rw [← HL.out] at HCR HRT HXO0 ⊢
  rw [← HM.out] at HCR ⊢
  clear hll
  have R := row_new w #[.int .i64 rm, .slice a L cap, .int .i64 lf, .bool dn] 24
  have HRD := Lib.hid R
  have HB1 := Lib.hid (below1 w (.cells #[.int .i64 rm, .slice a L cap, .int .i64 lf, .bool dn] 24))
  have r0 := R.cell (i := 0) rfl
  have r1 := R.cell (i := 1) rfl
  have r2 := R.cell (i := 2) rfl
  have r3 := R.cell (i := 3) rfl
  clear R
  go_enter Try.func5, Try.ntmps5
  go_wp2_with fail
  generalize hW1 : w.alloc (.cells #[.int .i64 rm, .slice a L cap, .int .i64 lf, .bool dn] 24) = W1 at *
  clear hW1
  refine (HCR.out W1 HB1.out).mono ?_
  rintro e w2 ⟨a2, c2, rfl, hs2, hb2⟩
  clear r0 r1 r2 r3
  obtain ⟨r, HRS⟩ : ∃ r, Hid (r = crashF ⟨rm, fs, lf, dn⟩ keep) := ⟨_, Lib.hid rfl⟩
  rw [← HRS.out] at hs2 ⊢
  obtain ⟨⟨rr, rf, rl, rd⟩, k⟩ := r
  have HS2 := Lib.hid hs2
  have HB2 := Lib.hid hb2
  clear hs2 hb2
  simp only at HS2 ⊢
  obtain ⟨L7, HL7⟩ : ∃ L, Hid (L = rf.length) := ⟨_, Lib.hid rfl⟩
  rw [← HL7.out] at HS2 ⊢
  have HB3 := Lib.hid (below_trans HB2.out (below1 w2 (.cells #[.int .i64 rr, .slice a2 L7 c2, .int .i64 rl, .bool rd] 24)))
  have HRA : Hid (Row (w2.alloc (.cells #[.int .i64 rr, .slice a2 L7 c2, .int .i64 rl, .bool rd] 24)) w2.heap.size 24 [.int .i64 rr, .slice a2 L7 c2, .int .i64 rl, .bool rd]) := Lib.hid (row_new w2 #[.int .i64 rr, .slice a2 L7 c2, .int .i64 rl, .bool rd] _)
  have HSA := Lib.hid (HS2.out.old (below1 w2 (.cells #[.int .i64 rr, .slice a2 L7 c2, .int .i64 rl, .bool rd] 24)))
  have HRD3 := Lib.hid (HRD.out.below HB3.out)
  have r0 := HRD3.out.cell (i := 0) rfl
  have r1 := HRD3.out.cell (i := 1) rfl
  have r2 := HRD3.out.cell (i := 2) rfl
  have r3 := HRD3.out.cell (i := 3) rfl
  go_wp2_with fail
  generalize hW3 : w2.alloc (.cells #[.int .i64 rr, .slice a2 L7 c2, .int .i64 rl, .bool rd] 24) = w3 at *
  clear hW3
  refine (HRT.out w3 (below_trans HB1.out HB3.out)).mono ?_
  rintro e w4 ⟨q, rfl, hq, hb4⟩
  have HQ := Lib.hid hq
  have HB4 := Lib.hid (below_trans HB3.out hb4)
  have HRA4 := Lib.hid (HRA.out.below hb4)
  have HSA4 := Lib.hid (HSA.out.old hb4)
  clear hb4 hq r0 r1 r2 r3
  cases q with
  | false =>
    have HNO : Hid (¬ RgtD ⟨rm, fs, lf, dn⟩) := Lib.hid (fun h => by have := HQ.out.2 h; cases this)
    have HE := HRS.out
    rw [crash_no HNO.out] at HE
    injection HE with HE1 HE2
    subst HE2
    go_wp2_with fail
    refine (HAL.out w4).mono ?_
    rintro e w5 ⟨rfl, hb5⟩
    have HB5 := Lib.hid (below_trans HB1.out (below_trans HB4.out hb5))
    clear hb5 HE1
    go_wp2
    go_ret
    exact ⟨rfl, HB5.out⟩
  | true =>
    have HRG : Hid (RgtD ⟨rm, fs, lf, dn⟩) := Lib.hid (HQ.out.1 rfl)
    have HE := HRS.out
    rw [crash_yes HRG.out] at HE
    injection HE with HE1 HE2
    injection HE1 with e1 e2 e3 e4
    subst e1 e2 e3 e4 HE2
    have HRB : Hid (RgtD ⟨rr, crFs keep fs, -1, false⟩) := Lib.hid (by have := @crash_right ⟨rr, fs, lf, dn⟩ keep; rw [crash_yes HRG.out] at this; exact this)
    obtain rfl : L7 = L := by rw [HL7.out, HL.out]; exact crs_len keep fs
    go_wp2_with fail
    refine (HAL.out w4).mono ?_
    rintro e w5 ⟨rfl, hb5⟩
    have HRA5 := Lib.hid (HRA4.out.below hb5)
    have HSA5 := Lib.hid (HSA4.out.old hb5)
    have HB5 := Lib.hid (below_trans HB4.out hb5)
    have HBR := Lib.hid (fun W (hb : Below w5.heap.size w5 W) => right_any W ⟨rr, crFs keep fs, -1, false⟩ a2 c2 ⟨by simp only; rw [← HL7.out]; exact HSA5.out.old hb, HRB.out.fits⟩)
    have HRE := Lib.hid (fun W n (hn : n.size ≤ 140737488351232) (hb : Below w5.heap.size w5 W) => read_any W ⟨rr, crFs keep fs, -1, false⟩ a2 c2 n ⟨by simp only; rw [← HL7.out]; exact HSA5.out.old hb, HRB.out.fits⟩ hn)
    simp only at HBR HRE
    rw [← HL7.out] at HBR HRE
    clear hb5
    have r0 := HRA5.out.cell (i := 0) rfl
    have r1 := HRA5.out.cell (i := 1) rfl
    have r2 := HRA5.out.cell (i := 2) rfl
    have r3 := HRA5.out.cell (i := 3) rfl
    go_wp2_with fail
    refine (HBR.out w5 (Below.refl _ _)).mono ?_
    rintro e w6 ⟨q6, rfl, hq6, hb6⟩
    obtain rfl : q6 = true := hq6.2 HRB.out
    have HB6 := Lib.hid (below_trans HB5.out hb6)
    have HB56 := Lib.hid hb6
    have HRA6 := Lib.hid (HRA5.out.below hb6)
    have HRD6 := Lib.hid (HRD.out.below HB6.out)
    clear hb6 hq6 r0 r1 r2 r3
    have r1 := HRA6.out.cell (i := 1) rfl
    have r3 := HRA6.out.cell (i := 3) rfl
    have d1 := HRD6.out.cell (i := 1) rfl
    go_wp2
    clear r1 r3 d1
    go_loopw [52] (fun i wr => ∃ k : Nat, k ≤ L7 ∧ i = .int .i64 k ∧ Hid (Below w6.heap.size w6 wr)) (fun i _ => L7 - (intOf i).toNat)
    case atStart => exact ⟨0, Nat.zero_le _, rfl, Lib.hid (Below.refl _ _)⟩
    case round =>
      obtain ⟨k, hk, rfl, HB⟩ := hrel
      by_cases hlt : k < L7
      · obtain ⟨x, hx⟩ : ∃ x, fs[k]? = some x := ⟨_, List.getElem?_eq_getElem (by have := HL.out; omega)⟩
        obtain ⟨b, off, rfl, -, x0, x1, x2⟩ := (HXO0.out _ (below_trans HB1.out (below_trans HB6.out HB.out))).get hx
        have hbo := below1 wr (.cells (fiC x) 44)
        have HRF : Hid (RowF (wr.alloc (.cells (fiC x) 44)) wr.heap.size x) := Lib.hid (row_new wr (fiC x) _)
        have HB7 := Lib.hid (below_trans (below_trans HB56.out HB.out) hbo)
        have HB67 := Lib.hid (below_trans HB.out hbo)
        have HRA7 := Lib.hid (HRA5.out.below HB7.out)
        have HRX := Lib.hid (read_crash HRB.out hx)
        obtain ⟨hf1, hf2⟩ := HRG.out.fit (mem_at hx)
        have HCG := Lib.hid (crs_get (keep := keep) hx)
        obtain ⟨n, Hn⟩ : ∃ n, Hid (n = lastF keep k x.tl.size) := ⟨_, Lib.hid rfl⟩
        rw [← Hn.out] at HRX HCG
        have hnle : n ≤ x.tl.size := by rw [Hn.out]; exact last_le _ _ _
        have d0 := HRF.out.cell (i := 0) rfl
        have d1 := HRF.out.cell (i := 1) rfl
        have d2 := HRF.out.cell (i := 2) rfl
        clear hx hbo
        obtain ⟨xn, xs, xt⟩ := x
        simp only at x0 x1 x2 d0 d1 d2 HRF HRX HCG hf1 hf2 hnle HB7 HRA7 HB67
        have HRE2 := Lib.hid (HRE.out (wr.alloc (.cells (fiC ⟨xn, xs, xt⟩) 44)) xn (by omega) HB7.out)
        rw [HRX.out] at HRE2
        obtain ⟨s, Hs⟩ : ∃ s, Hid (s = xs ++ xt.extract 0 n) := ⟨_, Lib.hid rfl⟩
        have HP1 : Hid (∀ W, Calls Try.prog 20 #[.string s, .string xs] W fun e w' => e = .returned (.bool true) ∧ W = w') := Lib.hid (fun W => by
          rw [Hs.out]; exact prefix_any W xs (xt.extract 0 n) (by rw [ByteArray.size_extract]; omega))
        have HP2 : Hid (∀ W, Calls Try.prog 20 #[.string (xs ++ xt), .string s] W fun e w' => e = .returned (.bool true) ∧ W = w') := Lib.hid (fun W => by
          have h := prefix_any W s (xt.extract n xt.size) (by rw [Hs.out, ByteArray.size_append, ByteArray.size_extract, ByteArray.size_extract]; omega)
          rw [show s ++ xt.extract n xt.size = xs ++ xt by rw [Hs.out]; exact (app_split xs xt n hnle).symm] at h
          exact h)
        have HCG2 : Hid ((crFs keep fs)[k]? = some ⟨xn, s, noB⟩) := Lib.hid (by rw [HCG.out]; unfold crF; rw [Hs.out])
        rw [← Hs.out] at HRE2
        have qc : ¬ (9223372036854775807 < xs.size + xt.size) := by omega
        have r0 := HRA7.out.cell (i := 0) rfl
        have r1 := HRA7.out.cell (i := 1) rfl
        have r2 := HRA7.out.cell (i := 2) rfl
        have r3 := HRA7.out.cell (i := 3) rfl
        go_wp2_with fail
        generalize hW7 : wr.alloc (.cells (fiC ⟨xn, xs, xt⟩) 44) = w7 at *
        clear hW7 x0 x1 x2 d0 d1 d2 r0 r1 r2 r3
        refine HRE2.out.mono ?_
        rintro e w8 ⟨rfl, hb8⟩
        have HB8 := Lib.hid (below_trans HB7.out hb8)
        have HB68 := Lib.hid (below_trans HB67.out hb8)
        have HRA8 := Lib.hid (HRA5.out.below HB8.out)
        have HRF8 := Lib.hid (HRF.out.below hb8)
        clear hb8
        obtain ⟨bb, oo, rfl, -, -⟩ := (HSA5.out.old HB8.out).get HCG2.out
        have HSE : Hid (∀ W, Below w8.heap.size w8 W → W.cell? ⟨bb, oo + k * 3, none⟩ = some (.string xn) ∧ W.cell? ⟨bb, oo + k * 3 + 2, none⟩ = some (.string ⟨#[]⟩)) := Lib.hid (fun W hb => by
          obtain ⟨b9, o9, h9, -, z0, -, z2⟩ := (HSA5.out.old (below_trans HB8.out hb)).get HCG2.out
          injection h9 with h9
          injection h9 with e1 e2
          subst e1 e2
          exact ⟨z0, z2⟩)
        have HSS : Hid (∀ W, Below w8.heap.size w8 W → W.cell? ⟨w2.heap.size, 1, none⟩ = some (.slice (some ⟨bb, oo, none⟩) L7 c2) ∧ W.cell? ⟨bb, oo + k * 3, none⟩ = some (.string xn) ∧ W.cell? ⟨bb, oo + k * 3 + 2, none⟩ = some (.string ⟨#[]⟩) ∧ W.cell? ⟨wr.heap.size, 0, none⟩ = some (.string xn) ∧ W.cell? ⟨wr.heap.size, 1, none⟩ = some (.string xs) ∧ W.cell? ⟨wr.heap.size, 2, none⟩ = some (.string xt)) := Lib.hid (fun W hb => ⟨(HRA8.out.below hb).cell (i := 1) rfl, (HSE.out W hb).1, (HSE.out W hb).2, (HRF8.out.below hb).cell (i := 0) rfl, (HRF8.out.below hb).cell (i := 1) rfl, (HRF8.out.below hb).cell (i := 2) rfl⟩)
        have HDR := Lib.hid (Below.refl w8.heap.size w8).drew
        have hs0 := HSS.out _ HDR.out
        have hkL : (k : Int) < (L7 : Int) := by omega
        have une : (xn.toList != xn.toList) = false := by simp
        go_wp2
        refine wp_region_noPanic ?_
        refine wp_region_held_drew (S := fun W => W.cell? ⟨w2.heap.size, 1, none⟩ = some (.slice (some ⟨bb, oo, none⟩) L7 c2) ∧ W.cell? ⟨bb, oo + k * 3, none⟩ = some (.string xn) ∧ W.cell? ⟨bb, oo + k * 3 + 2, none⟩ = some (.string ⟨#[]⟩) ∧ W.cell? ⟨wr.heap.size, 0, none⟩ = some (.string xn) ∧ W.cell? ⟨wr.heap.size, 1, none⟩ = some (.string xs) ∧ W.cell? ⟨wr.heap.size, 2, none⟩ = some (.string xt)) (by kernel_rfl) hs0 (fun hHeld => ?_)
        clear hs0
        generalize hW9 : w8.drew = w9 at *
        clear hW9
        refine wpAnyH_take (i := 0) (oi := { dst := some 64, op := Go.Op.move (Go.Operand.tmp 10), type := 28, pos := "law.go:94", after := #[], guard := none }) (v := ?_) rfl (by kernel_rfl) (by kernel_rfl) (by kernel_rfl) (fun _ _ _ h => h) (Or.inl ⟨by rfl, ?_⟩) (by assumption) ?_
        rotate_left
        · (intro w hSw; (try dsimp only at hSw); go_simp) <;> with_reducible rfl
        simp only [Act.put, List.setIfInBounds_toArray, List.set_cons_zero, List.set_cons_succ]
        refine wpAnyH_take (i := 1) (oi := { dst := some 65, op := Go.Op.binOp Go.BinOp.neq 28 (Go.Operand.tmp 64) (Go.Operand.const (Go.Value.int Go.IntKind.i64 0)) 28, type := 4, pos := "law.go:94", after := #[{ on := 0, ground := Go.Ground.data }], guard := none }) (v := ?_) rfl (by kernel_rfl) (by kernel_rfl) (by kernel_rfl) (fun _ _ _ h => h) (Or.inl ⟨by rfl, ?_⟩) (by assumption) ?_
        rotate_left
        · (intro w hSw; (try dsimp only at hSw); go_simp) <;> with_reducible rfl
        simp only [Act.put, List.setIfInBounds_toArray, List.set_cons_zero, List.set_cons_succ]
        refine wpAnyH_take (i := 2) (oi := { dst := some 66, op := Go.Op.move (Go.Operand.tmp 65), type := 4, pos := "law.go:94", after := #[{ on := 1, ground := Go.Ground.data }], guard := none }) (v := ?_) rfl (by kernel_rfl) (by kernel_rfl) (by kernel_rfl) (fun _ _ _ h => h) (Or.inl ⟨by rfl, ?_⟩) (by assumption) ?_
        rotate_left
        · (intro w hSw; (try dsimp only at hSw); go_simp) <;> with_reducible rfl
        simp only [Act.put, List.setIfInBounds_toArray, List.set_cons_zero, List.set_cons_succ]
        refine wpAnyH_take (i := 3) (oi := { dst := some 67, op := Go.Op.fieldAddr 24 (Go.Operand.tmp 5) 1, type := 0, pos := "law.go:94", after := #[{ on := 2, ground := Go.Ground.guard }], guard := some (2, false) }) (v := ?_) rfl (by kernel_rfl) (by kernel_rfl) (by kernel_rfl) (fun _ _ _ h => h) (Or.inl ⟨by rfl, ?_⟩) (by assumption) ?_
        rotate_left
        · (intro w hSw; (try dsimp only at hSw); go_simp) <;> with_reducible rfl
        simp only [Act.put, List.setIfInBounds_toArray, List.set_cons_zero, List.set_cons_succ]
        refine wpAnyH_take (i := 4) (oi := { dst := some 68, op := Go.Op.load 22 (Go.Operand.tmp 67), type := 22, pos := "law.go:94", after := #[{ on := 3, ground := Go.Ground.data }, { on := 2, ground := Go.Ground.guard }], guard := some (2, false) }) (v := ?_) rfl (by kernel_rfl) (by kernel_rfl) (by kernel_rfl) (fun _ _ _ h => h) (Or.inl ⟨by rfl, ?_⟩) (by assumption) ?_
        rotate_left
        · (intro w hSw; (try dsimp only at hSw); go_simp) <;> with_reducible rfl
        simp only [Act.put, List.setIfInBounds_toArray, List.set_cons_zero, List.set_cons_succ]
        refine wpAnyH_take (i := 5) (oi := { dst := some 69, op := Go.Op.move (Go.Operand.tmp 7), type := 3, pos := "law.go:94", after := #[{ on := 2, ground := Go.Ground.guard }], guard := some (2, false) }) (v := ?_) rfl (by kernel_rfl) (by kernel_rfl) (by kernel_rfl) (fun _ _ _ h => h) (Or.inl ⟨by rfl, ?_⟩) (by assumption) ?_
        rotate_left
        · (intro w hSw; (try dsimp only at hSw); go_simp) <;> with_reducible rfl
        simp only [Act.put, List.setIfInBounds_toArray, List.set_cons_zero, List.set_cons_succ]
        refine wpAnyH_take (i := 6) (oi := { dst := some 70, op := Go.Op.indexAddr 22 (Go.Operand.tmp 68) (Go.Operand.tmp 69), type := 0, pos := "law.go:94", after := #[{ on := 4, ground := Go.Ground.data }, { on := 5, ground := Go.Ground.data }, { on := 2, ground := Go.Ground.guard }], guard := some (2, false) }) (v := ?_) rfl (by kernel_rfl) (by kernel_rfl) (by kernel_rfl) (fun _ _ _ h => h) (Or.inl ⟨by rfl, ?_⟩) (by assumption) ?_
        rotate_left
        · (intro w hSw; (try dsimp only at hSw); go_simp) <;> with_reducible rfl
        simp only [Act.put, List.setIfInBounds_toArray, List.set_cons_zero, List.set_cons_succ]
        refine wpAnyH_take (i := 7) (oi := { dst := some 71, op := Go.Op.fieldAddr 44 (Go.Operand.tmp 70) 0, type := 0, pos := "law.go:94", after := #[{ on := 6, ground := Go.Ground.data }, { on := 2, ground := Go.Ground.guard }], guard := some (2, false) }) (v := ?_) rfl (by kernel_rfl) (by kernel_rfl) (by kernel_rfl) (fun _ _ _ h => h) (Or.inl ⟨by rfl, ?_⟩) (by assumption) ?_
        rotate_left
        · (intro w hSw; (try dsimp only at hSw); go_simp) <;> with_reducible rfl
        simp only [Act.put, List.setIfInBounds_toArray, List.set_cons_zero, List.set_cons_succ]
        refine wpAnyH_take (i := 8) (oi := { dst := some 72, op := Go.Op.load 9 (Go.Operand.tmp 71), type := 9, pos := "law.go:94", after := #[{ on := 7, ground := Go.Ground.data }, { on := 2, ground := Go.Ground.guard }], guard := some (2, false) }) (v := ?_) rfl (by kernel_rfl) (by kernel_rfl) (by kernel_rfl) (fun _ _ _ h => h) (Or.inl ⟨by rfl, ?_⟩) (by assumption) ?_
        rotate_left
        · (intro w hSw; (try dsimp only at hSw); go_simp) <;> with_reducible rfl
        simp only [Act.put, List.setIfInBounds_toArray, List.set_cons_zero, List.set_cons_succ]
        refine wpAnyH_take (i := 9) (oi := { dst := some 73, op := Go.Op.fieldAddr 44 (Go.Operand.tmp 8) 0, type := 0, pos := "law.go:94", after := #[{ on := 2, ground := Go.Ground.guard }], guard := some (2, false) }) (v := ?_) rfl (by kernel_rfl) (by kernel_rfl) (by kernel_rfl) (fun _ _ _ h => h) (Or.inl ⟨by rfl, ?_⟩) (by assumption) ?_
        rotate_left
        · (intro w hSw; (try dsimp only at hSw); go_simp) <;> with_reducible rfl
        simp only [Act.put, List.setIfInBounds_toArray, List.set_cons_zero, List.set_cons_succ]
        refine wpAnyH_take (i := 10) (oi := { dst := some 74, op := Go.Op.load 9 (Go.Operand.tmp 73), type := 9, pos := "law.go:94", after := #[{ on := 9, ground := Go.Ground.data }, { on := 2, ground := Go.Ground.guard }], guard := some (2, false) }) (v := ?_) rfl (by kernel_rfl) (by kernel_rfl) (by kernel_rfl) (fun _ _ _ h => h) (Or.inl ⟨by rfl, ?_⟩) (by assumption) ?_
        rotate_left
        · (intro w hSw; (try dsimp only at hSw); go_simp) <;> with_reducible rfl
        simp only [Act.put, List.setIfInBounds_toArray, List.set_cons_zero, List.set_cons_succ]
        refine wpAnyH_take (i := 11) (oi := { dst := some 75, op := Go.Op.binOp Go.BinOp.neq 9 (Go.Operand.tmp 72) (Go.Operand.tmp 74) 9, type := 4, pos := "law.go:94", after := #[{ on := 8, ground := Go.Ground.data }, { on := 10, ground := Go.Ground.data }, { on := 2, ground := Go.Ground.guard }], guard := some (2, false) }) (v := ?_) rfl (by kernel_rfl) (by kernel_rfl) (by kernel_rfl) (fun _ _ _ h => h) (Or.inl ⟨by rfl, ?_⟩) (by assumption) ?_
        rotate_left
        · (intro w hSw; (try dsimp only at hSw); go_simp) <;> with_reducible rfl
        simp only [Act.put, List.setIfInBounds_toArray, List.set_cons_zero, List.set_cons_succ]
        refine wpAnyH_take (i := 12) (oi := { dst := some 76, op := Go.Op.pick (Go.Operand.tmp 66) (Go.Operand.const (Go.Value.bool true)) (Go.Operand.tmp 75), type := 4, pos := "law.go:94", after := #[{ on := 2, ground := Go.Ground.data }, { on := 11, ground := Go.Ground.data }], guard := none }) (v := ?_) rfl (by kernel_rfl) (by kernel_rfl) (by kernel_rfl) (fun _ _ _ h => h) (Or.inl ⟨by rfl, ?_⟩) (by assumption) ?_
        rotate_left
        · (intro w hSw; (try dsimp only at hSw); go_simp) <;> with_reducible rfl
        simp only [Act.put, List.setIfInBounds_toArray, List.set_cons_zero, List.set_cons_succ]
        refine wpAnyH_take (i := 13) (oi := { dst := some 77, op := Go.Op.move (Go.Operand.tmp 76), type := 4, pos := "law.go:94", after := #[{ on := 12, ground := Go.Ground.data }, { on := 2, ground := Go.Ground.chain }], guard := none }) (v := ?_) rfl (by kernel_rfl) (by kernel_rfl) (by kernel_rfl) (fun _ _ _ h => h) (Or.inl ⟨by rfl, ?_⟩) (by assumption) ?_
        rotate_left
        · (intro w hSw; (try dsimp only at hSw); go_simp) <;> with_reducible rfl
        simp only [Act.put, List.setIfInBounds_toArray, List.set_cons_zero, List.set_cons_succ]
        refine wpAnyH_take (i := 14) (oi := { dst := some 78, op := Go.Op.fieldAddr 24 (Go.Operand.tmp 5) 1, type := 0, pos := "law.go:94", after := #[{ on := 13, ground := Go.Ground.guard }], guard := some (13, false) }) (v := ?_) rfl (by kernel_rfl) (by kernel_rfl) (by kernel_rfl) (fun _ _ _ h => h) (Or.inl ⟨by rfl, ?_⟩) (by assumption) ?_
        rotate_left
        · (intro w hSw; (try dsimp only at hSw); go_simp) <;> with_reducible rfl
        simp only [Act.put, List.setIfInBounds_toArray, List.set_cons_zero, List.set_cons_succ]
        refine wpAnyH_take (i := 15) (oi := { dst := some 79, op := Go.Op.load 22 (Go.Operand.tmp 78), type := 22, pos := "law.go:94", after := #[{ on := 14, ground := Go.Ground.data }, { on := 13, ground := Go.Ground.guard }], guard := some (13, false) }) (v := ?_) rfl (by kernel_rfl) (by kernel_rfl) (by kernel_rfl) (fun _ _ _ h => h) (Or.inl ⟨by rfl, ?_⟩) (by assumption) ?_
        rotate_left
        · (intro w hSw; (try dsimp only at hSw); go_simp) <;> with_reducible rfl
        simp only [Act.put, List.setIfInBounds_toArray, List.set_cons_zero, List.set_cons_succ]
        refine wpAnyH_take (i := 16) (oi := { dst := some 80, op := Go.Op.move (Go.Operand.tmp 7), type := 3, pos := "law.go:94", after := #[{ on := 13, ground := Go.Ground.guard }], guard := some (13, false) }) (v := ?_) rfl (by kernel_rfl) (by kernel_rfl) (by kernel_rfl) (fun _ _ _ h => h) (Or.inl ⟨by rfl, ?_⟩) (by assumption) ?_
        rotate_left
        · (intro w hSw; (try dsimp only at hSw); go_simp) <;> with_reducible rfl
        simp only [Act.put, List.setIfInBounds_toArray, List.set_cons_zero, List.set_cons_succ]
        refine wpAnyH_take (i := 17) (oi := { dst := some 81, op := Go.Op.indexAddr 22 (Go.Operand.tmp 79) (Go.Operand.tmp 80), type := 0, pos := "law.go:94", after := #[{ on := 15, ground := Go.Ground.data }, { on := 16, ground := Go.Ground.data }, { on := 13, ground := Go.Ground.guard }], guard := some (13, false) }) (v := ?_) rfl (by kernel_rfl) (by kernel_rfl) (by kernel_rfl) (fun _ _ _ h => h) (Or.inl ⟨by rfl, ?_⟩) (by assumption) ?_
        rotate_left
        · (intro w hSw; (try dsimp only at hSw); go_simp) <;> with_reducible rfl
        simp only [Act.put, List.setIfInBounds_toArray, List.set_cons_zero, List.set_cons_succ]
        refine wpAnyH_take (i := 18) (oi := { dst := some 82, op := Go.Op.fieldAddr 44 (Go.Operand.tmp 81) 2, type := 0, pos := "law.go:94", after := #[{ on := 17, ground := Go.Ground.data }, { on := 13, ground := Go.Ground.guard }], guard := some (13, false) }) (v := ?_) rfl (by kernel_rfl) (by kernel_rfl) (by kernel_rfl) (fun _ _ _ h => h) (Or.inl ⟨by rfl, ?_⟩) (by assumption) ?_
        rotate_left
        · (intro w hSw; (try dsimp only at hSw); go_simp) <;> with_reducible rfl
        simp only [Act.put, List.setIfInBounds_toArray, List.set_cons_zero, List.set_cons_succ]
        refine wpAnyH_take (i := 19) (oi := { dst := some 83, op := Go.Op.load 9 (Go.Operand.tmp 82), type := 9, pos := "law.go:94", after := #[{ on := 18, ground := Go.Ground.data }, { on := 13, ground := Go.Ground.guard }], guard := some (13, false) }) (v := ?_) rfl (by kernel_rfl) (by kernel_rfl) (by kernel_rfl) (fun _ _ _ h => h) (Or.inl ⟨by rfl, ?_⟩) (by assumption) ?_
        rotate_left
        · (intro w hSw; (try dsimp only at hSw); go_simp) <;> with_reducible rfl
        simp only [Act.put, List.setIfInBounds_toArray, List.set_cons_zero, List.set_cons_succ]
        refine wpAnyH_take (i := 20) (oi := { dst := some 84, op := Go.Op.binOp Go.BinOp.neq 9 (Go.Operand.tmp 83) (Go.Operand.const (Go.Value.string { data := #[] })) 9, type := 4, pos := "law.go:94", after := #[{ on := 19, ground := Go.Ground.data }, { on := 13, ground := Go.Ground.guard }], guard := some (13, false) }) (v := ?_) rfl (by kernel_rfl) (by kernel_rfl) (by kernel_rfl) (fun _ _ _ h => h) (Or.inl ⟨by rfl, ?_⟩) (by assumption) ?_
        rotate_left
        · (intro w hSw; (try dsimp only at hSw); go_simp) <;> with_reducible rfl
        simp only [Act.put, List.setIfInBounds_toArray, List.set_cons_zero, List.set_cons_succ]
        refine wpAnyH_take (i := 21) (oi := { dst := some 85, op := Go.Op.pick (Go.Operand.tmp 77) (Go.Operand.const (Go.Value.bool true)) (Go.Operand.tmp 84), type := 4, pos := "law.go:94", after := #[{ on := 13, ground := Go.Ground.data }, { on := 20, ground := Go.Ground.data }], guard := none }) (v := ?_) rfl (by kernel_rfl) (by kernel_rfl) (by kernel_rfl) (fun _ _ _ h => h) (Or.inl ⟨by rfl, ?_⟩) (by assumption) ?_
        rotate_left
        · (intro w hSw; (try dsimp only at hSw); go_simp) <;> with_reducible rfl
        simp only [Act.put, List.setIfInBounds_toArray, List.set_cons_zero, List.set_cons_succ]
        refine wpAnyH_take (i := 22) (oi := { dst := some 86, op := Go.Op.move (Go.Operand.tmp 85), type := 4, pos := "law.go:94", after := #[{ on := 21, ground := Go.Ground.data }, { on := 13, ground := Go.Ground.chain }], guard := none }) (v := ?_) rfl (by kernel_rfl) (by kernel_rfl) (by kernel_rfl) (fun _ _ _ h => h) (Or.inl ⟨by rfl, ?_⟩) (by assumption) ?_
        rotate_left
        · (intro w hSw; (try dsimp only at hSw); go_simp) <;> with_reducible rfl
        simp only [Act.put, List.setIfInBounds_toArray, List.set_cons_zero, List.set_cons_succ]
        refine wpAnyH_take (i := 23) (oi := { dst := some 87, op := Go.Op.move (Go.Operand.tmp 9), type := 9, pos := "law.go:94", after := #[{ on := 22, ground := Go.Ground.guard }], guard := some (22, false) }) (v := ?_) rfl (by kernel_rfl) (by kernel_rfl) (by kernel_rfl) (fun _ _ _ h => h) (Or.inl ⟨by rfl, ?_⟩) (by assumption) ?_
        rotate_left
        · (intro w hSw; (try dsimp only at hSw); go_simp) <;> with_reducible rfl
        simp only [Act.put, List.setIfInBounds_toArray, List.set_cons_zero, List.set_cons_succ]
        refine wpAnyH_take (i := 24) (oi := { dst := some 88, op := Go.Op.fieldAddr 44 (Go.Operand.tmp 8) 1, type := 0, pos := "law.go:94", after := #[{ on := 22, ground := Go.Ground.guard }], guard := some (22, false) }) (v := ?_) rfl (by kernel_rfl) (by kernel_rfl) (by kernel_rfl) (fun _ _ _ h => h) (Or.inl ⟨by rfl, ?_⟩) (by assumption) ?_
        rotate_left
        · (intro w hSw; (try dsimp only at hSw); go_simp) <;> with_reducible rfl
        simp only [Act.put, List.setIfInBounds_toArray, List.set_cons_zero, List.set_cons_succ]
        refine wpAnyH_take (i := 25) (oi := { dst := some 89, op := Go.Op.load 9 (Go.Operand.tmp 88), type := 9, pos := "law.go:94", after := #[{ on := 24, ground := Go.Ground.data }, { on := 22, ground := Go.Ground.guard }], guard := some (22, false) }) (v := ?_) rfl (by kernel_rfl) (by kernel_rfl) (by kernel_rfl) (fun _ _ _ h => h) (Or.inl ⟨by rfl, ?_⟩) (by assumption) ?_
        rotate_left
        · (intro w hSw; (try dsimp only at hSw); go_simp) <;> with_reducible rfl
        simp only [Act.put, List.setIfInBounds_toArray, List.set_cons_zero, List.set_cons_succ]
        refine wpAnyH_ready (rs := [26]) (by kernel_rfl) (by simp) ?_
        refine AllReadyH.cons (o := { dst := some 90, op := Go.Op.call { callee := Go.Callee.value (Go.Operand.func 20), args := #[Go.Operand.tmp 87, Go.Operand.tmp 89], argTypes := #[9, 9] }, type := 4, pos := "law.go:94", after := #[{ on := 23, ground := Go.Ground.data }, { on := 25, ground := Go.Ground.data }, { on := 22, ground := Go.Ground.chain }, { on := 22, ground := Go.Ground.guard }], guard := some (22, false) }) rfl (fun K hK => ?_) AllReadyH.nil
        go_simp
        refine (HP1.out w9).mono ?_
        rintro e w10 ⟨rfl, rfl⟩
        go_wp2_with fail
        refine hK.out _ _ ?_ (fun hz1 => ?_)
        · exact HSS.out _ HDR.out
        clear hK K hHeld 
        try simp only [Act.put, List.setIfInBounds_toArray, List.set_cons_zero, List.set_cons_succ]
        refine wpAnyH_take (i := 27) (oi := { dst := some 91, op := Go.Op.unOp Go.UnOp.not 4 (Go.Operand.tmp 90), type := 4, pos := "law.go:94", after := #[{ on := 26, ground := Go.Ground.data }, { on := 22, ground := Go.Ground.guard }], guard := some (22, false) }) (v := ?_) rfl (by kernel_rfl) (by kernel_rfl) (by kernel_rfl) (fun _ _ _ h => h) (Or.inl ⟨by rfl, ?_⟩) (by assumption) ?_
        rotate_left
        · (intro w hSw; (try dsimp only at hSw); go_simp) <;> with_reducible rfl
        simp only [Act.put, List.setIfInBounds_toArray, List.set_cons_zero, List.set_cons_succ]
        refine wpAnyH_take (i := 28) (oi := { dst := some 92, op := Go.Op.pick (Go.Operand.tmp 86) (Go.Operand.const (Go.Value.bool true)) (Go.Operand.tmp 91), type := 4, pos := "law.go:94", after := #[{ on := 22, ground := Go.Ground.data }, { on := 27, ground := Go.Ground.data }], guard := none }) (v := ?_) rfl (by kernel_rfl) (by kernel_rfl) (by kernel_rfl) (fun _ _ _ h => h) (Or.inl ⟨by rfl, ?_⟩) (by assumption) ?_
        rotate_left
        · (intro w hSw; (try dsimp only at hSw); go_simp) <;> with_reducible rfl
        simp only [Act.put, List.setIfInBounds_toArray, List.set_cons_zero, List.set_cons_succ]
        refine wpAnyH_take (i := 29) (oi := { dst := some 93, op := Go.Op.move (Go.Operand.tmp 92), type := 4, pos := "law.go:94", after := #[{ on := 28, ground := Go.Ground.data }, { on := 26, ground := Go.Ground.chain }], guard := none }) (v := ?_) rfl (by kernel_rfl) (by kernel_rfl) (by kernel_rfl) (fun _ _ _ h => h) (Or.inl ⟨by rfl, ?_⟩) (by assumption) ?_
        rotate_left
        · (intro w hSw; (try dsimp only at hSw); go_simp) <;> with_reducible rfl
        simp only [Act.put, List.setIfInBounds_toArray, List.set_cons_zero, List.set_cons_succ]
        refine wpAnyH_take (i := 30) (oi := { dst := some 94, op := Go.Op.fieldAddr 44 (Go.Operand.tmp 8) 1, type := 0, pos := "law.go:94", after := #[{ on := 29, ground := Go.Ground.guard }], guard := some (29, false) }) (v := ?_) rfl (by kernel_rfl) (by kernel_rfl) (by kernel_rfl) (fun _ _ _ h => h) (Or.inl ⟨by rfl, ?_⟩) (by assumption) ?_
        rotate_left
        · (intro w hSw; (try dsimp only at hSw); go_simp) <;> with_reducible rfl
        simp only [Act.put, List.setIfInBounds_toArray, List.set_cons_zero, List.set_cons_succ]
        refine wpAnyH_take (i := 31) (oi := { dst := some 95, op := Go.Op.load 9 (Go.Operand.tmp 94), type := 9, pos := "law.go:94", after := #[{ on := 30, ground := Go.Ground.data }, { on := 29, ground := Go.Ground.guard }], guard := some (29, false) }) (v := ?_) rfl (by kernel_rfl) (by kernel_rfl) (by kernel_rfl) (fun _ _ _ h => h) (Or.inl ⟨by rfl, ?_⟩) (by assumption) ?_
        rotate_left
        · (intro w hSw; (try dsimp only at hSw); go_simp) <;> with_reducible rfl
        simp only [Act.put, List.setIfInBounds_toArray, List.set_cons_zero, List.set_cons_succ]
        refine wpAnyH_take (i := 32) (oi := { dst := some 96, op := Go.Op.fieldAddr 44 (Go.Operand.tmp 8) 2, type := 0, pos := "law.go:94", after := #[{ on := 29, ground := Go.Ground.guard }], guard := some (29, false) }) (v := ?_) rfl (by kernel_rfl) (by kernel_rfl) (by kernel_rfl) (fun _ _ _ h => h) (Or.inl ⟨by rfl, ?_⟩) (by assumption) ?_
        rotate_left
        · (intro w hSw; (try dsimp only at hSw); go_simp) <;> with_reducible rfl
        simp only [Act.put, List.setIfInBounds_toArray, List.set_cons_zero, List.set_cons_succ]
        refine wpAnyH_take (i := 33) (oi := { dst := some 97, op := Go.Op.load 9 (Go.Operand.tmp 96), type := 9, pos := "law.go:94", after := #[{ on := 32, ground := Go.Ground.data }, { on := 29, ground := Go.Ground.guard }], guard := some (29, false) }) (v := ?_) rfl (by kernel_rfl) (by kernel_rfl) (by kernel_rfl) (fun _ _ _ h => h) (Or.inl ⟨by rfl, ?_⟩) (by assumption) ?_
        rotate_left
        · (intro w hSw; (try dsimp only at hSw); go_simp) <;> with_reducible rfl
        simp only [Act.put, List.setIfInBounds_toArray, List.set_cons_zero, List.set_cons_succ]
        refine wpAnyH_take (i := 34) (oi := { dst := some 98, op := Go.Op.binOp Go.BinOp.add 9 (Go.Operand.tmp 95) (Go.Operand.tmp 97) 9, type := 9, pos := "law.go:94", after := #[{ on := 31, ground := Go.Ground.data }, { on := 33, ground := Go.Ground.data }, { on := 29, ground := Go.Ground.guard }], guard := some (29, false) }) (v := ?_) rfl (by kernel_rfl) (by kernel_rfl) (by kernel_rfl) (fun _ _ _ h => h) (Or.inl ⟨by rfl, ?_⟩) (by assumption) ?_
        rotate_left
        · (intro w hSw; (try dsimp only at hSw); go_simp) <;> with_reducible rfl
        simp only [Act.put, List.setIfInBounds_toArray, List.set_cons_zero, List.set_cons_succ]
        refine wpAnyH_take (i := 35) (oi := { dst := some 99, op := Go.Op.move (Go.Operand.tmp 9), type := 9, pos := "law.go:94", after := #[{ on := 29, ground := Go.Ground.guard }], guard := some (29, false) }) (v := ?_) rfl (by kernel_rfl) (by kernel_rfl) (by kernel_rfl) (fun _ _ _ h => h) (Or.inl ⟨by rfl, ?_⟩) (by assumption) ?_
        rotate_left
        · (intro w hSw; (try dsimp only at hSw); go_simp) <;> with_reducible rfl
        simp only [Act.put, List.setIfInBounds_toArray, List.set_cons_zero, List.set_cons_succ]
        refine wpAnyH_ready (rs := [36]) (by kernel_rfl) (by simp) ?_
        refine AllReadyH.cons (o := { dst := some 100, op := Go.Op.call { callee := Go.Callee.value (Go.Operand.func 20), args := #[Go.Operand.tmp 98, Go.Operand.tmp 99], argTypes := #[9, 9] }, type := 4, pos := "law.go:94", after := #[{ on := 34, ground := Go.Ground.data }, { on := 35, ground := Go.Ground.data }, { on := 29, ground := Go.Ground.chain }, { on := 29, ground := Go.Ground.guard }], guard := some (29, false) }) rfl (fun K hK => ?_) AllReadyH.nil
        go_simp
        refine (HP2.out w9).mono ?_
        rintro e w10 ⟨rfl, rfl⟩
        go_wp2_with fail
        refine hK.out _ _ ?_ (fun hz2 => ?_)
        · exact HSS.out _ HDR.out
        clear hK K hz1 
        try simp only [Act.put, List.setIfInBounds_toArray, List.set_cons_zero, List.set_cons_succ]
        refine wpAnyH_take (i := 37) (oi := { dst := some 101, op := Go.Op.unOp Go.UnOp.not 4 (Go.Operand.tmp 100), type := 4, pos := "law.go:94", after := #[{ on := 36, ground := Go.Ground.data }, { on := 29, ground := Go.Ground.guard }], guard := some (29, false) }) (v := ?_) rfl (by kernel_rfl) (by kernel_rfl) (by kernel_rfl) (fun _ _ _ h => h) (Or.inl ⟨by rfl, ?_⟩) (by assumption) ?_
        rotate_left
        · (intro w hSw; (try dsimp only at hSw); go_simp) <;> with_reducible rfl
        simp only [Act.put, List.setIfInBounds_toArray, List.set_cons_zero, List.set_cons_succ]
        refine wpAnyH_take (i := 38) (oi := { dst := some 102, op := Go.Op.pick (Go.Operand.tmp 93) (Go.Operand.const (Go.Value.bool true)) (Go.Operand.tmp 101), type := 4, pos := "law.go:94", after := #[{ on := 29, ground := Go.Ground.data }, { on := 37, ground := Go.Ground.data }], guard := none }) (v := ?_) rfl (by kernel_rfl) (by kernel_rfl) (by kernel_rfl) (fun _ _ _ h => h) (Or.inl ⟨by rfl, ?_⟩) (by assumption) ?_
        rotate_left
        · (intro w hSw; (try dsimp only at hSw); go_simp) <;> with_reducible rfl
        simp only [Act.put, List.setIfInBounds_toArray, List.set_cons_zero, List.set_cons_succ]
        refine wpAnyH_done (by kernel_rfl) ?_ _
        refine NoPanic.normal ?_
        go_wp2
        go_roundw
        case rel => exact ⟨k + 1, by omega, by go_num, Lib.hid (below_trans HB68.out HDR.out)⟩
        case measure => simp [intOf]; omega
      · go_wp2
        go_ret
        exact ⟨rfl, below_trans HB1.out (below_trans HB6.out HB.out)⟩
end Go.Proofs.Ytmhdodiipkkjpaa.Dk
