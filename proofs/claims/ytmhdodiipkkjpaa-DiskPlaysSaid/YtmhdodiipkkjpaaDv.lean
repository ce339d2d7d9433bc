/- Package disk: the document's Crash. -/
import Derived.Test.YtmhdodiipkkjpaaDu
namespace Go.Proofs.Ytmhdodiipkkjpaa.Dk
open Go.RowKit

theorem step_append_runI {P : Program} {ops : Array Oper} {o : Oper} {a : Act} {w : World} {K : Act → World → Prop} {Q : Exit → Act → World → Prop} {E : Prop}
    (hg : o.guard = none) (d x : Operand) (dT sT : TypeId) (hop : o.op = Op.call { callee := Callee.builtin Builtin.append, args := #[d, x], argTypes := #[dT, sT] })
    (v u : Value) (hd : a.eval d = v) (hx : a.eval x = u) {v' : Value} {w' : World} (hr : (Builtin.append_ #[dT, sT] o.type #[v, u]).run P w = .ok v' w') (hK : K (a.put o.dst v') w') :
    if Region.wanted o (yielded ops a.tmps) = true then Oper.wp P o a w K Q else E := by
  have hw : Region.wanted o (yielded ops a.tmps) = true := by simp [Region.wanted, hg]
  rw [if_pos hw]
  unfold Oper.wp
  simp [execOp, hop, resolve, invoke, builtin, hd, hx, hr, Result.andThen]
  exact hK
theorem cr_none (f : Fil) : crF f 0 = ⟨f.nm, f.sy, noB⟩ := by
  unfold crF
  have : f.sy ++ f.tl.extract 0 0 = f.sy := by
    apply ByteArray.ext
    simp
  rw [this]
/-- The first few crashed, under way. -/
structure RcS (w : World) (rm : Int) (v : Value) (xs : List Fil) (wr : World) : Prop where
  low : Below w.heap.size w wr
  own : Own wr (w.heap.size + 3) v xs
  box : Row wr (w.heap.size + 1 + 1) 24 [.int .i64 rm, v, .int .i64 (-1), .bool false]
  res : Row wr (w.heap.size + 1) 24 [.int .i64 0, .slice none 0 0, .int .i64 0, .bool false]
theorem RcS.below {w : World} {rm : Int} {v : Value} {xs : List Fil} {wr w' : World} (h : RcS w rm v xs wr) (hb : Below wr.heap.size wr w') : RcS w rm v xs w' :=
  ⟨below_trans h.low hb, ownsRow_below h.own hb, h.box.below hb, h.res.below hb⟩
theorem RcS.push {w : World} {rm : Int} {v : Value} {xs : List Fil} {wr : World} (h : RcS w rm v xs wr) (y : Fil) (hl : xs.length ≤ 1000) :
    ∃ a' n' c' w', (Builtin.append_ #[22, 22] 22 #[v, .slice (some ⟨wr.heap.size, 0, none⟩) 1 1]).run Try.prog (wr.alloc (.cells (fiC y) 44)) = .ok (.slice a' n' c') w' ∧ Hid (Row w' (w.heap.size + 1 + 1) 24 [.int .i64 rm, v, .int .i64 (-1), .bool false]) ∧ Hid (RcS w rm (.slice a' n' c') (xs ++ [y]) (w'.setCell ⟨w.heap.size + 1 + 1, 1, none⟩ (.slice a' n' c'))) ∧ Hid (∀ b t cs, Row wr b t cs → v.ownBlock ≠ some b → Row w' b t cs) := by
  have hbo := below1 wr (.cells (fiC y) 44)
  have hsz : w.heap.size + 2 < wr.heap.size := h.box.lt
  obtain ⟨v', w', hr, ho, hg, hv⟩ := run_append_fil (wr.alloc (.cells (fiC y) 44)) 22 (w.heap.size + 3) v xs (ownsRow_below h.own hbo) (some ⟨wr.heap.size, 0, none⟩) 1 [y] (one_sl (row_new wr (fiC y) _)) (by simp; omega) (by simp; omega)
  obtain ⟨a', c', rfl, -⟩ := owns_form ho
  have hf : Fr (fun b => v.ownBlock = some b) wr w' := (Fr.of_below hbo).trans (grown_fr hg)
  have hbx : Row w' (w.heap.size + 1 + 1) 24 [.int .i64 rm, v, .int .i64 (-1), .bool false] := h.box.keep (hf.block _ h.box.lt (fun e => by have := (h.own.lt _ e).1; omega))
  have hre : Row w' (w.heap.size + 1) 24 [.int .i64 0, .slice none 0 0, .int .i64 0, .bool false] := h.res.keep (hf.block _ h.res.lt (fun e => by have := (h.own.lt _ e).1; omega))
  have hbut := (But.refl (w.heap.size + 1 + 1) w').set 1 (.slice a' (xs ++ [y]).length c')
  exact ⟨a', _, c', w', hr, Lib.hid hbx, Lib.hid ⟨(fr_below h.low hf (fun k hk => by have := (h.own.lt k hk).1; omega)).trans (hbut.below (by omega)), owns_but ho hbut (by omega), hbx.set 1 _, hre.keep (hbut.block _ (by omega))⟩, Lib.hid (fun b t cs hR hne => hR.keep (hf.block b hR.lt hne))⟩

set_option maxHeartbeats 6400000 in
set_option maxRecDepth 100000 in
theorem rcrash_any (w : World) (d : Dsk) (a : Option Addr) (cap : Nat) (ak : Option Addr) (ck : Nat) (keep : List Int) (h : DAt w d a cap) (hl : d.fs.length ≤ 900) (hk : SlI w (Old w) (.slice ak keep.length ck) keep) :
    Calls Try.prog 17 #[diV d (.slice a d.fs.length cap), .slice ak keep.length ck] w fun e w' => ∃ a' c', e = .returned (diV ⟨d.room, crFs keep d.fs, -1, false⟩ (.slice a' d.fs.length c')) ∧ SlF w' (Old w') (.slice a' d.fs.length c') (crFs keep d.fs) ∧ Below w.heap.size w w' := by
  obtain ⟨rm, fs, lf, dn⟩ := d
  have HX := Lib.hid (fun W (hb : Below w.heap.size w W) => h.fs.old hb)
  have HFIT := Lib.hid h.fit
  have HK := Lib.hid (fun W (hb : Below w.heap.size w W) => hk.old hb)
  have hkl := hk.len
  obtain ⟨L, HL⟩ : ∃ L, Hid (L = fs.length) := ⟨_, Lib.hid rfl⟩
  obtain ⟨M, HM⟩ : ∃ L, Hid (L = keep.length) := ⟨_, Lib.hid rfl⟩
  have hL9 : L ≤ 900 := by have := HL.out; simp only at *; omega
  simp only at HX HFIT ⊢
  rw [← HL.out] at HX ⊢
  rw [← HM.out] at HK hkl ⊢
  clear h hk hl
  obtain ⟨v0, HV0⟩ : ∃ v, Hid (v = Value.slice none 0 0) := ⟨_, Lib.hid rfl⟩
  obtain ⟨W1, HW1⟩ : ∃ W, Hid (W = ((w.alloc (.cells #[.int .i64 rm, .slice a L cap, .int .i64 lf, .bool dn] 24)).alloc (.cells #[.int .i64 0, .slice none 0 0, .int .i64 0, .bool false] 24)).alloc (.cells #[.int .i64 rm, .slice none 0 0, .int .i64 (-1), .bool false] 24)) := ⟨_, Lib.hid rfl⟩
  have HB1 : Hid (Below w.heap.size w W1) := Lib.hid (by rw [HW1.out]; exact below3 _ _ _ _)
  have HRD : Hid (Row W1 w.heap.size 24 [.int .i64 rm, .slice a L cap, .int .i64 lf, .bool dn]) := Lib.hid (by rw [HW1.out]; exact ((row_new w #[.int .i64 rm, .slice a L cap, .int .i64 lf, .bool dn] _).alloc _).alloc _)
  have HST : Hid (RcS w rm v0 ((crFs keep fs).take 0) W1) := Lib.hid (by
    refine ⟨HB1.out, by rw [HV0.out]; exact World.ownsRow_nil _ _ _ _, ?_, ?_⟩
    · rw [HW1.out, HV0.out]
      have h := row_new ((w.alloc (.cells #[.int .i64 rm, .slice a L cap, .int .i64 lf, .bool dn] 24)).alloc (.cells #[.int .i64 0, .slice none 0 0, .int .i64 0, .bool false] 24)) #[.int .i64 rm, .slice none 0 0, .int .i64 (-1), .bool false] 24
      simp only [World.size_alloc] at h
      exact h
    · rw [HW1.out]
      have h := row_new (w.alloc (.cells #[.int .i64 rm, .slice a L cap, .int .i64 lf, .bool dn] 24)) #[.int .i64 0, .slice none 0 0, .int .i64 0, .bool false] 24
      simp only [World.size_alloc] at h
      exact h.alloc _)
  have r0 := HRD.out.cell (i := 0) rfl
  have r1 := HRD.out.cell (i := 1) rfl
  rw [HW1.out] at r0 r1
  go_enter Try.func17, Try.ntmps17
  go_wp2
  rw [← HW1.out]
  clear HW1 HV0 r0 r1
  go_loopw [15] (fun i wr => ∃ (k : Nat) (v : Value), k ≤ L ∧ i = .int .i64 k ∧ Hid (RcS w rm v ((crFs keep fs).take k) wr)) (fun i _ => L - (intOf i).toNat)
  case atStart => exact ⟨0, _, Nat.zero_le _, rfl, HST⟩
  case round =>
    obtain ⟨k, v, hk, rfl, HC⟩ := hrel
    by_cases hlt : k < L
    · obtain ⟨x, hx⟩ : ∃ x, fs[k]? = some x := ⟨_, List.getElem?_eq_getElem (by have := HL.out; omega)⟩
      obtain ⟨b, off, rfl, -, x0, x1, x2⟩ := (HX.out _ HC.out.low).get hx
      have hfit := HFIT.out x (mem_at hx)
      have hf1 := hfit.sy
      have hf2 := hfit.tl
      have HNX : Hid ((crFs keep fs).take (k + 1) = (crFs keep fs).take k ++ [crF x (lastF keep k x.tl.size)]) := Lib.hid (take_one (crs_get hx))
      have hbo := below1 wr (.cells (fiC x) 44)
      have HRF : Hid (RowF (wr.alloc (.cells (fiC x) 44)) wr.heap.size x) := Lib.hid (row_new wr (fiC x) _)
      have HC1 := Lib.hid (HC.out.below hbo)
      have HVB : Hid (v.ownBlock ≠ some wr.heap.size) := Lib.hid (fun e => by have := (HC.out.own.lt _ e).2; omega)
      have HLN : Hid (((crFs keep fs).take k).length ≤ 1000) := Lib.hid (by rw [List.length_take]; omega)
      have d0 := HRF.out.cell (i := 0) rfl
      have d1 := HRF.out.cell (i := 1) rfl
      have d2 := HRF.out.cell (i := 2) rfl
      have HKW := Lib.hid (HK.out wr HC.out.low)
      clear hx hfit hbo
      obtain ⟨xn, xs, xt⟩ := x
      simp only at x0 x1 x2 d0 d1 d2 HRF HC1 hf1 hf2 HNX
      by_cases hkm : k < M
      · obtain ⟨kv, hkv⟩ : ∃ n, keep[k]? = some n := ⟨_, List.getElem?_eq_getElem (by have := HM.out; omega)⟩
        obtain ⟨bk, ok, rfl, -, z0⟩ := HKW.out.get hkv
        have z1 : (wr.alloc (.cells (fiC ⟨xn, xs, xt⟩) 44)).cell? ⟨bk, ok + k, none⟩ = some (.int .i64 kv) := by
          obtain ⟨b2, o2, hbb, hb2, z⟩ := HKW.out.get hkv
          injection hbb with hbb
          injection hbb with e1 e2
          subst e1 e2
          exact ((below1 wr (.cells (fiC ⟨xn, xs, xt⟩) 44)).cell (p := ⟨bk, ok + k, none⟩) hb2).trans z
        have HLA : Hid (lastF keep k xt.size = min kv.toNat xt.size) := Lib.hid (by unfold lastF; rw [hkv])
        have q0 : decide (k < M) = true := decide_eq_true hkm
        have q1 : (k : Int) < (M : Int) := by omega
        clear hkv z0
        by_cases hp : 0 < kv
        · obtain ⟨p, rfl⟩ : ∃ p : Nat, kv = (p : Int) := ⟨kv.toNat, by omega⟩
          have q3 : 0 < p := by omega
          have q33 : decide (0 < p) = true := decide_eq_true q3
          by_cases hpx : p ≤ xt.size
          · have q4 : decide ((xt.size : Int) < (p : Int)) = false := decide_eq_false (by omega)
            have q44 : decide (xt.size < p) = false := decide_eq_false (by omega)
            rw [HLA.out, show min (p : Int).toNat xt.size = p by rw [Int.toNat_natCast]; exact Nat.min_eq_left hpx] at HNX
            have hsz : (ByteArray.extract xt 0 (p)).size = p := by rw [ByteArray.size_extract]; omega
            have q2 : ¬ (9223372036854775807 < xs.size + p) := by omega
            have q22 : ¬ (9223372036854775807 < xs.size) := by omega
            have HCR : Hid (crF ⟨xn, xs, xt⟩ (p) = ⟨xn, xs ++ ByteArray.extract xt 0 (p), ⟨#[]⟩⟩) := Lib.hid rfl
            rw [HCR.out] at HNX
            go_wp2
            generalize hW1 : wr.alloc (.cells (fiC ⟨xn, xs, xt⟩) 44) = W1 at *
            clear hW1 x0 x1 x2 d0 d1 d2
            have HDR := Lib.hid (Below.refl W1.heap.size W1).drew
            have HSF : Hid (∀ W, RowF W wr.heap.size ⟨xn, xs, xt⟩ → W.cell? ⟨wr.heap.size, 0, none⟩ = some (.string xn) ∧ W.cell? ⟨wr.heap.size, 1, none⟩ = some (.string xs) ∧ W.cell? ⟨wr.heap.size, 2, none⟩ = some (.string xt)) := Lib.hid (fun W h => ⟨h.cell (i := 0) rfl, h.cell (i := 1) rfl, h.cell (i := 2) rfl⟩)
            have HR4 := Lib.hid (HRF.out.below HDR.out)
            have HC4 := Lib.hid (HC1.out.below HDR.out)
            have hs0 := HSF.out _ HR4.out
            refine wp_region_noPanic ?_
            refine wp_region_held_drew (S := fun W => W.cell? ⟨wr.heap.size, 0, none⟩ = some (.string xn) ∧ W.cell? ⟨wr.heap.size, 1, none⟩ = some (.string xs) ∧ W.cell? ⟨wr.heap.size, 2, none⟩ = some (.string xt)) (by kernel_rfl) hs0 (fun hHeld => ?_)
            clear hs0
            generalize hW4 : W1.drew = w4 at *
            clear hW4
            refine wpAnyH_take (i := 0) (oi := { dst := some 43, op := Go.Op.fieldAddr 24 (Go.Operand.tmp 5) 1, type := 0, pos := "ref.go:144", after := #[], guard := none }) (v := ?_) rfl (by kernel_rfl) (by kernel_rfl) (by kernel_rfl) (fun _ _ _ h => h) (Or.inl ⟨by rfl, ?_⟩) (by assumption) ?_
            rotate_left
            · (intro w hSw; (try dsimp only at hSw); go_simp) <;> with_reducible rfl
            simp only [Act.put, List.setIfInBounds_toArray, List.set_cons_zero, List.set_cons_succ]
            refine wpAnyH_take (i := 2) (oi := { dst := some 45, op := Go.Op.fieldAddr 44 (Go.Operand.tmp 7) 0, type := 0, pos := "ref.go:144", after := #[], guard := none }) (v := ?_) rfl (by kernel_rfl) (by kernel_rfl) (by kernel_rfl) (fun _ _ _ h => h) (Or.inl ⟨by rfl, ?_⟩) (by assumption) ?_
            rotate_left
            · (intro w hSw; (try dsimp only at hSw); go_simp) <;> with_reducible rfl
            simp only [Act.put, List.setIfInBounds_toArray, List.set_cons_zero, List.set_cons_succ]
            refine wpAnyH_take (i := 3) (oi := { dst := some 46, op := Go.Op.load 9 (Go.Operand.tmp 45), type := 9, pos := "ref.go:144", after := #[{ on := 2, ground := Go.Ground.data }], guard := none }) (v := ?_) rfl (by kernel_rfl) (by kernel_rfl) (by kernel_rfl) (fun _ _ _ h => h) (Or.inl ⟨by rfl, ?_⟩) (by assumption) ?_
            rotate_left
            · (intro w hSw; (try dsimp only at hSw); go_simp) <;> with_reducible rfl
            simp only [Act.put, List.setIfInBounds_toArray, List.set_cons_zero, List.set_cons_succ]
            refine wpAnyH_take (i := 4) (oi := { dst := some 47, op := Go.Op.fieldAddr 44 (Go.Operand.tmp 7) 1, type := 0, pos := "ref.go:144", after := #[], guard := none }) (v := ?_) rfl (by kernel_rfl) (by kernel_rfl) (by kernel_rfl) (fun _ _ _ h => h) (Or.inl ⟨by rfl, ?_⟩) (by assumption) ?_
            rotate_left
            · (intro w hSw; (try dsimp only at hSw); go_simp) <;> with_reducible rfl
            simp only [Act.put, List.setIfInBounds_toArray, List.set_cons_zero, List.set_cons_succ]
            refine wpAnyH_take (i := 5) (oi := { dst := some 48, op := Go.Op.load 9 (Go.Operand.tmp 47), type := 9, pos := "ref.go:144", after := #[{ on := 4, ground := Go.Ground.data }], guard := none }) (v := ?_) rfl (by kernel_rfl) (by kernel_rfl) (by kernel_rfl) (fun _ _ _ h => h) (Or.inl ⟨by rfl, ?_⟩) (by assumption) ?_
            rotate_left
            · (intro w hSw; (try dsimp only at hSw); go_simp) <;> with_reducible rfl
            simp only [Act.put, List.setIfInBounds_toArray, List.set_cons_zero, List.set_cons_succ]
            refine wpAnyH_take (i := 6) (oi := { dst := some 49, op := Go.Op.fieldAddr 44 (Go.Operand.tmp 7) 2, type := 0, pos := "ref.go:144", after := #[], guard := none }) (v := ?_) rfl (by kernel_rfl) (by kernel_rfl) (by kernel_rfl) (fun _ _ _ h => h) (Or.inl ⟨by rfl, ?_⟩) (by assumption) ?_
            rotate_left
            · (intro w hSw; (try dsimp only at hSw); go_simp) <;> with_reducible rfl
            simp only [Act.put, List.setIfInBounds_toArray, List.set_cons_zero, List.set_cons_succ]
            refine wpAnyH_take (i := 7) (oi := { dst := some 50, op := Go.Op.load 9 (Go.Operand.tmp 49), type := 9, pos := "ref.go:144", after := #[{ on := 6, ground := Go.Ground.data }], guard := none }) (v := ?_) rfl (by kernel_rfl) (by kernel_rfl) (by kernel_rfl) (fun _ _ _ h => h) (Or.inl ⟨by rfl, ?_⟩) (by assumption) ?_
            rotate_left
            · (intro w hSw; (try dsimp only at hSw); go_simp) <;> with_reducible rfl
            simp only [Act.put, List.setIfInBounds_toArray, List.set_cons_zero, List.set_cons_succ]
            refine wpAnyH_take (i := 8) (oi := { dst := some 51, op := Go.Op.move (Go.Operand.tmp 8), type := 3, pos := "ref.go:144", after := #[], guard := none }) (v := ?_) rfl (by kernel_rfl) (by kernel_rfl) (by kernel_rfl) (fun _ _ _ h => h) (Or.inl ⟨by rfl, ?_⟩) (by assumption) ?_
            rotate_left
            · (intro w hSw; (try dsimp only at hSw); go_simp) <;> with_reducible rfl
            simp only [Act.put, List.setIfInBounds_toArray, List.set_cons_zero, List.set_cons_succ]
            refine wpAnyH_take (i := 9) (oi := { dst := some 52, op := Go.Op.slice 9 (Go.Operand.tmp 50) none (some (Go.Operand.tmp 51)) none, type := 9, pos := "ref.go:144", after := #[{ on := 7, ground := Go.Ground.data }, { on := 8, ground := Go.Ground.data }], guard := none }) (v := ?_) rfl (by kernel_rfl) (by kernel_rfl) (by kernel_rfl) (fun _ _ _ h => h) (Or.inl ⟨by rfl, ?_⟩) (by assumption) ?_
            rotate_left
            · (intro w hSw; (try dsimp only at hSw); go_simp) <;> with_reducible rfl
            simp only [Act.put, List.setIfInBounds_toArray, List.set_cons_zero, List.set_cons_succ]
            refine wpAnyH_take (i := 10) (oi := { dst := some 53, op := Go.Op.binOp Go.BinOp.add 9 (Go.Operand.tmp 48) (Go.Operand.tmp 52) 9, type := 9, pos := "ref.go:144", after := #[{ on := 5, ground := Go.Ground.data }, { on := 9, ground := Go.Ground.data }], guard := none }) (v := ?_) rfl (by kernel_rfl) (by kernel_rfl) (by kernel_rfl) (fun _ _ _ h => h) (Or.inl ⟨by rfl, ?_⟩) (by assumption) ?_
            rotate_left
            · (intro w hSw; (try dsimp only at hSw); go_simp) <;> with_reducible rfl
            simp only [Act.put, List.setIfInBounds_toArray, List.set_cons_zero, List.set_cons_succ]
            refine wpAnyH_take (i := 11) (oi := { dst := some 54, op := Go.Op.build 44 #[(0, Go.Operand.tmp 46), (1, Go.Operand.tmp 53)], type := 44, pos := "ref.go:144", after := #[{ on := 3, ground := Go.Ground.data }, { on := 10, ground := Go.Ground.data }], guard := none }) (v := ?_) rfl (by kernel_rfl) (by kernel_rfl) (by kernel_rfl) (fun _ _ _ h => h) (Or.inl ⟨by rfl, ?_⟩) (by assumption) ?_
            rotate_left
            · (intro w hSw; (try dsimp only at hSw); go_simp) <;> with_reducible rfl
            simp only [Act.put, List.setIfInBounds_toArray, List.set_cons_zero, List.set_cons_succ]
            obtain ⟨a', n', c', w', hr, HBX, HC7, HKP⟩ := HC4.out.push ⟨xn, xs ++ ByteArray.extract xt 0 (p), ⟨#[]⟩⟩ HLN.out
            have HRUN := Lib.hid hr
            have HR5 := Lib.hid (HR4.out.below (below1 w4 (.cells (fiC ⟨xn, xs ++ ByteArray.extract xt 0 (p), ⟨#[]⟩⟩) 44)))
            have HR7 := Lib.hid (HKP.out _ _ _ HR4.out HVB.out)
            have HR8 := Lib.hid (HR7.out.keep (((But.refl (w.heap.size + 1 + 1) w').set 1 (.slice a' n' c')).block wr.heap.size (by have := HC.out.box.lt; omega)))
            have HC5 := Lib.hid (HC4.out.below (below1 w4 (.cells (fiC ⟨xn, xs ++ ByteArray.extract xt 0 (p), ⟨#[]⟩⟩) 44)))
            have c1 := HC4.out.box.cell (i := 1) rfl
            have c5 := HC5.out.box.cell (i := 1) rfl
            have e1 := HBX.out.cell (i := 1) rfl
            have t1 := HBX.out.thaw 1
            clear hr HBX HKP
            rw [← HNX.out] at HC7
            refine wpAnyH_ready (rs := [1, 12]) (by kernel_rfl) (by simp) ?_
            refine AllReadyH.cons (o := { dst := some 44, op := Go.Op.load 22 (Go.Operand.tmp 43), type := 22, pos := "ref.go:144", after := #[{ on := 0, ground := Go.Ground.data }], guard := none }) rfl (fun K hK => ?_) ?_
            · go_simp
              refine hK.out _ _ ?_ (fun hz1 => ?_)
              · exact HSF.out _ HR4.out
              clear hK K hHeld
              try simp only [Act.put, List.setIfInBounds_toArray, List.set_cons_zero, List.set_cons_succ]
              refine wpAnyH_ready (rs := [12]) (by kernel_rfl) (by simp) ?_
              refine AllReadyH.cons (o := { dst := some 55, op := Go.Op.buildSlice 22 1 #[(0, Go.Operand.tmp 54)], type := 22, pos := "ref.go:144", after := #[{ on := 11, ground := Go.Ground.data }], guard := none }) rfl (fun K hK => ?_) AllReadyH.nil
              go_simp
              refine hK.out _ _ ?_ (fun hz2 => ?_)
              · exact HSF.out _ HR5.out
              clear hK K hz1
              try simp only [Act.put, List.setIfInBounds_toArray, List.set_cons_zero, List.set_cons_succ]
              refine wpAnyH_ready (rs := [13]) (by kernel_rfl) (by simp) ?_
              refine AllReadyH.cons (o := { dst := some 56, op := Go.Op.call { callee := Go.Callee.builtin Go.Builtin.append, args := #[Go.Operand.tmp 44, Go.Operand.tmp 55], argTypes := #[22, 22] }, type := 22, pos := "ref.go:144", after := #[{ on := 1, ground := Go.Ground.data }, { on := 12, ground := Go.Ground.data }], guard := none }) rfl (fun K hK => ?_) AllReadyH.nil
              refine step_append_runI rfl _ _ 22 22 rfl _ _ rfl rfl HRUN.out ?_
              refine hK.out _ _ ?_ (fun hz3 => ?_)
              · exact HSF.out _ HR7.out
              clear hK K
              try simp only [Act.put, List.setIfInBounds_toArray, List.set_cons_zero, List.set_cons_succ]
              refine wpAnyH_take (i := 14) (oi := { dst := some 57, op := Go.Op.fieldAddr 24 (Go.Operand.tmp 5) 1, type := 0, pos := "ref.go:144", after := #[{ on := 0, ground := Go.Ground.phase }, { on := 1, ground := Go.Ground.phase }, { on := 2, ground := Go.Ground.phase }, { on := 3, ground := Go.Ground.phase }, { on := 4, ground := Go.Ground.phase }, { on := 5, ground := Go.Ground.phase }, { on := 6, ground := Go.Ground.phase }, { on := 7, ground := Go.Ground.phase }, { on := 8, ground := Go.Ground.phase }, { on := 9, ground := Go.Ground.phase }, { on := 10, ground := Go.Ground.phase }, { on := 11, ground := Go.Ground.phase }, { on := 12, ground := Go.Ground.phase }, { on := 13, ground := Go.Ground.phase }], guard := none }) (v := ?_) rfl (by kernel_rfl) (by kernel_rfl) (by kernel_rfl) (fun _ _ _ h => h) (Or.inl ⟨by rfl, ?_⟩) (by assumption) ?_
              rotate_left
              · (intro w hSw; (try dsimp only at hSw); go_simp) <;> with_reducible rfl
              simp only [Act.put, List.setIfInBounds_toArray, List.set_cons_zero, List.set_cons_succ]
              refine wpAnyH_ready (rs := [15]) (by kernel_rfl) (by simp) ?_
              refine AllReadyH.cons (o := { dst := none, op := Go.Op.store 22 (Go.Operand.tmp 57) (Go.Operand.tmp 56), type := 0, pos := "ref.go:144", after := #[{ on := 14, ground := Go.Ground.data }, { on := 13, ground := Go.Ground.data }, { on := 13, ground := Go.Ground.chain }, { on := 0, ground := Go.Ground.phase }, { on := 1, ground := Go.Ground.phase }, { on := 2, ground := Go.Ground.phase }, { on := 3, ground := Go.Ground.phase }, { on := 4, ground := Go.Ground.phase }, { on := 5, ground := Go.Ground.phase }, { on := 6, ground := Go.Ground.phase }, { on := 7, ground := Go.Ground.phase }, { on := 8, ground := Go.Ground.phase }, { on := 9, ground := Go.Ground.phase }, { on := 10, ground := Go.Ground.phase }, { on := 11, ground := Go.Ground.phase }, { on := 12, ground := Go.Ground.phase }, { on := 13, ground := Go.Ground.phase }], guard := none }) rfl (fun K hK => ?_) AllReadyH.nil
              go_simp
              refine hK.out _ _ ?_ (fun hz4 => ?_)
              · exact HSF.out _ HR8.out
              clear hK K hz3
              try simp only [Act.put, List.setIfInBounds_toArray, List.set_cons_zero, List.set_cons_succ]
              refine wpAnyH_done (by kernel_rfl) ?_ _
              refine NoPanic.normal ?_
              go_wp2
              go_roundw
              case rel => exact ⟨k + 1, _, by omega, by go_num, HC7⟩
              case measure => simp [intOf]; omega
            refine AllReadyH.cons (o := { dst := some 55, op := Go.Op.buildSlice 22 1 #[(0, Go.Operand.tmp 54)], type := 22, pos := "ref.go:144", after := #[{ on := 11, ground := Go.Ground.data }], guard := none }) rfl (fun K hK => ?_) AllReadyH.nil
            go_simp
            refine hK.out _ _ ?_ (fun hz1 => ?_)
            · exact HSF.out _ HR5.out
            clear hK K hHeld
            try simp only [Act.put, List.setIfInBounds_toArray, List.set_cons_zero, List.set_cons_succ]
            refine wpAnyH_ready (rs := [1]) (by kernel_rfl) (by simp) ?_
            refine AllReadyH.cons (o := { dst := some 44, op := Go.Op.load 22 (Go.Operand.tmp 43), type := 22, pos := "ref.go:144", after := #[{ on := 0, ground := Go.Ground.data }], guard := none }) rfl (fun K hK => ?_) AllReadyH.nil
            go_simp
            refine hK.out _ _ ?_ (fun hz2 => ?_)
            · exact HSF.out _ HR5.out
            clear hK K hz1
            try simp only [Act.put, List.setIfInBounds_toArray, List.set_cons_zero, List.set_cons_succ]
            refine wpAnyH_ready (rs := [13]) (by kernel_rfl) (by simp) ?_
            refine AllReadyH.cons (o := { dst := some 56, op := Go.Op.call { callee := Go.Callee.builtin Go.Builtin.append, args := #[Go.Operand.tmp 44, Go.Operand.tmp 55], argTypes := #[22, 22] }, type := 22, pos := "ref.go:144", after := #[{ on := 1, ground := Go.Ground.data }, { on := 12, ground := Go.Ground.data }], guard := none }) rfl (fun K hK => ?_) AllReadyH.nil
            refine step_append_runI rfl _ _ 22 22 rfl _ _ rfl rfl HRUN.out ?_
            refine hK.out _ _ ?_ (fun hz3 => ?_)
            · exact HSF.out _ HR7.out
            clear hK K
            try simp only [Act.put, List.setIfInBounds_toArray, List.set_cons_zero, List.set_cons_succ]
            refine wpAnyH_take (i := 14) (oi := { dst := some 57, op := Go.Op.fieldAddr 24 (Go.Operand.tmp 5) 1, type := 0, pos := "ref.go:144", after := #[{ on := 0, ground := Go.Ground.phase }, { on := 1, ground := Go.Ground.phase }, { on := 2, ground := Go.Ground.phase }, { on := 3, ground := Go.Ground.phase }, { on := 4, ground := Go.Ground.phase }, { on := 5, ground := Go.Ground.phase }, { on := 6, ground := Go.Ground.phase }, { on := 7, ground := Go.Ground.phase }, { on := 8, ground := Go.Ground.phase }, { on := 9, ground := Go.Ground.phase }, { on := 10, ground := Go.Ground.phase }, { on := 11, ground := Go.Ground.phase }, { on := 12, ground := Go.Ground.phase }, { on := 13, ground := Go.Ground.phase }], guard := none }) (v := ?_) rfl (by kernel_rfl) (by kernel_rfl) (by kernel_rfl) (fun _ _ _ h => h) (Or.inl ⟨by rfl, ?_⟩) (by assumption) ?_
            rotate_left
            · (intro w hSw; (try dsimp only at hSw); go_simp) <;> with_reducible rfl
            simp only [Act.put, List.setIfInBounds_toArray, List.set_cons_zero, List.set_cons_succ]
            refine wpAnyH_ready (rs := [15]) (by kernel_rfl) (by simp) ?_
            refine AllReadyH.cons (o := { dst := none, op := Go.Op.store 22 (Go.Operand.tmp 57) (Go.Operand.tmp 56), type := 0, pos := "ref.go:144", after := #[{ on := 14, ground := Go.Ground.data }, { on := 13, ground := Go.Ground.data }, { on := 13, ground := Go.Ground.chain }, { on := 0, ground := Go.Ground.phase }, { on := 1, ground := Go.Ground.phase }, { on := 2, ground := Go.Ground.phase }, { on := 3, ground := Go.Ground.phase }, { on := 4, ground := Go.Ground.phase }, { on := 5, ground := Go.Ground.phase }, { on := 6, ground := Go.Ground.phase }, { on := 7, ground := Go.Ground.phase }, { on := 8, ground := Go.Ground.phase }, { on := 9, ground := Go.Ground.phase }, { on := 10, ground := Go.Ground.phase }, { on := 11, ground := Go.Ground.phase }, { on := 12, ground := Go.Ground.phase }, { on := 13, ground := Go.Ground.phase }], guard := none }) rfl (fun K hK => ?_) AllReadyH.nil
            go_simp
            refine hK.out _ _ ?_ (fun hz4 => ?_)
            · exact HSF.out _ HR8.out
            clear hK K hz3
            try simp only [Act.put, List.setIfInBounds_toArray, List.set_cons_zero, List.set_cons_succ]
            refine wpAnyH_done (by kernel_rfl) ?_ _
            refine NoPanic.normal ?_
            go_wp2
            go_roundw
            case rel => exact ⟨k + 1, _, by omega, by go_num, HC7⟩
            case measure => simp [intOf]; omega
          · have q4 : decide ((xt.size : Int) < (p : Int)) = true := decide_eq_true (by omega)
            have q44 : decide (xt.size < p) = true := decide_eq_true (by omega)
            have hpx2 : xt.size ≤ xt.size := Nat.le_refl _
            rw [HLA.out, show min (p : Int).toNat xt.size = xt.size by rw [Int.toNat_natCast]; exact Nat.min_eq_right (by omega)] at HNX
            have hsz : (ByteArray.extract xt 0 (xt.size)).size = xt.size := by rw [ByteArray.size_extract]; omega
            have q2 : ¬ (9223372036854775807 < xs.size + xt.size) := by omega
            have q22 : ¬ (9223372036854775807 < xs.size) := by omega
            have HCR : Hid (crF ⟨xn, xs, xt⟩ (xt.size) = ⟨xn, xs ++ xt, ⟨#[]⟩⟩) := Lib.hid (cr_all _)
            rw [HCR.out] at HNX
            go_wp2
            generalize hW1 : wr.alloc (.cells (fiC ⟨xn, xs, xt⟩) 44) = W1 at *
            clear hW1 x0 x1 x2 d0 d1 d2
            have HDR := Lib.hid (Below.refl W1.heap.size W1).drew
            have HSF : Hid (∀ W, RowF W wr.heap.size ⟨xn, xs, xt⟩ → W.cell? ⟨wr.heap.size, 0, none⟩ = some (.string xn) ∧ W.cell? ⟨wr.heap.size, 1, none⟩ = some (.string xs) ∧ W.cell? ⟨wr.heap.size, 2, none⟩ = some (.string xt)) := Lib.hid (fun W h => ⟨h.cell (i := 0) rfl, h.cell (i := 1) rfl, h.cell (i := 2) rfl⟩)
            have HR4 := Lib.hid (HRF.out.below HDR.out)
            have HC4 := Lib.hid (HC1.out.below HDR.out)
            have hs0 := HSF.out _ HR4.out
            refine wp_region_noPanic ?_
            refine wp_region_held_drew (S := fun W => W.cell? ⟨wr.heap.size, 0, none⟩ = some (.string xn) ∧ W.cell? ⟨wr.heap.size, 1, none⟩ = some (.string xs) ∧ W.cell? ⟨wr.heap.size, 2, none⟩ = some (.string xt)) (by kernel_rfl) hs0 (fun hHeld => ?_)
            clear hs0
            generalize hW4 : W1.drew = w4 at *
            clear hW4
            refine wpAnyH_take (i := 0) (oi := { dst := some 43, op := Go.Op.fieldAddr 24 (Go.Operand.tmp 5) 1, type := 0, pos := "ref.go:144", after := #[], guard := none }) (v := ?_) rfl (by kernel_rfl) (by kernel_rfl) (by kernel_rfl) (fun _ _ _ h => h) (Or.inl ⟨by rfl, ?_⟩) (by assumption) ?_
            rotate_left
            · (intro w hSw; (try dsimp only at hSw); go_simp) <;> with_reducible rfl
            simp only [Act.put, List.setIfInBounds_toArray, List.set_cons_zero, List.set_cons_succ]
            refine wpAnyH_take (i := 2) (oi := { dst := some 45, op := Go.Op.fieldAddr 44 (Go.Operand.tmp 7) 0, type := 0, pos := "ref.go:144", after := #[], guard := none }) (v := ?_) rfl (by kernel_rfl) (by kernel_rfl) (by kernel_rfl) (fun _ _ _ h => h) (Or.inl ⟨by rfl, ?_⟩) (by assumption) ?_
            rotate_left
            · (intro w hSw; (try dsimp only at hSw); go_simp) <;> with_reducible rfl
            simp only [Act.put, List.setIfInBounds_toArray, List.set_cons_zero, List.set_cons_succ]
            refine wpAnyH_take (i := 3) (oi := { dst := some 46, op := Go.Op.load 9 (Go.Operand.tmp 45), type := 9, pos := "ref.go:144", after := #[{ on := 2, ground := Go.Ground.data }], guard := none }) (v := ?_) rfl (by kernel_rfl) (by kernel_rfl) (by kernel_rfl) (fun _ _ _ h => h) (Or.inl ⟨by rfl, ?_⟩) (by assumption) ?_
            rotate_left
            · (intro w hSw; (try dsimp only at hSw); go_simp) <;> with_reducible rfl
            simp only [Act.put, List.setIfInBounds_toArray, List.set_cons_zero, List.set_cons_succ]
            refine wpAnyH_take (i := 4) (oi := { dst := some 47, op := Go.Op.fieldAddr 44 (Go.Operand.tmp 7) 1, type := 0, pos := "ref.go:144", after := #[], guard := none }) (v := ?_) rfl (by kernel_rfl) (by kernel_rfl) (by kernel_rfl) (fun _ _ _ h => h) (Or.inl ⟨by rfl, ?_⟩) (by assumption) ?_
            rotate_left
            · (intro w hSw; (try dsimp only at hSw); go_simp) <;> with_reducible rfl
            simp only [Act.put, List.setIfInBounds_toArray, List.set_cons_zero, List.set_cons_succ]
            refine wpAnyH_take (i := 5) (oi := { dst := some 48, op := Go.Op.load 9 (Go.Operand.tmp 47), type := 9, pos := "ref.go:144", after := #[{ on := 4, ground := Go.Ground.data }], guard := none }) (v := ?_) rfl (by kernel_rfl) (by kernel_rfl) (by kernel_rfl) (fun _ _ _ h => h) (Or.inl ⟨by rfl, ?_⟩) (by assumption) ?_
            rotate_left
            · (intro w hSw; (try dsimp only at hSw); go_simp) <;> with_reducible rfl
            simp only [Act.put, List.setIfInBounds_toArray, List.set_cons_zero, List.set_cons_succ]
            refine wpAnyH_take (i := 6) (oi := { dst := some 49, op := Go.Op.fieldAddr 44 (Go.Operand.tmp 7) 2, type := 0, pos := "ref.go:144", after := #[], guard := none }) (v := ?_) rfl (by kernel_rfl) (by kernel_rfl) (by kernel_rfl) (fun _ _ _ h => h) (Or.inl ⟨by rfl, ?_⟩) (by assumption) ?_
            rotate_left
            · (intro w hSw; (try dsimp only at hSw); go_simp) <;> with_reducible rfl
            simp only [Act.put, List.setIfInBounds_toArray, List.set_cons_zero, List.set_cons_succ]
            refine wpAnyH_take (i := 7) (oi := { dst := some 50, op := Go.Op.load 9 (Go.Operand.tmp 49), type := 9, pos := "ref.go:144", after := #[{ on := 6, ground := Go.Ground.data }], guard := none }) (v := ?_) rfl (by kernel_rfl) (by kernel_rfl) (by kernel_rfl) (fun _ _ _ h => h) (Or.inl ⟨by rfl, ?_⟩) (by assumption) ?_
            rotate_left
            · (intro w hSw; (try dsimp only at hSw); go_simp) <;> with_reducible rfl
            simp only [Act.put, List.setIfInBounds_toArray, List.set_cons_zero, List.set_cons_succ]
            refine wpAnyH_take (i := 8) (oi := { dst := some 51, op := Go.Op.move (Go.Operand.tmp 8), type := 3, pos := "ref.go:144", after := #[], guard := none }) (v := ?_) rfl (by kernel_rfl) (by kernel_rfl) (by kernel_rfl) (fun _ _ _ h => h) (Or.inl ⟨by rfl, ?_⟩) (by assumption) ?_
            rotate_left
            · (intro w hSw; (try dsimp only at hSw); go_simp) <;> with_reducible rfl
            simp only [Act.put, List.setIfInBounds_toArray, List.set_cons_zero, List.set_cons_succ]
            refine wpAnyH_take (i := 9) (oi := { dst := some 52, op := Go.Op.slice 9 (Go.Operand.tmp 50) none (some (Go.Operand.tmp 51)) none, type := 9, pos := "ref.go:144", after := #[{ on := 7, ground := Go.Ground.data }, { on := 8, ground := Go.Ground.data }], guard := none }) (v := ?_) rfl (by kernel_rfl) (by kernel_rfl) (by kernel_rfl) (fun _ _ _ h => h) (Or.inl ⟨by rfl, ?_⟩) (by assumption) ?_
            rotate_left
            · (intro w hSw; (try dsimp only at hSw); go_simp) <;> with_reducible rfl
            simp only [Act.put, List.setIfInBounds_toArray, List.set_cons_zero, List.set_cons_succ]
            refine wpAnyH_take (i := 10) (oi := { dst := some 53, op := Go.Op.binOp Go.BinOp.add 9 (Go.Operand.tmp 48) (Go.Operand.tmp 52) 9, type := 9, pos := "ref.go:144", after := #[{ on := 5, ground := Go.Ground.data }, { on := 9, ground := Go.Ground.data }], guard := none }) (v := ?_) rfl (by kernel_rfl) (by kernel_rfl) (by kernel_rfl) (fun _ _ _ h => h) (Or.inl ⟨by rfl, ?_⟩) (by assumption) ?_
            rotate_left
            · (intro w hSw; (try dsimp only at hSw); go_simp) <;> with_reducible rfl
            simp only [Act.put, List.setIfInBounds_toArray, List.set_cons_zero, List.set_cons_succ]
            refine wpAnyH_take (i := 11) (oi := { dst := some 54, op := Go.Op.build 44 #[(0, Go.Operand.tmp 46), (1, Go.Operand.tmp 53)], type := 44, pos := "ref.go:144", after := #[{ on := 3, ground := Go.Ground.data }, { on := 10, ground := Go.Ground.data }], guard := none }) (v := ?_) rfl (by kernel_rfl) (by kernel_rfl) (by kernel_rfl) (fun _ _ _ h => h) (Or.inl ⟨by rfl, ?_⟩) (by assumption) ?_
            rotate_left
            · (intro w hSw; (try dsimp only at hSw); go_simp) <;> with_reducible rfl
            simp only [Act.put, List.setIfInBounds_toArray, List.set_cons_zero, List.set_cons_succ]
            obtain ⟨a', n', c', w', hr, HBX, HC7, HKP⟩ := HC4.out.push ⟨xn, xs ++ xt, ⟨#[]⟩⟩ HLN.out
            have HRUN := Lib.hid hr
            have HR5 := Lib.hid (HR4.out.below (below1 w4 (.cells (fiC ⟨xn, xs ++ xt, ⟨#[]⟩⟩) 44)))
            have HR7 := Lib.hid (HKP.out _ _ _ HR4.out HVB.out)
            have HR8 := Lib.hid (HR7.out.keep (((But.refl (w.heap.size + 1 + 1) w').set 1 (.slice a' n' c')).block wr.heap.size (by have := HC.out.box.lt; omega)))
            have HC5 := Lib.hid (HC4.out.below (below1 w4 (.cells (fiC ⟨xn, xs ++ xt, ⟨#[]⟩⟩) 44)))
            have c1 := HC4.out.box.cell (i := 1) rfl
            have c5 := HC5.out.box.cell (i := 1) rfl
            have e1 := HBX.out.cell (i := 1) rfl
            have t1 := HBX.out.thaw 1
            clear hr HBX HKP
            rw [← HNX.out] at HC7
            refine wpAnyH_ready (rs := [1, 12]) (by kernel_rfl) (by simp) ?_
            refine AllReadyH.cons (o := { dst := some 44, op := Go.Op.load 22 (Go.Operand.tmp 43), type := 22, pos := "ref.go:144", after := #[{ on := 0, ground := Go.Ground.data }], guard := none }) rfl (fun K hK => ?_) ?_
            · go_simp
              refine hK.out _ _ ?_ (fun hz1 => ?_)
              · exact HSF.out _ HR4.out
              clear hK K hHeld
              try simp only [Act.put, List.setIfInBounds_toArray, List.set_cons_zero, List.set_cons_succ]
              refine wpAnyH_ready (rs := [12]) (by kernel_rfl) (by simp) ?_
              refine AllReadyH.cons (o := { dst := some 55, op := Go.Op.buildSlice 22 1 #[(0, Go.Operand.tmp 54)], type := 22, pos := "ref.go:144", after := #[{ on := 11, ground := Go.Ground.data }], guard := none }) rfl (fun K hK => ?_) AllReadyH.nil
              go_simp
              refine hK.out _ _ ?_ (fun hz2 => ?_)
              · exact HSF.out _ HR5.out
              clear hK K hz1
              try simp only [Act.put, List.setIfInBounds_toArray, List.set_cons_zero, List.set_cons_succ]
              refine wpAnyH_ready (rs := [13]) (by kernel_rfl) (by simp) ?_
              refine AllReadyH.cons (o := { dst := some 56, op := Go.Op.call { callee := Go.Callee.builtin Go.Builtin.append, args := #[Go.Operand.tmp 44, Go.Operand.tmp 55], argTypes := #[22, 22] }, type := 22, pos := "ref.go:144", after := #[{ on := 1, ground := Go.Ground.data }, { on := 12, ground := Go.Ground.data }], guard := none }) rfl (fun K hK => ?_) AllReadyH.nil
              refine step_append_runI rfl _ _ 22 22 rfl _ _ rfl rfl HRUN.out ?_
              refine hK.out _ _ ?_ (fun hz3 => ?_)
              · exact HSF.out _ HR7.out
              clear hK K
              try simp only [Act.put, List.setIfInBounds_toArray, List.set_cons_zero, List.set_cons_succ]
              refine wpAnyH_take (i := 14) (oi := { dst := some 57, op := Go.Op.fieldAddr 24 (Go.Operand.tmp 5) 1, type := 0, pos := "ref.go:144", after := #[{ on := 0, ground := Go.Ground.phase }, { on := 1, ground := Go.Ground.phase }, { on := 2, ground := Go.Ground.phase }, { on := 3, ground := Go.Ground.phase }, { on := 4, ground := Go.Ground.phase }, { on := 5, ground := Go.Ground.phase }, { on := 6, ground := Go.Ground.phase }, { on := 7, ground := Go.Ground.phase }, { on := 8, ground := Go.Ground.phase }, { on := 9, ground := Go.Ground.phase }, { on := 10, ground := Go.Ground.phase }, { on := 11, ground := Go.Ground.phase }, { on := 12, ground := Go.Ground.phase }, { on := 13, ground := Go.Ground.phase }], guard := none }) (v := ?_) rfl (by kernel_rfl) (by kernel_rfl) (by kernel_rfl) (fun _ _ _ h => h) (Or.inl ⟨by rfl, ?_⟩) (by assumption) ?_
              rotate_left
              · (intro w hSw; (try dsimp only at hSw); go_simp) <;> with_reducible rfl
              simp only [Act.put, List.setIfInBounds_toArray, List.set_cons_zero, List.set_cons_succ]
              refine wpAnyH_ready (rs := [15]) (by kernel_rfl) (by simp) ?_
              refine AllReadyH.cons (o := { dst := none, op := Go.Op.store 22 (Go.Operand.tmp 57) (Go.Operand.tmp 56), type := 0, pos := "ref.go:144", after := #[{ on := 14, ground := Go.Ground.data }, { on := 13, ground := Go.Ground.data }, { on := 13, ground := Go.Ground.chain }, { on := 0, ground := Go.Ground.phase }, { on := 1, ground := Go.Ground.phase }, { on := 2, ground := Go.Ground.phase }, { on := 3, ground := Go.Ground.phase }, { on := 4, ground := Go.Ground.phase }, { on := 5, ground := Go.Ground.phase }, { on := 6, ground := Go.Ground.phase }, { on := 7, ground := Go.Ground.phase }, { on := 8, ground := Go.Ground.phase }, { on := 9, ground := Go.Ground.phase }, { on := 10, ground := Go.Ground.phase }, { on := 11, ground := Go.Ground.phase }, { on := 12, ground := Go.Ground.phase }, { on := 13, ground := Go.Ground.phase }], guard := none }) rfl (fun K hK => ?_) AllReadyH.nil
              go_simp
              refine hK.out _ _ ?_ (fun hz4 => ?_)
              · exact HSF.out _ HR8.out
              clear hK K hz3
              try simp only [Act.put, List.setIfInBounds_toArray, List.set_cons_zero, List.set_cons_succ]
              refine wpAnyH_done (by kernel_rfl) ?_ _
              refine NoPanic.normal ?_
              go_wp2
              go_roundw
              case rel => exact ⟨k + 1, _, by omega, by go_num, HC7⟩
              case measure => simp [intOf]; omega
            refine AllReadyH.cons (o := { dst := some 55, op := Go.Op.buildSlice 22 1 #[(0, Go.Operand.tmp 54)], type := 22, pos := "ref.go:144", after := #[{ on := 11, ground := Go.Ground.data }], guard := none }) rfl (fun K hK => ?_) AllReadyH.nil
            go_simp
            refine hK.out _ _ ?_ (fun hz1 => ?_)
            · exact HSF.out _ HR5.out
            clear hK K hHeld
            try simp only [Act.put, List.setIfInBounds_toArray, List.set_cons_zero, List.set_cons_succ]
            refine wpAnyH_ready (rs := [1]) (by kernel_rfl) (by simp) ?_
            refine AllReadyH.cons (o := { dst := some 44, op := Go.Op.load 22 (Go.Operand.tmp 43), type := 22, pos := "ref.go:144", after := #[{ on := 0, ground := Go.Ground.data }], guard := none }) rfl (fun K hK => ?_) AllReadyH.nil
            go_simp
            refine hK.out _ _ ?_ (fun hz2 => ?_)
            · exact HSF.out _ HR5.out
            clear hK K hz1
            try simp only [Act.put, List.setIfInBounds_toArray, List.set_cons_zero, List.set_cons_succ]
            refine wpAnyH_ready (rs := [13]) (by kernel_rfl) (by simp) ?_
            refine AllReadyH.cons (o := { dst := some 56, op := Go.Op.call { callee := Go.Callee.builtin Go.Builtin.append, args := #[Go.Operand.tmp 44, Go.Operand.tmp 55], argTypes := #[22, 22] }, type := 22, pos := "ref.go:144", after := #[{ on := 1, ground := Go.Ground.data }, { on := 12, ground := Go.Ground.data }], guard := none }) rfl (fun K hK => ?_) AllReadyH.nil
            refine step_append_runI rfl _ _ 22 22 rfl _ _ rfl rfl HRUN.out ?_
            refine hK.out _ _ ?_ (fun hz3 => ?_)
            · exact HSF.out _ HR7.out
            clear hK K
            try simp only [Act.put, List.setIfInBounds_toArray, List.set_cons_zero, List.set_cons_succ]
            refine wpAnyH_take (i := 14) (oi := { dst := some 57, op := Go.Op.fieldAddr 24 (Go.Operand.tmp 5) 1, type := 0, pos := "ref.go:144", after := #[{ on := 0, ground := Go.Ground.phase }, { on := 1, ground := Go.Ground.phase }, { on := 2, ground := Go.Ground.phase }, { on := 3, ground := Go.Ground.phase }, { on := 4, ground := Go.Ground.phase }, { on := 5, ground := Go.Ground.phase }, { on := 6, ground := Go.Ground.phase }, { on := 7, ground := Go.Ground.phase }, { on := 8, ground := Go.Ground.phase }, { on := 9, ground := Go.Ground.phase }, { on := 10, ground := Go.Ground.phase }, { on := 11, ground := Go.Ground.phase }, { on := 12, ground := Go.Ground.phase }, { on := 13, ground := Go.Ground.phase }], guard := none }) (v := ?_) rfl (by kernel_rfl) (by kernel_rfl) (by kernel_rfl) (fun _ _ _ h => h) (Or.inl ⟨by rfl, ?_⟩) (by assumption) ?_
            rotate_left
            · (intro w hSw; (try dsimp only at hSw); go_simp) <;> with_reducible rfl
            simp only [Act.put, List.setIfInBounds_toArray, List.set_cons_zero, List.set_cons_succ]
            refine wpAnyH_ready (rs := [15]) (by kernel_rfl) (by simp) ?_
            refine AllReadyH.cons (o := { dst := none, op := Go.Op.store 22 (Go.Operand.tmp 57) (Go.Operand.tmp 56), type := 0, pos := "ref.go:144", after := #[{ on := 14, ground := Go.Ground.data }, { on := 13, ground := Go.Ground.data }, { on := 13, ground := Go.Ground.chain }, { on := 0, ground := Go.Ground.phase }, { on := 1, ground := Go.Ground.phase }, { on := 2, ground := Go.Ground.phase }, { on := 3, ground := Go.Ground.phase }, { on := 4, ground := Go.Ground.phase }, { on := 5, ground := Go.Ground.phase }, { on := 6, ground := Go.Ground.phase }, { on := 7, ground := Go.Ground.phase }, { on := 8, ground := Go.Ground.phase }, { on := 9, ground := Go.Ground.phase }, { on := 10, ground := Go.Ground.phase }, { on := 11, ground := Go.Ground.phase }, { on := 12, ground := Go.Ground.phase }, { on := 13, ground := Go.Ground.phase }], guard := none }) rfl (fun K hK => ?_) AllReadyH.nil
            go_simp
            refine hK.out _ _ ?_ (fun hz4 => ?_)
            · exact HSF.out _ HR8.out
            clear hK K hz3
            try simp only [Act.put, List.setIfInBounds_toArray, List.set_cons_zero, List.set_cons_succ]
            refine wpAnyH_done (by kernel_rfl) ?_ _
            refine NoPanic.normal ?_
            go_wp2
            go_roundw
            case rel => exact ⟨k + 1, _, by omega, by go_num, HC7⟩
            case measure => simp [intOf]; omega
        · have q3 : decide (0 < kv) = false := decide_eq_false hp
          have hpx2 : 0 ≤ xt.size := Nat.zero_le _
          have q4 : decide ((xt.size : Int) < 0) = false := decide_eq_false (by omega)
          rw [HLA.out, show min kv.toNat xt.size = 0 by rw [show kv.toNat = 0 by omega]; exact Nat.zero_min _] at HNX
          have hsz : (ByteArray.extract xt 0 (0)).size = 0 := by rw [ByteArray.size_extract]; omega
          have q2 : ¬ (9223372036854775807 < xs.size + 0) := by omega
          have q22 : ¬ (9223372036854775807 < xs.size) := by omega
          have HCR : Hid (crF ⟨xn, xs, xt⟩ (0) = ⟨xn, xs, ⟨#[]⟩⟩) := Lib.hid (cr_none _)
          rw [HCR.out] at HNX
          go_wp2
          generalize hW1 : wr.alloc (.cells (fiC ⟨xn, xs, xt⟩) 44) = W1 at *
          clear hW1 x0 x1 x2 d0 d1 d2
          have HDR := Lib.hid (Below.refl W1.heap.size W1).drew
          have HSF : Hid (∀ W, RowF W wr.heap.size ⟨xn, xs, xt⟩ → W.cell? ⟨wr.heap.size, 0, none⟩ = some (.string xn) ∧ W.cell? ⟨wr.heap.size, 1, none⟩ = some (.string xs) ∧ W.cell? ⟨wr.heap.size, 2, none⟩ = some (.string xt)) := Lib.hid (fun W h => ⟨h.cell (i := 0) rfl, h.cell (i := 1) rfl, h.cell (i := 2) rfl⟩)
          have HR4 := Lib.hid (HRF.out.below HDR.out)
          have HC4 := Lib.hid (HC1.out.below HDR.out)
          have hs0 := HSF.out _ HR4.out
          refine wp_region_noPanic ?_
          refine wp_region_held_drew (S := fun W => W.cell? ⟨wr.heap.size, 0, none⟩ = some (.string xn) ∧ W.cell? ⟨wr.heap.size, 1, none⟩ = some (.string xs) ∧ W.cell? ⟨wr.heap.size, 2, none⟩ = some (.string xt)) (by kernel_rfl) hs0 (fun hHeld => ?_)
          clear hs0
          generalize hW4 : W1.drew = w4 at *
          clear hW4
          refine wpAnyH_take (i := 0) (oi := { dst := some 43, op := Go.Op.fieldAddr 24 (Go.Operand.tmp 5) 1, type := 0, pos := "ref.go:144", after := #[], guard := none }) (v := ?_) rfl (by kernel_rfl) (by kernel_rfl) (by kernel_rfl) (fun _ _ _ h => h) (Or.inl ⟨by rfl, ?_⟩) (by assumption) ?_
          rotate_left
          · (intro w hSw; (try dsimp only at hSw); go_simp) <;> with_reducible rfl
          simp only [Act.put, List.setIfInBounds_toArray, List.set_cons_zero, List.set_cons_succ]
          refine wpAnyH_take (i := 2) (oi := { dst := some 45, op := Go.Op.fieldAddr 44 (Go.Operand.tmp 7) 0, type := 0, pos := "ref.go:144", after := #[], guard := none }) (v := ?_) rfl (by kernel_rfl) (by kernel_rfl) (by kernel_rfl) (fun _ _ _ h => h) (Or.inl ⟨by rfl, ?_⟩) (by assumption) ?_
          rotate_left
          · (intro w hSw; (try dsimp only at hSw); go_simp) <;> with_reducible rfl
          simp only [Act.put, List.setIfInBounds_toArray, List.set_cons_zero, List.set_cons_succ]
          refine wpAnyH_take (i := 3) (oi := { dst := some 46, op := Go.Op.load 9 (Go.Operand.tmp 45), type := 9, pos := "ref.go:144", after := #[{ on := 2, ground := Go.Ground.data }], guard := none }) (v := ?_) rfl (by kernel_rfl) (by kernel_rfl) (by kernel_rfl) (fun _ _ _ h => h) (Or.inl ⟨by rfl, ?_⟩) (by assumption) ?_
          rotate_left
          · (intro w hSw; (try dsimp only at hSw); go_simp) <;> with_reducible rfl
          simp only [Act.put, List.setIfInBounds_toArray, List.set_cons_zero, List.set_cons_succ]
          refine wpAnyH_take (i := 4) (oi := { dst := some 47, op := Go.Op.fieldAddr 44 (Go.Operand.tmp 7) 1, type := 0, pos := "ref.go:144", after := #[], guard := none }) (v := ?_) rfl (by kernel_rfl) (by kernel_rfl) (by kernel_rfl) (fun _ _ _ h => h) (Or.inl ⟨by rfl, ?_⟩) (by assumption) ?_
          rotate_left
          · (intro w hSw; (try dsimp only at hSw); go_simp) <;> with_reducible rfl
          simp only [Act.put, List.setIfInBounds_toArray, List.set_cons_zero, List.set_cons_succ]
          refine wpAnyH_take (i := 5) (oi := { dst := some 48, op := Go.Op.load 9 (Go.Operand.tmp 47), type := 9, pos := "ref.go:144", after := #[{ on := 4, ground := Go.Ground.data }], guard := none }) (v := ?_) rfl (by kernel_rfl) (by kernel_rfl) (by kernel_rfl) (fun _ _ _ h => h) (Or.inl ⟨by rfl, ?_⟩) (by assumption) ?_
          rotate_left
          · (intro w hSw; (try dsimp only at hSw); go_simp) <;> with_reducible rfl
          simp only [Act.put, List.setIfInBounds_toArray, List.set_cons_zero, List.set_cons_succ]
          refine wpAnyH_take (i := 6) (oi := { dst := some 49, op := Go.Op.fieldAddr 44 (Go.Operand.tmp 7) 2, type := 0, pos := "ref.go:144", after := #[], guard := none }) (v := ?_) rfl (by kernel_rfl) (by kernel_rfl) (by kernel_rfl) (fun _ _ _ h => h) (Or.inl ⟨by rfl, ?_⟩) (by assumption) ?_
          rotate_left
          · (intro w hSw; (try dsimp only at hSw); go_simp) <;> with_reducible rfl
          simp only [Act.put, List.setIfInBounds_toArray, List.set_cons_zero, List.set_cons_succ]
          refine wpAnyH_take (i := 7) (oi := { dst := some 50, op := Go.Op.load 9 (Go.Operand.tmp 49), type := 9, pos := "ref.go:144", after := #[{ on := 6, ground := Go.Ground.data }], guard := none }) (v := ?_) rfl (by kernel_rfl) (by kernel_rfl) (by kernel_rfl) (fun _ _ _ h => h) (Or.inl ⟨by rfl, ?_⟩) (by assumption) ?_
          rotate_left
          · (intro w hSw; (try dsimp only at hSw); go_simp) <;> with_reducible rfl
          simp only [Act.put, List.setIfInBounds_toArray, List.set_cons_zero, List.set_cons_succ]
          refine wpAnyH_take (i := 8) (oi := { dst := some 51, op := Go.Op.move (Go.Operand.tmp 8), type := 3, pos := "ref.go:144", after := #[], guard := none }) (v := ?_) rfl (by kernel_rfl) (by kernel_rfl) (by kernel_rfl) (fun _ _ _ h => h) (Or.inl ⟨by rfl, ?_⟩) (by assumption) ?_
          rotate_left
          · (intro w hSw; (try dsimp only at hSw); go_simp) <;> with_reducible rfl
          simp only [Act.put, List.setIfInBounds_toArray, List.set_cons_zero, List.set_cons_succ]
          refine wpAnyH_take (i := 9) (oi := { dst := some 52, op := Go.Op.slice 9 (Go.Operand.tmp 50) none (some (Go.Operand.tmp 51)) none, type := 9, pos := "ref.go:144", after := #[{ on := 7, ground := Go.Ground.data }, { on := 8, ground := Go.Ground.data }], guard := none }) (v := ?_) rfl (by kernel_rfl) (by kernel_rfl) (by kernel_rfl) (fun _ _ _ h => h) (Or.inl ⟨by rfl, ?_⟩) (by assumption) ?_
          rotate_left
          · (intro w hSw; (try dsimp only at hSw); go_simp) <;> with_reducible rfl
          simp only [Act.put, List.setIfInBounds_toArray, List.set_cons_zero, List.set_cons_succ]
          refine wpAnyH_take (i := 10) (oi := { dst := some 53, op := Go.Op.binOp Go.BinOp.add 9 (Go.Operand.tmp 48) (Go.Operand.tmp 52) 9, type := 9, pos := "ref.go:144", after := #[{ on := 5, ground := Go.Ground.data }, { on := 9, ground := Go.Ground.data }], guard := none }) (v := ?_) rfl (by kernel_rfl) (by kernel_rfl) (by kernel_rfl) (fun _ _ _ h => h) (Or.inl ⟨by rfl, ?_⟩) (by assumption) ?_
          rotate_left
          · (intro w hSw; (try dsimp only at hSw); go_simp) <;> with_reducible rfl
          simp only [Act.put, List.setIfInBounds_toArray, List.set_cons_zero, List.set_cons_succ]
          refine wpAnyH_take (i := 11) (oi := { dst := some 54, op := Go.Op.build 44 #[(0, Go.Operand.tmp 46), (1, Go.Operand.tmp 53)], type := 44, pos := "ref.go:144", after := #[{ on := 3, ground := Go.Ground.data }, { on := 10, ground := Go.Ground.data }], guard := none }) (v := ?_) rfl (by kernel_rfl) (by kernel_rfl) (by kernel_rfl) (fun _ _ _ h => h) (Or.inl ⟨by rfl, ?_⟩) (by assumption) ?_
          rotate_left
          · (intro w hSw; (try dsimp only at hSw); go_simp) <;> with_reducible rfl
          simp only [Act.put, List.setIfInBounds_toArray, List.set_cons_zero, List.set_cons_succ]
          obtain ⟨a', n', c', w', hr, HBX, HC7, HKP⟩ := HC4.out.push ⟨xn, xs, ⟨#[]⟩⟩ HLN.out
          have HRUN := Lib.hid hr
          have HR5 := Lib.hid (HR4.out.below (below1 w4 (.cells (fiC ⟨xn, xs, ⟨#[]⟩⟩) 44)))
          have HR7 := Lib.hid (HKP.out _ _ _ HR4.out HVB.out)
          have HR8 := Lib.hid (HR7.out.keep (((But.refl (w.heap.size + 1 + 1) w').set 1 (.slice a' n' c')).block wr.heap.size (by have := HC.out.box.lt; omega)))
          have HC5 := Lib.hid (HC4.out.below (below1 w4 (.cells (fiC ⟨xn, xs, ⟨#[]⟩⟩) 44)))
          have c1 := HC4.out.box.cell (i := 1) rfl
          have c5 := HC5.out.box.cell (i := 1) rfl
          have e1 := HBX.out.cell (i := 1) rfl
          have t1 := HBX.out.thaw 1
          clear hr HBX HKP
          rw [← HNX.out] at HC7
          refine wpAnyH_ready (rs := [1, 12]) (by kernel_rfl) (by simp) ?_
          refine AllReadyH.cons (o := { dst := some 44, op := Go.Op.load 22 (Go.Operand.tmp 43), type := 22, pos := "ref.go:144", after := #[{ on := 0, ground := Go.Ground.data }], guard := none }) rfl (fun K hK => ?_) ?_
          · go_simp
            refine hK.out _ _ ?_ (fun hz1 => ?_)
            · exact HSF.out _ HR4.out
            clear hK K hHeld
            try simp only [Act.put, List.setIfInBounds_toArray, List.set_cons_zero, List.set_cons_succ]
            refine wpAnyH_ready (rs := [12]) (by kernel_rfl) (by simp) ?_
            refine AllReadyH.cons (o := { dst := some 55, op := Go.Op.buildSlice 22 1 #[(0, Go.Operand.tmp 54)], type := 22, pos := "ref.go:144", after := #[{ on := 11, ground := Go.Ground.data }], guard := none }) rfl (fun K hK => ?_) AllReadyH.nil
            go_simp
            refine hK.out _ _ ?_ (fun hz2 => ?_)
            · exact HSF.out _ HR5.out
            clear hK K hz1
            try simp only [Act.put, List.setIfInBounds_toArray, List.set_cons_zero, List.set_cons_succ]
            refine wpAnyH_ready (rs := [13]) (by kernel_rfl) (by simp) ?_
            refine AllReadyH.cons (o := { dst := some 56, op := Go.Op.call { callee := Go.Callee.builtin Go.Builtin.append, args := #[Go.Operand.tmp 44, Go.Operand.tmp 55], argTypes := #[22, 22] }, type := 22, pos := "ref.go:144", after := #[{ on := 1, ground := Go.Ground.data }, { on := 12, ground := Go.Ground.data }], guard := none }) rfl (fun K hK => ?_) AllReadyH.nil
            refine step_append_runI rfl _ _ 22 22 rfl _ _ rfl rfl HRUN.out ?_
            refine hK.out _ _ ?_ (fun hz3 => ?_)
            · exact HSF.out _ HR7.out
            clear hK K
            try simp only [Act.put, List.setIfInBounds_toArray, List.set_cons_zero, List.set_cons_succ]
            refine wpAnyH_take (i := 14) (oi := { dst := some 57, op := Go.Op.fieldAddr 24 (Go.Operand.tmp 5) 1, type := 0, pos := "ref.go:144", after := #[{ on := 0, ground := Go.Ground.phase }, { on := 1, ground := Go.Ground.phase }, { on := 2, ground := Go.Ground.phase }, { on := 3, ground := Go.Ground.phase }, { on := 4, ground := Go.Ground.phase }, { on := 5, ground := Go.Ground.phase }, { on := 6, ground := Go.Ground.phase }, { on := 7, ground := Go.Ground.phase }, { on := 8, ground := Go.Ground.phase }, { on := 9, ground := Go.Ground.phase }, { on := 10, ground := Go.Ground.phase }, { on := 11, ground := Go.Ground.phase }, { on := 12, ground := Go.Ground.phase }, { on := 13, ground := Go.Ground.phase }], guard := none }) (v := ?_) rfl (by kernel_rfl) (by kernel_rfl) (by kernel_rfl) (fun _ _ _ h => h) (Or.inl ⟨by rfl, ?_⟩) (by assumption) ?_
            rotate_left
            · (intro w hSw; (try dsimp only at hSw); go_simp) <;> with_reducible rfl
            simp only [Act.put, List.setIfInBounds_toArray, List.set_cons_zero, List.set_cons_succ]
            refine wpAnyH_ready (rs := [15]) (by kernel_rfl) (by simp) ?_
            refine AllReadyH.cons (o := { dst := none, op := Go.Op.store 22 (Go.Operand.tmp 57) (Go.Operand.tmp 56), type := 0, pos := "ref.go:144", after := #[{ on := 14, ground := Go.Ground.data }, { on := 13, ground := Go.Ground.data }, { on := 13, ground := Go.Ground.chain }, { on := 0, ground := Go.Ground.phase }, { on := 1, ground := Go.Ground.phase }, { on := 2, ground := Go.Ground.phase }, { on := 3, ground := Go.Ground.phase }, { on := 4, ground := Go.Ground.phase }, { on := 5, ground := Go.Ground.phase }, { on := 6, ground := Go.Ground.phase }, { on := 7, ground := Go.Ground.phase }, { on := 8, ground := Go.Ground.phase }, { on := 9, ground := Go.Ground.phase }, { on := 10, ground := Go.Ground.phase }, { on := 11, ground := Go.Ground.phase }, { on := 12, ground := Go.Ground.phase }, { on := 13, ground := Go.Ground.phase }], guard := none }) rfl (fun K hK => ?_) AllReadyH.nil
            go_simp
            refine hK.out _ _ ?_ (fun hz4 => ?_)
            · exact HSF.out _ HR8.out
            clear hK K hz3
            try simp only [Act.put, List.setIfInBounds_toArray, List.set_cons_zero, List.set_cons_succ]
            refine wpAnyH_done (by kernel_rfl) ?_ _
            refine NoPanic.normal ?_
            go_wp2
            go_roundw
            case rel => exact ⟨k + 1, _, by omega, by go_num, HC7⟩
            case measure => simp [intOf]; omega
          refine AllReadyH.cons (o := { dst := some 55, op := Go.Op.buildSlice 22 1 #[(0, Go.Operand.tmp 54)], type := 22, pos := "ref.go:144", after := #[{ on := 11, ground := Go.Ground.data }], guard := none }) rfl (fun K hK => ?_) AllReadyH.nil
          go_simp
          refine hK.out _ _ ?_ (fun hz1 => ?_)
          · exact HSF.out _ HR5.out
          clear hK K hHeld
          try simp only [Act.put, List.setIfInBounds_toArray, List.set_cons_zero, List.set_cons_succ]
          refine wpAnyH_ready (rs := [1]) (by kernel_rfl) (by simp) ?_
          refine AllReadyH.cons (o := { dst := some 44, op := Go.Op.load 22 (Go.Operand.tmp 43), type := 22, pos := "ref.go:144", after := #[{ on := 0, ground := Go.Ground.data }], guard := none }) rfl (fun K hK => ?_) AllReadyH.nil
          go_simp
          refine hK.out _ _ ?_ (fun hz2 => ?_)
          · exact HSF.out _ HR5.out
          clear hK K hz1
          try simp only [Act.put, List.setIfInBounds_toArray, List.set_cons_zero, List.set_cons_succ]
          refine wpAnyH_ready (rs := [13]) (by kernel_rfl) (by simp) ?_
          refine AllReadyH.cons (o := { dst := some 56, op := Go.Op.call { callee := Go.Callee.builtin Go.Builtin.append, args := #[Go.Operand.tmp 44, Go.Operand.tmp 55], argTypes := #[22, 22] }, type := 22, pos := "ref.go:144", after := #[{ on := 1, ground := Go.Ground.data }, { on := 12, ground := Go.Ground.data }], guard := none }) rfl (fun K hK => ?_) AllReadyH.nil
          refine step_append_runI rfl _ _ 22 22 rfl _ _ rfl rfl HRUN.out ?_
          refine hK.out _ _ ?_ (fun hz3 => ?_)
          · exact HSF.out _ HR7.out
          clear hK K
          try simp only [Act.put, List.setIfInBounds_toArray, List.set_cons_zero, List.set_cons_succ]
          refine wpAnyH_take (i := 14) (oi := { dst := some 57, op := Go.Op.fieldAddr 24 (Go.Operand.tmp 5) 1, type := 0, pos := "ref.go:144", after := #[{ on := 0, ground := Go.Ground.phase }, { on := 1, ground := Go.Ground.phase }, { on := 2, ground := Go.Ground.phase }, { on := 3, ground := Go.Ground.phase }, { on := 4, ground := Go.Ground.phase }, { on := 5, ground := Go.Ground.phase }, { on := 6, ground := Go.Ground.phase }, { on := 7, ground := Go.Ground.phase }, { on := 8, ground := Go.Ground.phase }, { on := 9, ground := Go.Ground.phase }, { on := 10, ground := Go.Ground.phase }, { on := 11, ground := Go.Ground.phase }, { on := 12, ground := Go.Ground.phase }, { on := 13, ground := Go.Ground.phase }], guard := none }) (v := ?_) rfl (by kernel_rfl) (by kernel_rfl) (by kernel_rfl) (fun _ _ _ h => h) (Or.inl ⟨by rfl, ?_⟩) (by assumption) ?_
          rotate_left
          · (intro w hSw; (try dsimp only at hSw); go_simp) <;> with_reducible rfl
          simp only [Act.put, List.setIfInBounds_toArray, List.set_cons_zero, List.set_cons_succ]
          refine wpAnyH_ready (rs := [15]) (by kernel_rfl) (by simp) ?_
          refine AllReadyH.cons (o := { dst := none, op := Go.Op.store 22 (Go.Operand.tmp 57) (Go.Operand.tmp 56), type := 0, pos := "ref.go:144", after := #[{ on := 14, ground := Go.Ground.data }, { on := 13, ground := Go.Ground.data }, { on := 13, ground := Go.Ground.chain }, { on := 0, ground := Go.Ground.phase }, { on := 1, ground := Go.Ground.phase }, { on := 2, ground := Go.Ground.phase }, { on := 3, ground := Go.Ground.phase }, { on := 4, ground := Go.Ground.phase }, { on := 5, ground := Go.Ground.phase }, { on := 6, ground := Go.Ground.phase }, { on := 7, ground := Go.Ground.phase }, { on := 8, ground := Go.Ground.phase }, { on := 9, ground := Go.Ground.phase }, { on := 10, ground := Go.Ground.phase }, { on := 11, ground := Go.Ground.phase }, { on := 12, ground := Go.Ground.phase }, { on := 13, ground := Go.Ground.phase }], guard := none }) rfl (fun K hK => ?_) AllReadyH.nil
          go_simp
          refine hK.out _ _ ?_ (fun hz4 => ?_)
          · exact HSF.out _ HR8.out
          clear hK K hz3
          try simp only [Act.put, List.setIfInBounds_toArray, List.set_cons_zero, List.set_cons_succ]
          refine wpAnyH_done (by kernel_rfl) ?_ _
          refine NoPanic.normal ?_
          go_wp2
          go_roundw
          case rel => exact ⟨k + 1, _, by omega, by go_num, HC7⟩
          case measure => simp [intOf]; omega
      · have HLA : Hid (lastF keep k xt.size = 0) := Lib.hid (by unfold lastF; rw [List.getElem?_eq_none (by have := HM.out; omega)])
        have q0 : decide (k < M) = false := decide_eq_false hkm
        have q1 : ¬ (k : Int) < (M : Int) := by omega
        have hpx2 : 0 ≤ xt.size := Nat.zero_le _
        have q4 : decide ((xt.size : Int) < 0) = false := decide_eq_false (by omega)
        rw [HLA.out] at HNX
        have hsz : (ByteArray.extract xt 0 (0)).size = 0 := by rw [ByteArray.size_extract]; omega
        have q2 : ¬ (9223372036854775807 < xs.size + 0) := by omega
        have q22 : ¬ (9223372036854775807 < xs.size) := by omega
        have HCR : Hid (crF ⟨xn, xs, xt⟩ (0) = ⟨xn, xs, ⟨#[]⟩⟩) := Lib.hid (cr_none _)
        rw [HCR.out] at HNX
        go_wp2
        generalize hW1 : wr.alloc (.cells (fiC ⟨xn, xs, xt⟩) 44) = W1 at *
        clear hW1 x0 x1 x2 d0 d1 d2
        have HDR := Lib.hid (Below.refl W1.heap.size W1).drew
        have HSF : Hid (∀ W, RowF W wr.heap.size ⟨xn, xs, xt⟩ → W.cell? ⟨wr.heap.size, 0, none⟩ = some (.string xn) ∧ W.cell? ⟨wr.heap.size, 1, none⟩ = some (.string xs) ∧ W.cell? ⟨wr.heap.size, 2, none⟩ = some (.string xt)) := Lib.hid (fun W h => ⟨h.cell (i := 0) rfl, h.cell (i := 1) rfl, h.cell (i := 2) rfl⟩)
        have HR4 := Lib.hid (HRF.out.below HDR.out)
        have HC4 := Lib.hid (HC1.out.below HDR.out)
        have hs0 := HSF.out _ HR4.out
        refine wp_region_noPanic ?_
        refine wp_region_held_drew (S := fun W => W.cell? ⟨wr.heap.size, 0, none⟩ = some (.string xn) ∧ W.cell? ⟨wr.heap.size, 1, none⟩ = some (.string xs) ∧ W.cell? ⟨wr.heap.size, 2, none⟩ = some (.string xt)) (by kernel_rfl) hs0 (fun hHeld => ?_)
        clear hs0
        generalize hW4 : W1.drew = w4 at *
        clear hW4
        refine wpAnyH_take (i := 0) (oi := { dst := some 43, op := Go.Op.fieldAddr 24 (Go.Operand.tmp 5) 1, type := 0, pos := "ref.go:144", after := #[], guard := none }) (v := ?_) rfl (by kernel_rfl) (by kernel_rfl) (by kernel_rfl) (fun _ _ _ h => h) (Or.inl ⟨by rfl, ?_⟩) (by assumption) ?_
        rotate_left
        · (intro w hSw; (try dsimp only at hSw); go_simp) <;> with_reducible rfl
        simp only [Act.put, List.setIfInBounds_toArray, List.set_cons_zero, List.set_cons_succ]
        refine wpAnyH_take (i := 2) (oi := { dst := some 45, op := Go.Op.fieldAddr 44 (Go.Operand.tmp 7) 0, type := 0, pos := "ref.go:144", after := #[], guard := none }) (v := ?_) rfl (by kernel_rfl) (by kernel_rfl) (by kernel_rfl) (fun _ _ _ h => h) (Or.inl ⟨by rfl, ?_⟩) (by assumption) ?_
        rotate_left
        · (intro w hSw; (try dsimp only at hSw); go_simp) <;> with_reducible rfl
        simp only [Act.put, List.setIfInBounds_toArray, List.set_cons_zero, List.set_cons_succ]
        refine wpAnyH_take (i := 3) (oi := { dst := some 46, op := Go.Op.load 9 (Go.Operand.tmp 45), type := 9, pos := "ref.go:144", after := #[{ on := 2, ground := Go.Ground.data }], guard := none }) (v := ?_) rfl (by kernel_rfl) (by kernel_rfl) (by kernel_rfl) (fun _ _ _ h => h) (Or.inl ⟨by rfl, ?_⟩) (by assumption) ?_
        rotate_left
        · (intro w hSw; (try dsimp only at hSw); go_simp) <;> with_reducible rfl
        simp only [Act.put, List.setIfInBounds_toArray, List.set_cons_zero, List.set_cons_succ]
        refine wpAnyH_take (i := 4) (oi := { dst := some 47, op := Go.Op.fieldAddr 44 (Go.Operand.tmp 7) 1, type := 0, pos := "ref.go:144", after := #[], guard := none }) (v := ?_) rfl (by kernel_rfl) (by kernel_rfl) (by kernel_rfl) (fun _ _ _ h => h) (Or.inl ⟨by rfl, ?_⟩) (by assumption) ?_
        rotate_left
        · (intro w hSw; (try dsimp only at hSw); go_simp) <;> with_reducible rfl
        simp only [Act.put, List.setIfInBounds_toArray, List.set_cons_zero, List.set_cons_succ]
        refine wpAnyH_take (i := 5) (oi := { dst := some 48, op := Go.Op.load 9 (Go.Operand.tmp 47), type := 9, pos := "ref.go:144", after := #[{ on := 4, ground := Go.Ground.data }], guard := none }) (v := ?_) rfl (by kernel_rfl) (by kernel_rfl) (by kernel_rfl) (fun _ _ _ h => h) (Or.inl ⟨by rfl, ?_⟩) (by assumption) ?_
        rotate_left
        · (intro w hSw; (try dsimp only at hSw); go_simp) <;> with_reducible rfl
        simp only [Act.put, List.setIfInBounds_toArray, List.set_cons_zero, List.set_cons_succ]
        refine wpAnyH_take (i := 6) (oi := { dst := some 49, op := Go.Op.fieldAddr 44 (Go.Operand.tmp 7) 2, type := 0, pos := "ref.go:144", after := #[], guard := none }) (v := ?_) rfl (by kernel_rfl) (by kernel_rfl) (by kernel_rfl) (fun _ _ _ h => h) (Or.inl ⟨by rfl, ?_⟩) (by assumption) ?_
        rotate_left
        · (intro w hSw; (try dsimp only at hSw); go_simp) <;> with_reducible rfl
        simp only [Act.put, List.setIfInBounds_toArray, List.set_cons_zero, List.set_cons_succ]
        refine wpAnyH_take (i := 7) (oi := { dst := some 50, op := Go.Op.load 9 (Go.Operand.tmp 49), type := 9, pos := "ref.go:144", after := #[{ on := 6, ground := Go.Ground.data }], guard := none }) (v := ?_) rfl (by kernel_rfl) (by kernel_rfl) (by kernel_rfl) (fun _ _ _ h => h) (Or.inl ⟨by rfl, ?_⟩) (by assumption) ?_
        rotate_left
        · (intro w hSw; (try dsimp only at hSw); go_simp) <;> with_reducible rfl
        simp only [Act.put, List.setIfInBounds_toArray, List.set_cons_zero, List.set_cons_succ]
        refine wpAnyH_take (i := 8) (oi := { dst := some 51, op := Go.Op.move (Go.Operand.tmp 8), type := 3, pos := "ref.go:144", after := #[], guard := none }) (v := ?_) rfl (by kernel_rfl) (by kernel_rfl) (by kernel_rfl) (fun _ _ _ h => h) (Or.inl ⟨by rfl, ?_⟩) (by assumption) ?_
        rotate_left
        · (intro w hSw; (try dsimp only at hSw); go_simp) <;> with_reducible rfl
        simp only [Act.put, List.setIfInBounds_toArray, List.set_cons_zero, List.set_cons_succ]
        refine wpAnyH_take (i := 9) (oi := { dst := some 52, op := Go.Op.slice 9 (Go.Operand.tmp 50) none (some (Go.Operand.tmp 51)) none, type := 9, pos := "ref.go:144", after := #[{ on := 7, ground := Go.Ground.data }, { on := 8, ground := Go.Ground.data }], guard := none }) (v := ?_) rfl (by kernel_rfl) (by kernel_rfl) (by kernel_rfl) (fun _ _ _ h => h) (Or.inl ⟨by rfl, ?_⟩) (by assumption) ?_
        rotate_left
        · (intro w hSw; (try dsimp only at hSw); go_simp) <;> with_reducible rfl
        simp only [Act.put, List.setIfInBounds_toArray, List.set_cons_zero, List.set_cons_succ]
        refine wpAnyH_take (i := 10) (oi := { dst := some 53, op := Go.Op.binOp Go.BinOp.add 9 (Go.Operand.tmp 48) (Go.Operand.tmp 52) 9, type := 9, pos := "ref.go:144", after := #[{ on := 5, ground := Go.Ground.data }, { on := 9, ground := Go.Ground.data }], guard := none }) (v := ?_) rfl (by kernel_rfl) (by kernel_rfl) (by kernel_rfl) (fun _ _ _ h => h) (Or.inl ⟨by rfl, ?_⟩) (by assumption) ?_
        rotate_left
        · (intro w hSw; (try dsimp only at hSw); go_simp) <;> with_reducible rfl
        simp only [Act.put, List.setIfInBounds_toArray, List.set_cons_zero, List.set_cons_succ]
        refine wpAnyH_take (i := 11) (oi := { dst := some 54, op := Go.Op.build 44 #[(0, Go.Operand.tmp 46), (1, Go.Operand.tmp 53)], type := 44, pos := "ref.go:144", after := #[{ on := 3, ground := Go.Ground.data }, { on := 10, ground := Go.Ground.data }], guard := none }) (v := ?_) rfl (by kernel_rfl) (by kernel_rfl) (by kernel_rfl) (fun _ _ _ h => h) (Or.inl ⟨by rfl, ?_⟩) (by assumption) ?_
        rotate_left
        · (intro w hSw; (try dsimp only at hSw); go_simp) <;> with_reducible rfl
        simp only [Act.put, List.setIfInBounds_toArray, List.set_cons_zero, List.set_cons_succ]
        obtain ⟨a', n', c', w', hr, HBX, HC7, HKP⟩ := HC4.out.push ⟨xn, xs, ⟨#[]⟩⟩ HLN.out
        have HRUN := Lib.hid hr
        have HR5 := Lib.hid (HR4.out.below (below1 w4 (.cells (fiC ⟨xn, xs, ⟨#[]⟩⟩) 44)))
        have HR7 := Lib.hid (HKP.out _ _ _ HR4.out HVB.out)
        have HR8 := Lib.hid (HR7.out.keep (((But.refl (w.heap.size + 1 + 1) w').set 1 (.slice a' n' c')).block wr.heap.size (by have := HC.out.box.lt; omega)))
        have HC5 := Lib.hid (HC4.out.below (below1 w4 (.cells (fiC ⟨xn, xs, ⟨#[]⟩⟩) 44)))
        have c1 := HC4.out.box.cell (i := 1) rfl
        have c5 := HC5.out.box.cell (i := 1) rfl
        have e1 := HBX.out.cell (i := 1) rfl
        have t1 := HBX.out.thaw 1
        clear hr HBX HKP
        rw [← HNX.out] at HC7
        refine wpAnyH_ready (rs := [1, 12]) (by kernel_rfl) (by simp) ?_
        refine AllReadyH.cons (o := { dst := some 44, op := Go.Op.load 22 (Go.Operand.tmp 43), type := 22, pos := "ref.go:144", after := #[{ on := 0, ground := Go.Ground.data }], guard := none }) rfl (fun K hK => ?_) ?_
        · go_simp
          refine hK.out _ _ ?_ (fun hz1 => ?_)
          · exact HSF.out _ HR4.out
          clear hK K hHeld
          try simp only [Act.put, List.setIfInBounds_toArray, List.set_cons_zero, List.set_cons_succ]
          refine wpAnyH_ready (rs := [12]) (by kernel_rfl) (by simp) ?_
          refine AllReadyH.cons (o := { dst := some 55, op := Go.Op.buildSlice 22 1 #[(0, Go.Operand.tmp 54)], type := 22, pos := "ref.go:144", after := #[{ on := 11, ground := Go.Ground.data }], guard := none }) rfl (fun K hK => ?_) AllReadyH.nil
          go_simp
          refine hK.out _ _ ?_ (fun hz2 => ?_)
          · exact HSF.out _ HR5.out
          clear hK K hz1
          try simp only [Act.put, List.setIfInBounds_toArray, List.set_cons_zero, List.set_cons_succ]
          refine wpAnyH_ready (rs := [13]) (by kernel_rfl) (by simp) ?_
          refine AllReadyH.cons (o := { dst := some 56, op := Go.Op.call { callee := Go.Callee.builtin Go.Builtin.append, args := #[Go.Operand.tmp 44, Go.Operand.tmp 55], argTypes := #[22, 22] }, type := 22, pos := "ref.go:144", after := #[{ on := 1, ground := Go.Ground.data }, { on := 12, ground := Go.Ground.data }], guard := none }) rfl (fun K hK => ?_) AllReadyH.nil
          refine step_append_runI rfl _ _ 22 22 rfl _ _ rfl rfl HRUN.out ?_
          refine hK.out _ _ ?_ (fun hz3 => ?_)
          · exact HSF.out _ HR7.out
          clear hK K
          try simp only [Act.put, List.setIfInBounds_toArray, List.set_cons_zero, List.set_cons_succ]
          refine wpAnyH_take (i := 14) (oi := { dst := some 57, op := Go.Op.fieldAddr 24 (Go.Operand.tmp 5) 1, type := 0, pos := "ref.go:144", after := #[{ on := 0, ground := Go.Ground.phase }, { on := 1, ground := Go.Ground.phase }, { on := 2, ground := Go.Ground.phase }, { on := 3, ground := Go.Ground.phase }, { on := 4, ground := Go.Ground.phase }, { on := 5, ground := Go.Ground.phase }, { on := 6, ground := Go.Ground.phase }, { on := 7, ground := Go.Ground.phase }, { on := 8, ground := Go.Ground.phase }, { on := 9, ground := Go.Ground.phase }, { on := 10, ground := Go.Ground.phase }, { on := 11, ground := Go.Ground.phase }, { on := 12, ground := Go.Ground.phase }, { on := 13, ground := Go.Ground.phase }], guard := none }) (v := ?_) rfl (by kernel_rfl) (by kernel_rfl) (by kernel_rfl) (fun _ _ _ h => h) (Or.inl ⟨by rfl, ?_⟩) (by assumption) ?_
          rotate_left
          · (intro w hSw; (try dsimp only at hSw); go_simp) <;> with_reducible rfl
          simp only [Act.put, List.setIfInBounds_toArray, List.set_cons_zero, List.set_cons_succ]
          refine wpAnyH_ready (rs := [15]) (by kernel_rfl) (by simp) ?_
          refine AllReadyH.cons (o := { dst := none, op := Go.Op.store 22 (Go.Operand.tmp 57) (Go.Operand.tmp 56), type := 0, pos := "ref.go:144", after := #[{ on := 14, ground := Go.Ground.data }, { on := 13, ground := Go.Ground.data }, { on := 13, ground := Go.Ground.chain }, { on := 0, ground := Go.Ground.phase }, { on := 1, ground := Go.Ground.phase }, { on := 2, ground := Go.Ground.phase }, { on := 3, ground := Go.Ground.phase }, { on := 4, ground := Go.Ground.phase }, { on := 5, ground := Go.Ground.phase }, { on := 6, ground := Go.Ground.phase }, { on := 7, ground := Go.Ground.phase }, { on := 8, ground := Go.Ground.phase }, { on := 9, ground := Go.Ground.phase }, { on := 10, ground := Go.Ground.phase }, { on := 11, ground := Go.Ground.phase }, { on := 12, ground := Go.Ground.phase }, { on := 13, ground := Go.Ground.phase }], guard := none }) rfl (fun K hK => ?_) AllReadyH.nil
          go_simp
          refine hK.out _ _ ?_ (fun hz4 => ?_)
          · exact HSF.out _ HR8.out
          clear hK K hz3
          try simp only [Act.put, List.setIfInBounds_toArray, List.set_cons_zero, List.set_cons_succ]
          refine wpAnyH_done (by kernel_rfl) ?_ _
          refine NoPanic.normal ?_
          go_wp2
          go_roundw
          case rel => exact ⟨k + 1, _, by omega, by go_num, HC7⟩
          case measure => simp [intOf]; omega
        refine AllReadyH.cons (o := { dst := some 55, op := Go.Op.buildSlice 22 1 #[(0, Go.Operand.tmp 54)], type := 22, pos := "ref.go:144", after := #[{ on := 11, ground := Go.Ground.data }], guard := none }) rfl (fun K hK => ?_) AllReadyH.nil
        go_simp
        refine hK.out _ _ ?_ (fun hz1 => ?_)
        · exact HSF.out _ HR5.out
        clear hK K hHeld
        try simp only [Act.put, List.setIfInBounds_toArray, List.set_cons_zero, List.set_cons_succ]
        refine wpAnyH_ready (rs := [1]) (by kernel_rfl) (by simp) ?_
        refine AllReadyH.cons (o := { dst := some 44, op := Go.Op.load 22 (Go.Operand.tmp 43), type := 22, pos := "ref.go:144", after := #[{ on := 0, ground := Go.Ground.data }], guard := none }) rfl (fun K hK => ?_) AllReadyH.nil
        go_simp
        refine hK.out _ _ ?_ (fun hz2 => ?_)
        · exact HSF.out _ HR5.out
        clear hK K hz1
        try simp only [Act.put, List.setIfInBounds_toArray, List.set_cons_zero, List.set_cons_succ]
        refine wpAnyH_ready (rs := [13]) (by kernel_rfl) (by simp) ?_
        refine AllReadyH.cons (o := { dst := some 56, op := Go.Op.call { callee := Go.Callee.builtin Go.Builtin.append, args := #[Go.Operand.tmp 44, Go.Operand.tmp 55], argTypes := #[22, 22] }, type := 22, pos := "ref.go:144", after := #[{ on := 1, ground := Go.Ground.data }, { on := 12, ground := Go.Ground.data }], guard := none }) rfl (fun K hK => ?_) AllReadyH.nil
        refine step_append_runI rfl _ _ 22 22 rfl _ _ rfl rfl HRUN.out ?_
        refine hK.out _ _ ?_ (fun hz3 => ?_)
        · exact HSF.out _ HR7.out
        clear hK K
        try simp only [Act.put, List.setIfInBounds_toArray, List.set_cons_zero, List.set_cons_succ]
        refine wpAnyH_take (i := 14) (oi := { dst := some 57, op := Go.Op.fieldAddr 24 (Go.Operand.tmp 5) 1, type := 0, pos := "ref.go:144", after := #[{ on := 0, ground := Go.Ground.phase }, { on := 1, ground := Go.Ground.phase }, { on := 2, ground := Go.Ground.phase }, { on := 3, ground := Go.Ground.phase }, { on := 4, ground := Go.Ground.phase }, { on := 5, ground := Go.Ground.phase }, { on := 6, ground := Go.Ground.phase }, { on := 7, ground := Go.Ground.phase }, { on := 8, ground := Go.Ground.phase }, { on := 9, ground := Go.Ground.phase }, { on := 10, ground := Go.Ground.phase }, { on := 11, ground := Go.Ground.phase }, { on := 12, ground := Go.Ground.phase }, { on := 13, ground := Go.Ground.phase }], guard := none }) (v := ?_) rfl (by kernel_rfl) (by kernel_rfl) (by kernel_rfl) (fun _ _ _ h => h) (Or.inl ⟨by rfl, ?_⟩) (by assumption) ?_
        rotate_left
        · (intro w hSw; (try dsimp only at hSw); go_simp) <;> with_reducible rfl
        simp only [Act.put, List.setIfInBounds_toArray, List.set_cons_zero, List.set_cons_succ]
        refine wpAnyH_ready (rs := [15]) (by kernel_rfl) (by simp) ?_
        refine AllReadyH.cons (o := { dst := none, op := Go.Op.store 22 (Go.Operand.tmp 57) (Go.Operand.tmp 56), type := 0, pos := "ref.go:144", after := #[{ on := 14, ground := Go.Ground.data }, { on := 13, ground := Go.Ground.data }, { on := 13, ground := Go.Ground.chain }, { on := 0, ground := Go.Ground.phase }, { on := 1, ground := Go.Ground.phase }, { on := 2, ground := Go.Ground.phase }, { on := 3, ground := Go.Ground.phase }, { on := 4, ground := Go.Ground.phase }, { on := 5, ground := Go.Ground.phase }, { on := 6, ground := Go.Ground.phase }, { on := 7, ground := Go.Ground.phase }, { on := 8, ground := Go.Ground.phase }, { on := 9, ground := Go.Ground.phase }, { on := 10, ground := Go.Ground.phase }, { on := 11, ground := Go.Ground.phase }, { on := 12, ground := Go.Ground.phase }, { on := 13, ground := Go.Ground.phase }], guard := none }) rfl (fun K hK => ?_) AllReadyH.nil
        go_simp
        refine hK.out _ _ ?_ (fun hz4 => ?_)
        · exact HSF.out _ HR8.out
        clear hK K hz3
        try simp only [Act.put, List.setIfInBounds_toArray, List.set_cons_zero, List.set_cons_succ]
        refine wpAnyH_done (by kernel_rfl) ?_ _
        refine NoPanic.normal ?_
        go_wp2
        go_roundw
        case rel => exact ⟨k + 1, _, by omega, by go_num, HC7⟩
        case measure => simp [intOf]; omega
    · have HF : Hid ((crFs keep fs).take k = crFs keep fs) := Lib.hid (List.take_of_length_le (by rw [crs_len]; have := HL.out; omega))
      have HLC : Hid ((crFs keep fs).length = L) := Lib.hid (by rw [crs_len]; exact HL.out.symm)
      obtain ⟨aV, cV, rfl, -⟩ := owns_form HC.out.own
      rw [HF.out, HLC.out] at HC
      have HC2 := Lib.hid HC.out
      have r0 := HC.out.box.cell (i := 0) rfl
      have r1 := HC.out.box.cell (i := 1) rfl
      have r2 := HC.out.box.cell (i := 2) rfl
      have r3 := HC.out.box.cell (i := 3) rfl
      have k0 := HC.out.res.cell (i := 0) rfl
      have k1 := HC.out.res.cell (i := 1) rfl
      have k2 := HC.out.res.cell (i := 2) rfl
      have k3 := HC.out.res.cell (i := 3) rfl
      have tk0 := HC.out.res.thaw 0
      have tk1 := HC.out.res.thaw 1
      have tk2 := HC.out.res.thaw 2
      have tk3 := HC.out.res.thaw 3
      have HBP := Lib.hid (put4_but wr (w.heap.size + 1) (.int .i64 rm) (.slice aV L cV) (.int .i64 (-1)) (.bool false))
      have R9 := put4_row HC.out.res (.int .i64 rm) (.slice aV L cV) (.int .i64 (-1)) (.bool false)
      have f0 := R9.cell (i := 0) rfl
      have f1 := R9.cell (i := 1) rfl
      have f2 := R9.cell (i := 2) rfl
      have f3 := R9.cell (i := 3) rfl
      have HS9 : Hid (SlF (put4 wr (w.heap.size + 1) (.int .i64 rm) (.slice aV L cV) (.int .i64 (-1)) (.bool false)) (Old (put4 wr (w.heap.size + 1) (.int .i64 rm) (.slice aV L cV) (.int .i64 (-1)) (.bool false))) (.slice aV L cV) (crFs keep fs)) := Lib.hid (slf_one (Own.sl HC.out.own) HC.out.res HBP.out)
      have HB9 : Hid (Below w.heap.size w (put4 wr (w.heap.size + 1) (.int .i64 rm) (.slice aV L cV) (.int .i64 (-1)) (.bool false))) := Lib.hid (HC.out.low.trans (HBP.out.below (by omega)))
      clear R9
      go_wp2
      exact bodyPost_ret (v := .agg #[.int .i64 rm, .slice aV L cV, .int .i64 (-1), .bool false]) (by simp [results, Try.results17, go_sem, f0, f1, f2, f3]) rfl ⟨aV, cV, rfl, HS9.out, HB9.out⟩
end Go.Proofs.Ytmhdodiipkkjpaa.Dk
