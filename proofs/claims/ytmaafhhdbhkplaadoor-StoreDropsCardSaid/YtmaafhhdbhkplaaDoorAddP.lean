/- Add: what the call makes of a Hash. -/
import Derived.Test.YtmaafhhdbhkplaaDoorHash
import Derived.WalkSpells
import Derived.Lib.LazyBuf
import Derived.Lib.SlBuf
import Derived.Deep.RegionHeld3
namespace Go.Proofs.YtmaafhhdbhkplaaDoor
open Go.RowKit

/-- 'copy(dst, s)', s a string: as many bytes as both have. -/
theorem run_copy_str {P : Program} (w : World) (dT sT ty elem : TypeId) (b o dLen dCap : Nat) (t : ByteArray)
    (hu : P.underlying dT = some (.slice elem)) (hz : ∀ w, (Go.sizeOf elem).run P w = .ok 1 w) (n : Nat) (hn : Nat.min t.size dLen = n)
    (ht : w.there b o n) :
    (Builtin.copy_ #[dT, sT] ty #[.slice (some ⟨b, o, none⟩) dLen dCap, .string t]).run P w = .ok (goInt n) (w.setCells b o (Lib.byteCells (t.data.toList.take n))) := by
  have hsz : t.data.toList.length = t.size := by simp
  have hle : n ≤ t.size := by rw [← hn]; exact Nat.min_le_left _ _
  have hl : (Lib.byteCells (t.data.toList.take n)).length = n := by rw [bytes_length, List.length_take, hsz]; omega
  have hst := run_storeCells_cells (P := P) b o (Lib.byteCells (t.data.toList.take n)) 0 w (by rw [hl]; intro j hj; simpa using (ht j hj).1) (by rw [hl]; intro j hj; simpa using (ht j hj).2) (by
    intro v hv
    obtain ⟨x, _, rfl⟩ := List.mem_map.1 hv
    rfl)
  simp [Builtin.copy_, run_underlying hu, Builtin.lenOf, Builtin.firstCells, hz, hn]
  rw [show (List.take n (List.map (fun x : UInt8 => Value.int .u8 (x.toNat : Int)) t.data.toList)) = Lib.byteCells (t.data.toList.take n) by simp [Lib.byteCells, List.map_take], hst]
  rfl

/-- All blocks of w but b stand in w' as they stood. -/
structure Nx (b : Nat) (w w' : World) : Prop where
  os : w'.os = w.os
  tape : w'.tape = w.tape
  output : w'.output = w.output
  size : w.heap.size ≤ w'.heap.size
  block : ∀ k, k < w.heap.size → k ≠ b → w'.heap[k]? = w.heap[k]?
theorem Nx.refl (b : Nat) (w : World) : Nx b w w := ⟨rfl, rfl, rfl, Nat.le_refl _, fun _ _ _ => rfl⟩
theorem Nx.trans {b : Nat} {u v w : World} (h : Nx b u v) (k : Nx b v w) : Nx b u w :=
  ⟨k.os.trans h.os, k.tape.trans h.tape, k.output.trans h.output, Nat.le_trans h.size k.size, fun i hi hb => (k.block i (Nat.lt_of_lt_of_le hi h.size) hb).trans (h.block i hi hb)⟩
theorem Nx.of_below {b : Nat} {w w' : World} (h : Below w.heap.size w w') : Nx b w w' := ⟨h.os, h.tape, h.output, h.size, fun k hk _ => h.block k hk⟩
theorem Nx.of_but {b : Nat} {w w' : World} (h : But b w w') : Nx b w w' := ⟨h.os, h.tape, h.output, Nat.le_of_eq h.size.symm, fun k _ hb => h.block k hb⟩
theorem Nx.tab {b : Nat} {w w' : World} (h : Nx b w w') (ht : Tab w) (hb : b ≠ 0) : Tab w' := ht.keep (h.block 0 ht.pos (fun e => hb e.symm))

/-- The text that is added, so far. -/
theorem add_tail {w : World} {b : Nat} {m : Bs} {ws : List Int} {bl : Bs} (h : HashIn w b m ws bl) (c : Bs) (hc : m.length % 64 + c.length ≤ 64) :
    (bl.take (m.length % 64) ++ c ++ bl.drop (m.length % 64 + c.length)).length = 64 ∧ (bl.take (m.length % 64) ++ c ++ bl.drop (m.length % 64 + c.length)).take (m.length % 64 + c.length) = (m ++ c).drop (64 * (m.length / 64)) := by
  have h1 := h.bll
  have h2 := Nat.mod_lt m.length (show 0 < 64 by decide)
  refine ⟨by simp [h1]; omega, ?_⟩
  rw [List.take_append_of_le_length (by simp [h1]; omega), List.take_of_length_le (by simp [h1]; omega), h.tail, List.drop_append_of_le_length (by omega)]
theorem stW_part (m c : Bs) (h : m.length % 64 + c.length < 64) : stW (m ++ c) = stW m := by
  unfold stW
  rw [show (m ++ c).length / 64 = m.length / 64 by rw [List.length_append]; omega]
  exact stN_append kL h0 m c _ (by omega)
theorem stW_full (m c bl : Bs) (h : m.length % 64 + c.length = 64) (hb : bl.length = 64) (ht : bl.take 64 = (m ++ c).drop (64 * (m.length / 64))) : stW (m ++ c) = mixF kL (stW m) bl := by
  unfold stW
  rw [show (m ++ c).length / 64 = m.length / 64 + 1 by rw [List.length_append]; omega, stN, stN_append kL h0 m c _ (by omega), ← ht, List.take_of_length_le (Nat.le_of_eq hb), List.take_of_length_le (Nat.le_of_eq hb)]
theorem hcells_block (n : Nat) (ws : List Int) (bl c : Bs) (r : Nat) (hw : ws.length = 8) (hb : bl.length = 64) (hr : r + c.length ≤ 64) : over (hcells n ws bl) (9 + r) (Lib.byteCells c) = hcells n ws (bl.take r ++ c ++ bl.drop (r + c.length)) := by
  have h1 : (.int .u64 n :: u32s ws : List Value).length = 9 := by simp [hw]
  have h2 : hcells n ws bl = (.int .u64 n :: u32s ws) ++ Lib.byteCells bl := by simp [hcells]
  unfold over
  rw [h2, List.take_append, List.drop_append, h1, List.take_of_length_le (by omega), List.drop_eq_nil_of_le (by omega), bytes_length]
  simp only [hcells, Lib.byteCells, List.map_append, List.map_take, List.map_drop]
  rw [show 9 + r - 9 = r by omega, show 9 + r + c.length - 9 = r + c.length by omega]
  simp
theorem hcells_len (n k : Nat) (ws : List Int) (bl : Bs) : (hcells n ws bl).set 0 (.int .u64 k) = hcells k ws bl := rfl
theorem hcells_words (n : Nat) (ws ws' : List Int) (bl : Bs) (h : ws.length = 8) (h' : ws'.length = 8) : over (hcells n ws bl) 1 (u32s ws') = hcells n ws' bl := by
  unfold over hcells
  simp [h']
  rw [List.drop_left' (by simp [h])]

/-- Many cells are read, in a region's head that only reads. -/
theorem still_load_mid {P : Program} {ops : Array Oper} {rest : List Oper} {o : Oper} {a : Act} {w : World} {Q : Act → Prop} (hgd : o.guard = none) (ty : TypeId) (x : Operand) (ho : o.op = .load ty x)
    (b off : Nat) (hx : a.eval x = .pointer (some ⟨b, off, none⟩)) (cs : List Value) (d : TypeDesc) (hc : w.rangeAt b off cs)
    (hu : P.underlying ty = some d) (hd : d.isRow = true) (hi : (P.info? ty).map (·.size) = some cs.length)
    (h : wpStill P ops w Q rest (a.put o.dst (.agg cs.toArray))) : wpStill P ops w Q (o :: rest) a := by
  have hw : Region.wanted o (yielded ops a.tmps) = true := by simp [Region.wanted, hgd]
  rw [wpStill, if_pos hw]
  unfold Oper.still execOp
  simp only [ho, hx, Instr.loadAt, Instr.sureAddr, Sem.run_bind, Sem.run_pure, Result.andThen_ok, run_loadVar_mid w b off ty cs d hc hu hd hi]
  rw [Oper.stillUpon_value]
  exact h
theorem World.rangeAt_same {w w' : World} (h : Same w w') {b o : Nat} {cs : List Value} (hr : w.rangeAt b o cs) : w'.rangeAt b o cs := fun j v hv => (h.cell _).trans (hr j v hv)
theorem extract_list (s : ByteArray) (i j : Nat) : (s.extract i j).data.toList = (s.data.toList.drop i).take (j - i) := by
  simp [List.take_drop, List.extract_eq_take_drop]
theorem take_drop_str (m : Bs) (s : ByteArray) (n : Nat) (hn : n ≤ s.size) : (m ++ s.data.toList.take n) ++ (s.extract n s.size).data.toList = m ++ s.data.toList := by
  have h : (s.data.toList.drop n).take (s.size - n) = s.data.toList.drop n := List.take_of_length_le (by simp)
  rw [extract_list, h, List.append_assoc, List.take_append_drop]
theorem extract_size (s : ByteArray) (n : Nat) : (s.extract n s.size).size = s.size - n := by
  simp [ByteArray.size_extract]

/-- What stands while a block is mixed in. -/
structure Mixing (w : World) (M b : Nat) (Z : S8) (len : Nat) (BL : Bs) (w' : World) : Prop where
  words : Row w' M 69 (u32s Z.list)
  hash : ∃ ws : List Int, ws.length = 8 ∧ Row w' b 72 (hcells len ws BL)
  tab : Tab w'
  nx : Nx b w w'
section
variable {w w' w'' : World} {M b : Nat} {Z : S8} {len : Nat} {BL : Bs}
theorem Mixing.drew (h : Mixing w M b Z len BL w') : Mixing w M b Z len BL w'.drew := by
  obtain ⟨ws, hw, hr⟩ := h.hash
  exact ⟨h.words.keep rfl, ⟨ws, hw, hr.keep rfl⟩, h.tab.keep rfl, h.nx.trans (.of_below (Same.refl w').drew.below)⟩
theorem Mixing.call (h : Mixing w M b Z len BL w') (hb : Below w'.heap.size w' w'') : Mixing w M b Z len BL w'' := by
  obtain ⟨ws, hw, hr⟩ := h.hash
  exact ⟨h.words.below hb, ⟨ws, hw, hr.below hb⟩, h.tab.below hb, h.nx.trans (.of_below hb)⟩
theorem Mixing.range (h : Mixing w M b Z len BL w') (hb : BL.length = 64) : w'.rangeAt b 9 (Lib.byteCells BL) := by
  obtain ⟨ws, hw, hr⟩ := h.hash
  have h3 : (Lib.byteCells BL).length = 64 := by rw [bytes_length]; exact hb
  have h5 := World.rangeAt_of_block hr 9 64
  have e5 : ((hcells len ws BL).toArray.extract 9 (9 + 64)).toList = Lib.byteCells BL := by
    have h1 : (.int .u64 (len : Int) :: u32s ws : List Value).length = 9 := by simp [hw]
    have h2 : hcells len ws BL = (.int .u64 (len : Int) :: u32s ws) ++ Lib.byteCells BL := by simp [hcells]
    rw [h2]
    simp only [List.extract_toArray, List.extract_eq_take_drop, Nat.add_sub_cancel_left]
    rw [List.drop_left' h1, List.take_of_length_le (Nat.le_of_eq h3)]
  rw [e5] at h5
  exact h5
theorem Mixing.conj {W : World} (h : Mixing w M b Z len BL W) (hb : BL.length = 64) : W.cell? ⟨M, 0, none⟩ = some (.int .u32 Z.a) ∧ W.cell? ⟨M, 1, none⟩ = some (.int .u32 Z.b) ∧ W.cell? ⟨M, 2, none⟩ = some (.int .u32 Z.c) ∧ W.cell? ⟨M, 3, none⟩ = some (.int .u32 Z.d) ∧ W.cell? ⟨M, 4, none⟩ = some (.int .u32 Z.e) ∧ W.cell? ⟨M, 5, none⟩ = some (.int .u32 Z.f) ∧ W.cell? ⟨M, 6, none⟩ = some (.int .u32 Z.g) ∧ W.cell? ⟨M, 7, none⟩ = some (.int .u32 Z.h) ∧ W.rangeAt b 9 (Lib.byteCells BL) ∧ Mixing w M b Z len BL W :=
  ⟨h.words.cell rfl, h.words.cell rfl, h.words.cell rfl, h.words.cell rfl, h.words.cell rfl, h.words.cell rfl, h.words.cell rfl, h.words.cell rfl, h.range hb, h⟩
theorem Mixing.store {W : World} (h : Mixing w M b Z len BL W) (hb : BL.length = 64) (Y : List Int) (hY : Y.length = 8) : (storeCells ⟨b, 1, none⟩ (u32s Y) 0).run Tryd.prog W = .ok () (W.setCells b 1 (u32s Y)) := by
  obtain ⟨ws, hw, hr⟩ := h.hash
  have ht : W.there b 1 8 := hr.there 1 8 (by rw [hcells_length, hw, hb]; omega)
  have hl : (u32s Y).length = 8 := by simp [hY]
  have := run_storeCells_cells (P := Tryd.prog) b 1 (u32s Y) 0 W (by rw [hl]; intro j hj; simpa using (ht j hj).1) (by rw [hl]; intro j hj; simpa using (ht j hj).2) (by
    intro v hv
    obtain ⟨x, -, rfl⟩ := List.mem_map.1 hv
    rfl)
  simpa using this
theorem Mixing.row {W : World} (h : Mixing w M b Z len BL W) (hb : BL.length = 64) (Y : List Int) (hY : Y.length = 8) : Row (W.setCells b 1 (u32s Y)) b 72 (hcells len Y BL) := by
  obtain ⟨ws, hw, hr⟩ := h.hash
  have hl : (u32s Y).length = 8 := by simp [hY]
  have h7 := Row.setCells (u32s Y) 1 W _ hr (by rw [hl, hcells_length, hw, hb]; omega)
  rw [hcells_words _ ws Y BL hw hY] at h7
  exact h7
theorem Mixing.stored {W : World} (h : Mixing w M b Z len BL W) (hb : BL.length = 64) (Y : List Int) (hY : Y.length = 8) (hbM : M ≠ b) (hb0 : b ≠ 0) : Mixing w M b Z len BL (W.setCells b 1 (u32s Y)) :=
  ⟨(but_setCells _ _ _ _).row h.words hbM, ⟨Y, hY, h.row hb Y hY⟩, h.tab.keep ((but_setCells _ _ _ _).block 0 (fun e => hb0 e.symm)), h.nx.trans (.of_but (but_setCells _ _ _ _))⟩
end

end Go.Proofs.YtmaafhhdbhkplaaDoor
