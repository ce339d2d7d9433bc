/- Rows of cells in memory: what a row holds, what keeps it. -/
import Derived.Test.YtmaafhhdbhkplaaDoorRot
import Derived.Deep.MidRow
import Derived.Lib.UnsafeStr
import Derived.Below
import Derived.Deep.Draws
namespace Go.Proofs.YtmaafhhdbhkplaaDoor
open Go.RowKit

/-- Block b is this row. -/
def Row (w : World) (b : Nat) (t : TypeId) (cs : List Value) : Prop := w.heap[b]? = some (.cells cs.toArray t (0, 0))
theorem Row.cell {w : World} {b : Nat} {t : TypeId} {cs : List Value} (h : Row w b t cs) {i : Nat} {v : Value} (hi : cs[i]? = some v) : w.cell? ⟨b, i, none⟩ = some v := by
  simp only [World.cell?, Row] at *
  simp [h, hi]
theorem Row.thaw {w : World} {b : Nat} {t : TypeId} {cs : List Value} (h : Row w b t cs) (i : Nat) : w.frozen? ⟨b, i, none⟩ = false := by
  simp only [World.frozen?, Row] at *
  simp [h]
theorem Row.set {w : World} {b : Nat} {t : TypeId} {cs : List Value} (h : Row w b t cs) (i : Nat) (v : Value) : Row (w.setCell ⟨b, i, none⟩ v) b t (cs.set i v) := by
  unfold Row at *
  simp [World.setCell, Array.getElem?_modify, h]
theorem Row.keep {w w' : World} {b : Nat} {t : TypeId} {cs : List Value} (h : Row w b t cs) (hk : w'.heap[b]? = w.heap[b]?) : Row w' b t cs := hk.trans h
theorem Row.lt {w : World} {b : Nat} {t : TypeId} {cs : List Value} (h : Row w b t cs) : b < w.heap.size := (Array.getElem?_eq_some_iff.1 h).1
theorem Row.below {w w' : World} {b : Nat} {t : TypeId} {cs : List Value} (h : Row w b t cs) (hb : Below w.heap.size w w') : Row w' b t cs := h.keep (hb.block b h.lt)
theorem row_new (w : World) (cs : Array Value) (t : TypeId) : Row (w.alloc (.cells cs t)) w.heap.size t cs.toList := by
  show (w.heap.push _)[w.heap.size]? = _
  simp
theorem Row.alloc {w : World} {b : Nat} {t : TypeId} {cs : List Value} (h : Row w b t cs) (o : Obj) : Row (w.alloc o) b t cs := h.keep (Below.heap_alloc _ _ _ h.lt)
theorem Row.range {w : World} {b : Nat} {t : TypeId} {cs : List Value} (h : Row w b t cs) : w.rangeAt b 0 cs := fun j v hv => by
  rw [Nat.zero_add]; exact h.cell hv
theorem Row.there {w : World} {b : Nat} {t : TypeId} {cs : List Value} (h : Row w b t cs) (o n : Nat) (hn : o + n ≤ cs.length) : w.there b o n := fun j hj =>
  ⟨by rw [h.cell (List.getElem?_eq_getElem (show o + j < cs.length by omega))]; rfl, h.thaw _⟩

/-- w' is w, but for what block g holds. -/
structure But (g : Nat) (w w' : World) : Prop where
  os : w'.os = w.os
  tape : w'.tape = w.tape
  output : w'.output = w.output
  size : w'.heap.size = w.heap.size
  block : ∀ k, k ≠ g → w'.heap[k]? = w.heap[k]?
theorem But.refl (g : Nat) (w : World) : But g w w := ⟨rfl, rfl, rfl, rfl, fun _ _ => rfl⟩
theorem But.set {g : Nat} {w w' : World} (h : But g w w') (i : Nat) (u : Value) : But g w (w'.setCell ⟨g, i, none⟩ u) :=
  ⟨h.os, h.tape, h.output, by simpa [World.setCell] using h.size, fun k hk => (Below.heap_setCell _ _ _ _ hk).trans (h.block k hk)⟩
theorem But.drew {g : Nat} {w w' : World} (h : But g w w') : But g w w'.drew := ⟨h.os, h.tape, h.output, h.size, h.block⟩
theorem But.drewN {g : Nat} {w w' : World} (h : But g w w') (n : Nat) : But g w (w'.drewN n) := ⟨h.os, h.tape, h.output, h.size, h.block⟩
theorem But.trans {g : Nat} {a b c : World} (h : But g a b) (k : But g b c) : But g a c :=
  ⟨k.os.trans h.os, k.tape.trans h.tape, k.output.trans h.output, k.size.trans h.size, fun i hi => (k.block i hi).trans (h.block i hi)⟩
theorem But.below {g B : Nat} {w w' : World} (h : But g w w') (hg : B ≤ g) : Below B w w' := ⟨h.os, h.tape, h.output, Nat.le_of_eq h.size.symm, fun k hk => h.block k (by omega)⟩
theorem But.row {g b : Nat} {w w' : World} (h : But g w w') {t : TypeId} {cs : List Value} (hr : Row w b t cs) (hb : b ≠ g) : Row w' b t cs := hr.keep (h.block b hb)
theorem but_setCells (g : Nat) : ∀ (vs : List Value) (o : Nat) (w : World), But g w (w.setCells g o vs)
  | [], _, w => But.refl g w
  | v :: r, o, w => by rw [World.setCells]; exact ((But.refl g w).set o v).trans (but_setCells g r (o + 1) _)

/-- Some cells of a list written over. -/
def over (cs : List Value) (o : Nat) (vs : List Value) : List Value := cs.take o ++ vs ++ cs.drop (o + vs.length)
theorem over_cons (cs : List Value) (o : Nat) (v : Value) (vs : List Value) (h : o < cs.length) : over (cs.set o v) (o + 1) vs = over cs o (v :: vs) := by
  unfold over
  rw [List.length_cons, show o + (vs.length + 1) = o + 1 + vs.length by omega, List.drop_set, if_pos (by omega), List.take_set, List.take_succ_eq_append_getElem h, List.set_append_right _ _ (by simp; omega)]
  simp [Nat.min_eq_left (Nat.le_of_lt h)]
theorem Row.setCells {b : Nat} {t : TypeId} : ∀ (vs : List Value) (o : Nat) (w : World) (cs : List Value), Row w b t cs → o + vs.length ≤ cs.length → Row (w.setCells b o vs) b t (over cs o vs)
  | [], o, w, cs, h, _ => by
    rw [World.setCells]
    simpa [over] using h
  | v :: r, o, w, cs, h, hl => by
    rw [World.setCells, ← over_cons cs o v r (by simp at hl; omega)]
    exact Row.setCells r (o + 1) _ _ (h.set o v) (by simp at hl ⊢; omega)
theorem over_all (cs vs : List Value) (h : vs.length = cs.length) : over cs 0 vs = vs := by
  simp [over, h]
theorem Row.setAll {w : World} {b : Nat} {t : TypeId} {cs : List Value} (h : Row w b t cs) (vs : List Value) (hl : vs.length = cs.length) : Row (w.setCells b 0 vs) b t vs := by
  have := Row.setCells vs 0 w cs h (by omega)
  rwa [over_all cs vs hl] at this
theorem Row.setArr {w : World} {b : Nat} {t : TypeId} {cs : List Value} (h : Row w b t cs) (vs : List Value) (hl : vs.length = cs.length) : Row (w.setCells b 0 vs.toArray.toList) b t vs := by
  rw [List.toList_toArray]; exact h.setAll vs hl
theorem one_u32s (l : List Int) : (l.map (Value.int .u32)).toArray.all (·.oneCell') = true := all_oneCell_toArray (fun v hv => by
  obtain ⟨x, -, rfl⟩ := List.mem_map.1 hv
  rfl)
theorem one_bytes (l : Bs) : (Lib.byteCells l).toArray.all (·.oneCell') = true := all_oneCell_toArray (fun v hv => by
  obtain ⟨x, -, rfl⟩ := List.mem_map.1 hv
  rfl)

/-- A store of many cells, into a place that has no slot. -/
theorem wpList_store_row {P : Program} {ops : Array Oper} {rest : List Oper} {op : Oper} {a : Act} {w : World} {Q : Exit → Act → World → Prop} (hgd : op.guard = none) (hd : op.dst = none) (ty : TypeId) (x y : Operand) (ho : op.op = .store ty x y)
    (b o : Nat) (cells : Array Value) (hx : a.eval x = .pointer (some ⟨b, o, none⟩)) (hy : a.eval y = .agg cells)
    (ht : w.there b o cells.size) (hi : (P.info? ty).map (·.size) = some cells.size) (h1 : cells.all (·.oneCell') = true)
    (h : wpList P ops Q rest a (w.setCells b o cells.toList)) : wpList P ops Q (op :: rest) a w :=
  wpList_store_mid hgd ty x y ho b o cells hx hy ht hi h1 (by rw [hd]; exact h)

abbrev u32s (l : List Int) : List Value := l.map (Value.int .u32)
theorem u32s_at (l : List Int) (i : Nat) (h : i < l.length) : (u32s l)[i]? = some (.int .u32 (l.getD i 0)) := by
  simp [u32s, h]
theorem u32s_set (l : List Int) (i : Nat) (x : Int) : (u32s l).set i (.int .u32 x) = u32s (l.set i x) := by
  simp [u32s, List.map_set]
theorem bytes_at (l : Bs) (i : Nat) (h : i < l.length) : (Lib.byteCells l)[i]? = some (.int .u8 ((l.getD i 0).toNat : Int)) := by
  simp [Lib.byteCells, h]

/-- w' has the very memory of w. -/
structure Same (w w' : World) : Prop where
  os : w'.os = w.os
  tape : w'.tape = w.tape
  output : w'.output = w.output
  heap : w'.heap = w.heap
theorem Same.refl (w : World) : Same w w := ⟨rfl, rfl, rfl, rfl⟩
theorem Same.drewN {w w' : World} (h : Same w w') (n : Nat) : Same w (w'.drewN n) := ⟨h.os, h.tape, h.output, h.heap⟩
theorem Same.drew {w w' : World} (h : Same w w') : Same w w'.drew := ⟨h.os, h.tape, h.output, h.heap⟩
theorem Same.trans {a b c : World} (h : Same a b) (k : Same b c) : Same a c := ⟨k.os.trans h.os, k.tape.trans h.tape, k.output.trans h.output, k.heap.trans h.heap⟩
theorem Same.row {w w' : World} (h : Same w w') {b : Nat} {t : TypeId} {cs : List Value} (hr : Row w b t cs) : Row w' b t cs := hr.keep (by rw [h.heap])
theorem Same.below {B : Nat} {w w' : World} (h : Same w w') : Below B w w' := ⟨h.os, h.tape, h.output, by rw [h.heap]; exact Nat.le_refl _, fun k _ => by rw [h.heap]⟩
theorem Same.cell {w w' : World} (h : Same w w') (a : Addr) : w'.cell? a = w.cell? a := World.cell?_of_block (by rw [h.heap])
theorem Same.thaw {w w' : World} (h : Same w w') (a : Addr) : w'.frozen? a = w.frozen? a := World.frozen?_of_block (by rw [h.heap])

/-- The table of the rounds' numbers lies in the world. -/
def Tab (w : World) : Prop := ∀ i, i < 64 → w.cell? ⟨0, i, none⟩ = some (.int .u32 (kL.getD i 0))
theorem Tab.pos {w : World} (h : Tab w) : 0 < w.heap.size := World.block_lt_of_cell? w ⟨0, 0, none⟩ (h 0 (by decide))
theorem Tab.keep {w w' : World} (h : Tab w) (hk : w'.heap[0]? = w.heap[0]?) : Tab w' := fun i hi => (World.cell?_of_block (a := ⟨0, i, none⟩) hk).trans (h i hi)
theorem Tab.below {w w' : World} (h : Tab w) (hb : Below w.heap.size w w') : Tab w' := h.keep (hb.block 0 h.pos)

theorem below1 (w : World) (o : Obj) : Below w.heap.size w (w.alloc o) := (Below.refl _ w).alloc (Nat.le_refl _) o
theorem below2 (w : World) (o1 o2 : Obj) : Below w.heap.size w ((w.alloc o1).alloc o2) := (below1 w o1).alloc (by simp) o2
theorem below3 (w : World) (o1 o2 o3 : Obj) : Below w.heap.size w (((w.alloc o1).alloc o2).alloc o3) := (below2 w o1 o2).alloc (by simp; omega) o3
theorem below_drewN {B : Nat} {a w : World} (h : Below B a w) (n : Nat) : Below B a (w.drewN n) := ⟨h.os, h.tape, h.output, h.size, h.block⟩
theorem below_trans {w w1 w2 : World} (h1 : Below w.heap.size w w1) (h2 : Below w1.heap.size w1 w2) : Below w.heap.size w w2 := h1.trans (h2.mono h1.size)
end Go.Proofs.YtmaafhhdbhkplaaDoor
