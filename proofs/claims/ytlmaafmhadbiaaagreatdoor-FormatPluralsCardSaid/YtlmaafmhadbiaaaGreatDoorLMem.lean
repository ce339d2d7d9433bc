/- Slices of strings in memory, and the blocks that stand. -/
import Derived.Test.YtlmaafmhadbiaaaGreatDoorLFn
import Derived.Test.YtlmaafmhadbiaaaGreatDoorShelf
import Derived.WalkKit
import Derived.Lib.Hide
import Derived.Deep.MidRow
import Derived.Lib.UnsafeStr
import Derived.Below
import Derived.Laws.OwnMore
import Derived.Deep.Draws
import Derived.Maps.AppendAt
import Derived.Deep.RegionHeld3
namespace Go.Proofs.YtlmaafmhadbiaaaGreatDoor.Lc
open Go.RowKit

theorem ba_len (s : ByteArray) : s.data.toList.length = s.size := Array.length_toList
theorem ba_ext {a b : ByteArray} (h : a.data.toList = b.data.toList) : a = b := by
  cases a; cases b; congr 1; exact Array.toList_inj.1 h
theorem ret_bool {a b : Bool} (h : a = b) : Ending.returned (.bool a) = .returned (.bool b) := by rw [h]
theorem ret_str {a b : ByteArray} (h : a = b) : Ending.returned (.string a) = .returned (.string b) := by rw [h]
abbrev str (l : List UInt8) : ByteArray := ⟨l.toArray⟩
theorem str_list (l : List UInt8) : (str l).data.toList = l := List.toList_toArray
theorem str_back (s : ByteArray) : str s.data.toList = s := ba_ext (str_list _)
theorem below_drewN {B : Nat} {a w : World} (h : Below B a w) (n : Nat) : Below B a (w.drewN n) := ⟨h.os, h.tape, h.output, h.size, h.block⟩
theorem below1 (w : World) (o : Obj) : Below w.heap.size w (w.alloc o) := (Below.refl _ w).alloc (Nat.le_refl _) o
theorem below_trans {w w1 w2 : World} (h1 : Below w.heap.size w w1) (h2 : Below w1.heap.size w1 w2) : Below w.heap.size w w2 := h1.trans (h2.mono h1.size)
theorem ownsRow_below {w w' : World} {base : Nat} {e : TypeId} {size : Nat} {v : Value} {n : Nat} {xs : List Value} (h : w.ownsRow base e size v n xs) (hb : Below w.heap.size w w') : w'.ownsRow base e size v n xs := by
  refine ⟨h.1, ?_⟩
  rcases h.2 with h0 | ⟨g, cap, cur, hv, hbs, hh, hr⟩
  · exact .inl h0
  · exact .inr ⟨g, cap, cur, hv, hbs, (hb.block g (Array.getElem?_eq_some_iff.1 hh).1).trans hh, hr⟩

/-- The slice's elements are these strings, in a block of the world. -/
def Reads (w : World) (a : Option Addr) (cap : Nat) (xs : List ByteArray) : Prop :=
  xs.length ≤ cap ∧ (xs ≠ [] → ∃ g, a = some ⟨g, 0, none⟩ ∧ g < w.heap.size ∧ ∀ j (h : j < xs.length), w.cell? ⟨g, j, none⟩ = some (.string xs[j]))
theorem Reads.below {w w' : World} {a : Option Addr} {cap : Nat} {xs : List ByteArray} (h : Reads w a cap xs) (hb : Below w.heap.size w w') : Reads w' a cap xs :=
  ⟨h.1, fun hx => by
    obtain ⟨g, ha, hg, hc⟩ := h.2 hx
    exact ⟨g, ha, Nat.lt_of_lt_of_le hg hb.size, fun j hj => (hb.cell (p := ⟨g, j, none⟩) hg).trans (hc j hj)⟩⟩
abbrev strs (xs : List ByteArray) : List Value := xs.map Value.string
theorem reads_of_owns {w : World} {base : Nat} {v : Value} {xs : List ByteArray} (h : w.ownsRow base 9 1 v xs.length (strs xs)) : ∃ a cap, v = .slice a xs.length cap ∧ Reads w a cap xs := by
  rcases h.2 with ⟨rfl, h0⟩ | ⟨g, cap, cur, rfl, hb, hh, hc, -, hs, ht⟩
  · have : xs = [] := List.length_eq_zero_iff.1 h0
    subst this
    exact ⟨none, 0, rfl, Nat.le_refl _, fun h => absurd rfl h⟩
  · refine ⟨_, cap, rfl, hc, fun _ => ⟨g, rfl, (Array.getElem?_eq_some_iff.1 hh).1, fun j hj => ?_⟩⟩
    have h1 : (cur.toList.take (xs.length * 1))[j]? = (xs.map Value.string)[j]? := by rw [ht]
    rw [List.getElem?_take, if_pos (by omega), Array.getElem?_toList] at h1
    simp only [World.cell?, hh, h1]
    simp [List.getElem?_eq_getElem hj]
/-- A fresh block of strings reads as them. -/
theorem reads_new (w : World) (xs : List ByteArray) (t : TypeId) : Reads (w.alloc (.cells (strs xs).toArray t)) (some ⟨w.heap.size, 0, none⟩) xs.length xs :=
  ⟨Nat.le_refl _, fun _ => ⟨w.heap.size, rfl, by simp, fun j hj => by
    have hh : (w.alloc (.cells (strs xs).toArray t)).heap[w.heap.size]? = some (.cells (strs xs).toArray t (0, 0)) := by
      show (w.heap.push _)[w.heap.size]? = _
      simp
    simp only [World.cell?, hh]
    simp [hj]⟩⟩
theorem info9 : (Tryz.prog.info? 9).map (fun i => (i.zero, i.size, i.bytes)) = some (some (.string ByteArray.empty), 1, 16) := by kernel_rfl
theorem ownsRow_succ {w : World} {base : Nat} {e : TypeId} {v : Value} {n : Nat} {xs : List Value} (h : w.ownsRow base e 1 v (n + 1) xs) : ∃ g cap, v = .slice (some ⟨g, 0, none⟩) (n + 1) cap := by
  rcases h.2 with ⟨-, h0⟩ | ⟨g, cap, cur, rfl, -⟩
  · cases h0
  · exact ⟨g, cap, rfl⟩
/-- The variable that the table of strings' search names. -/
def MaxW (m : Int) (w : World) : Prop := w.cell? ⟨0, 0, none⟩ = some (.int .i64 m)
theorem MaxW.below {m : Int} {w w' : World} (h : MaxW m w) (h0 : 0 < w.heap.size) (hb : Below w.heap.size w w') : MaxW m w' := (hb.cell (p := ⟨0, 0, none⟩) h0).trans h
theorem MaxW.pos {m : Int} {w : World} (h : MaxW m w) : 0 < w.heap.size := by
  unfold MaxW at h
  by_cases h0 : w.heap.size = 0
  · have : w.heap[0]? = none := Array.getElem?_eq_none (by omega)
    simp only [World.cell?, this] at h; cases h
  · omega
theorem MaxW.next {m : Int} {w w' : World} (h : MaxW m w) (hb : Below w.heap.size w w') : MaxW m w' := h.below h.pos hb
end Go.Proofs.YtlmaafmhadbiaaaGreatDoor.Lc
