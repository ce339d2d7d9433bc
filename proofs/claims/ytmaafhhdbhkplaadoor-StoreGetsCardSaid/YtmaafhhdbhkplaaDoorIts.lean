/- Slices of items in memory: what came in and what was made; a store that grows. -/
import Derived.Test.YtmaafhhdbhkplaaDoorLst
import Derived.Deep.AppendLies
import Derived.Maps.AppendAt
namespace Go.Proofs.YtmaafhhdbhkplaaDoor
open Go.RowKit

abbrev itV (x : Itm) : Value := .agg #[.string x.k, .string x.b, .int .i64 x.r]
/-- The cells of items, one behind the other. -/
def flat : List Itm → List Value
  | [] => []
  | x :: r => .string x.k :: .string x.b :: .int .i64 x.r :: flat r
theorem flat_length : ∀ xs : List Itm, (flat xs).length = xs.length * 3
  | [] => rfl
  | x :: r => by simp only [flat, List.length_cons, flat_length r]; omega
theorem flat_append : ∀ xs ys : List Itm, flat (xs ++ ys) = flat xs ++ flat ys
  | [], _ => rfl
  | x :: r, ys => by simp only [List.cons_append, flat, flat_append r ys]
theorem flat_get : ∀ {xs : List Itm} {j : Nat} {x : Itm}, xs[j]? = some x → (flat xs)[j * 3]? = some (.string x.k) ∧ (flat xs)[j * 3 + 1]? = some (.string x.b) ∧ (flat xs)[j * 3 + 2]? = some (.int .i64 x.r)
  | y :: r, 0, x, h => by
    obtain rfl := Option.some.inj h
    exact ⟨rfl, rfl, rfl⟩
  | y :: r, j + 1, x, h => by
    have := flat_get (xs := r) (j := j) (x := x) (by simpa using h)
    rw [show (j + 1) * 3 = j * 3 + 3 by omega]
    simpa [flat] using this
theorem flat_one : ∀ {xs : List Itm}, ∀ u ∈ flat xs, u.oneCell' = true
  | x :: r, u, h => by
    simp only [flat, List.mem_cons] at h
    rcases h with rfl | rfl | rfl | h
    · rfl
    · rfl
    · rfl
    · exact flat_one u h
theorem flat_cell {xs : List Itm} {i : Nat} {u : Value} (h : (flat xs)[i]? = some u) : ∃ j x, xs[j]? = some x ∧ (i = j * 3 ∧ u = .string x.k ∨ i = j * 3 + 1 ∧ u = .string x.b ∨ i = j * 3 + 2 ∧ u = .int .i64 x.r) := by
  have hlt : i < (flat xs).length := (List.getElem?_eq_some_iff.1 h).1
  rw [flat_length] at hlt
  have hj : xs[i / 3]? = some (xs[i / 3]'(by omega)) := List.getElem?_eq_getElem (by omega)
  obtain ⟨h0, h1, h2⟩ := flat_get hj
  refine ⟨i / 3, _, hj, ?_⟩
  have h3 : i = i / 3 * 3 ∨ i = i / 3 * 3 + 1 ∨ i = i / 3 * 3 + 2 := by omega
  rcases h3 with e | e | e
  · rw [← e, h] at h0; exact .inl ⟨e, Option.some.inj h0⟩
  · rw [← e, h] at h1; exact .inr (.inl ⟨e, Option.some.inj h1⟩)
  · rw [← e, h] at h2; exact .inr (.inr ⟨e, Option.some.inj h2⟩)

/-- The cells of an item at a place. -/
def At3 (w : World) (b o : Nat) (x : Itm) : Prop := w.cell? ⟨b, o, none⟩ = some (.string x.k) ∧ w.cell? ⟨b, o + 1, none⟩ = some (.string x.b) ∧ w.cell? ⟨b, o + 2, none⟩ = some (.int .i64 x.r)
/-- A slice of items, wherever it lies. -/
def InI (w : World) (a : Option Addr) (xs : List Itm) : Prop :=
  xs ≠ [] → ∃ b off, a = some ⟨b, off, none⟩ ∧ b < w.heap.size ∧ ∀ (j : Nat) (x : Itm), xs[j]? = some x → At3 w b (off + j * 3) x
theorem InI.nil (w : World) (a : Option Addr) : InI w a [] := fun h => absurd rfl h
theorem At3.keep {w w' : World} {b o : Nat} {x : Itm} (h : At3 w b o x) (hk : w'.heap[b]? = w.heap[b]?) : At3 w' b o x :=
  ⟨(World.cell?_of_block (a := ⟨b, o, none⟩) hk).trans h.1, (World.cell?_of_block (a := ⟨b, o + 1, none⟩) hk).trans h.2.1, (World.cell?_of_block (a := ⟨b, o + 2, none⟩) hk).trans h.2.2⟩
theorem InI.below {w w' : World} {a : Option Addr} {xs : List Itm} (h : InI w a xs) (hb : Below w.heap.size w w') : InI w' a xs := fun hx => by
  obtain ⟨b, off, ha, hl, hc⟩ := h hx
  exact ⟨b, off, ha, Nat.lt_of_lt_of_le hl hb.size, fun j x hj => (hc j x hj).keep (hb.block b hl)⟩
theorem InI.same {w w' : World} {a : Option Addr} {xs : List Itm} (h : InI w a xs) (hb : Same w w') : InI w' a xs := fun hx => by
  obtain ⟨b, off, ha, hl, hc⟩ := h hx
  exact ⟨b, off, ha, by rw [hb.heap]; exact hl, fun j x hj => (hc j x hj).keep (by rw [hb.heap])⟩
theorem InI.at_ {w : World} {a : Option Addr} {xs : List Itm} (h : InI w a xs) {j : Nat} {x : Itm} (hx : xs[j]? = some x) : ∃ b off, a = some ⟨b, off, none⟩ ∧ b < w.heap.size ∧ At3 w b (off + j * 3) x := by
  obtain ⟨b, off, ha, hl, hc⟩ := h (by intro e; subst e; simp at hx)
  exact ⟨b, off, ha, hl, hc j x hx⟩
theorem InI.take {w : World} {a : Option Addr} {xs : List Itm} (h : InI w a xs) (k : Nat) : InI w a (xs.take k) := fun hx => by
  obtain ⟨b, off, ha, hl, hc⟩ := h (by intro e; subst e; simp at hx)
  exact ⟨b, off, ha, hl, fun j x hj => hc j x (by
    have hlt := (List.getElem?_eq_some_iff.1 hj).1
    rw [List.length_take] at hlt
    rw [List.getElem?_take, if_pos (by omega)] at hj
    exact hj)⟩
theorem InI.drop {w : World} {b off : Nat} {xs : List Itm} (h : InI w (some ⟨b, off, none⟩) xs) (k : Nat) : InI w (some ⟨b, off + k * 3, none⟩) (xs.drop k) := fun hx => by
  obtain ⟨b', off', ha, hl, hc⟩ := h (by intro e; subst e; simp at hx)
  obtain ⟨rfl, rfl⟩ : b = b' ∧ off = off' := by simpa using ha
  exact ⟨b, off + k * 3, rfl, hl, fun j x hj => by
    rw [List.getElem?_drop] at hj
    rw [show off + k * 3 + j * 3 = off + (k + j) * 3 by omega]
    exact hc (k + j) x hj⟩
theorem InI.cells {w : World} {a : Addr} {xs : List Itm} (h : InI w (some a) xs) : ∀ i u, (flat xs)[i]? = some u → w.cell? (a.add i) = some u := fun i u hu => by
  obtain ⟨j, x, hx, hj⟩ := flat_cell hu
  obtain ⟨b, off, ha, -, h0, h1, h2⟩ := h.at_ hx
  obtain rfl := Option.some.inj ha
  rw [Addr.add_mid]
  rcases hj with ⟨rfl, rfl⟩ | ⟨rfl, rfl⟩ | ⟨rfl, rfl⟩
  · exact h0
  · exact h1
  · exact h2
abbrev Own (w : World) (base : Nat) (v : Value) (xs : List Itm) : Prop := w.ownsRow base 29 3 v xs.length (flat xs)
theorem InI.of_owns {w : World} {base : Nat} {v : Value} {xs : List Itm} (h : Own w base v xs) : ∃ a cap, v = .slice a xs.length cap ∧ xs.length ≤ cap ∧ InI w a xs := by
  rcases h.2 with ⟨rfl, h0⟩ | ⟨g, cap, cur, rfl, hb, hh, hc, -, hs, ht⟩
  · have : xs = [] := List.length_eq_zero_iff.1 (by simpa using h0)
    subst this
    exact ⟨none, 0, rfl, Nat.le_refl _, InI.nil _ _⟩
  · have hcell : ∀ i u, (flat xs)[i]? = some u → w.cell? ⟨g, i, none⟩ = some u := fun i u hu => by
      have hlt := (List.getElem?_eq_some_iff.1 hu).1
      rw [flat_length] at hlt
      rw [← ht, List.getElem?_take, if_pos (by omega), Array.getElem?_toList] at hu
      simp only [World.cell?, hh, hu]
      simp
    refine ⟨_, cap, rfl, hc, fun _ => ⟨g, 0, rfl, (Array.getElem?_eq_some_iff.1 hh).1, fun j x hx => ?_⟩⟩
    obtain ⟨h0, h1, h2⟩ := flat_get hx
    rw [Nat.zero_add]
    exact ⟨hcell _ _ h0, hcell _ _ h1, hcell _ _ h2⟩
theorem owns_form {w : World} {base : Nat} {v : Value} {e : TypeId} {k n : Nat} {xs : List Value} (h : w.ownsRow base e k v n xs) : ∃ a cap, v = .slice a n cap ∧ n ≤ cap ∧ cap ≤ 9223372036854775807 ∧ (0 < n → ∃ g, a = some ⟨g, 0, none⟩) := by
  rcases h.2 with ⟨rfl, rfl⟩ | ⟨g, cap, cur, rfl, -, -, hc, hm, -⟩
  · exact ⟨none, 0, rfl, Nat.le_refl _, by omega, fun h => by omega⟩
  · exact ⟨_, cap, rfl, hc, by unfold maxLen at hm; exact hm, fun _ => ⟨g, rfl⟩⟩
theorem info29 : (Tryd.prog.info? 29).map (fun i => (i.zero, i.size, i.bytes)) = some (some (.agg #[.string ByteArray.empty, .string ByteArray.empty, .int .i64 0]), 3, 40) := by kernel_rfl

/-- A store in block M that the call makes itself. -/
def OutAt (w : World) (M : Nat) (xs : List Itm) : Prop := ∃ v, Row w M 24 [v] ∧ Own w (M + 1) v xs
theorem out_new (w : World) : OutAt (w.alloc (.cells #[.slice none 0 0] 24)) w.heap.size [] := ⟨_, row_new w #[.slice none 0 0] 24, World.ownsRow_nil _ _ _ _⟩
theorem OutAt.lt {w : World} {M : Nat} {xs : List Itm} (h : OutAt w M xs) : M < w.heap.size := by
  obtain ⟨v, h, -⟩ := h
  exact h.lt
theorem OutAt.below {w w' : World} {M : Nat} {xs : List Itm} (h : OutAt w M xs) (hb : Below w.heap.size w w') : OutAt w' M xs := by
  obtain ⟨v, h1, h2⟩ := h
  exact ⟨v, h1.below hb, ownsRow_below h2 hb⟩
theorem owns_but {w w' : World} {base : Nat} {e : TypeId} {size : Nat} {v : Value} {n : Nat} {xs : List Value} {A : Nat} (h : w.ownsRow base e size v n xs) (hb : But A w w') (hA : A < base) : w'.ownsRow base e size v n xs := by
  refine ⟨h.1, ?_⟩
  rcases h.2 with h0 | ⟨g, cap, cur, hv, hbs, hh, hr⟩
  · exact .inl h0
  · exact .inr ⟨g, cap, cur, hv, hbs, (hb.block g (by omega)).trans hh, hr⟩
theorem OutAt.form {w : World} {M : Nat} {xs : List Itm} (h : OutAt w M xs) : ∃ a cap, Row w M 24 [.slice a xs.length cap] ∧ Own w (M + 1) (.slice a xs.length cap) xs := by
  obtain ⟨v, h1, h2⟩ := h
  obtain ⟨a, cap, rfl, -⟩ := owns_form h2
  exact ⟨a, cap, h1, h2⟩
/-- An item more, in the row that the append left. -/
theorem out_step {w w2 : World} {M : Nat} {xs : List Itm} {x : Itm} {a : Option Addr} {cap g cap' : Nat} {o : Obj} (hrow : Row w M 24 [.slice a xs.length cap]) (hown : Own w (M + 1) (.slice a xs.length cap) xs)
    (hown' : w2.ownsRow (M + 1) 29 3 (.slice (some ⟨g, 0, none⟩) (xs.length + 1) cap') (xs.length + 1) (flat xs ++ [.string x.k, .string x.b, .int .i64 x.r])) (hgrow : (w.alloc o).grownBy w2 (Value.slice a xs.length cap).ownBlock) :
    w2.cell? ⟨M, 0, none⟩ = some (.slice a xs.length cap) ∧ w2.frozen? ⟨M, 0, none⟩ = false ∧ Hid (OutAt (w2.setCell ⟨M, 0, none⟩ (.slice (some ⟨g, 0, none⟩) (xs.length + 1) cap')) M (xs ++ [x])) ∧ Hid (Below M w (w2.setCell ⟨M, 0, none⟩ (.slice (some ⟨g, 0, none⟩) (xs.length + 1) cap'))) := by
  have hlt := hrow.lt
  have hM2 : w2.heap[M]? = w.heap[M]? := by
    rw [hgrow.block M (by simp; omega) (fun e => by have := (hown.lt M e.symm).1; omega)]
    exact Below.heap_alloc _ _ _ hlt
  have hR2 : Row w2 M 24 [.slice a xs.length cap] := hrow.keep hM2
  have hbut : But M w2 (w2.setCell ⟨M, 0, none⟩ (.slice (some ⟨g, 0, none⟩) (xs.length + 1) cap')) := (But.refl M w2).set 0 _
  refine ⟨hR2.cell rfl, hR2.thaw 0, Lib.hid ⟨_, hR2.set 0 _, ?_⟩, Lib.hid ?_⟩
  · have := owns_but hown' hbut (by omega)
    unfold Own
    rw [flat_append]
    simpa [flat] using this
  · have hsz : w.heap.size + 1 ≤ w2.heap.size := by have := hgrow.size; simpa using this
    refine ⟨hgrow.os, hgrow.tape, hgrow.output, by rw [hbut.size]; omega, fun h hh => ?_⟩
    rw [hbut.block h (by omega), hgrow.block h (by simp; omega) (fun e => by have := (hown.lt h e.symm).1; omega)]
    exact Below.heap_alloc _ _ _ (by omega)
/-- The cells of one item, laid by a literal. -/
theorem cell_new3 (w : World) (x y z : Value) (t : TypeId) : ∀ j v, [x, y, z][j]? = some v → (w.alloc (.cells #[x, y, z] t)).cell? (Addr.add ⟨w.heap.size, 0, none⟩ j) = some v := fun j v hv => by
  rw [Addr.add_mid, Nat.zero_add]
  exact (row_new w #[x, y, z] t).cell hv

/-- Items appended to a row of the call's own, wherever they lie. -/
theorem run_append_its (w : World) (ty : TypeId) (base : Nat) (v : Value) (xs : List Itm) (hown : Own w base v xs) (a : Option Addr) (c : Nat) (ys : List Itm) (hin : InI w a ys) (h63 : xs.length + ys.length ≤ 1000000) (hbase : base ≤ w.heap.size) :
    ∃ v' w', (Builtin.append_ #[22, 22] ty #[v, .slice a ys.length c]).run Tryd.prog w = .ok v' w' ∧ Own w' base v' (xs ++ ys) ∧ w.grownBy w' v.ownBlock := by
  obtain ⟨i0, hi, hz0, hz1, hz2⟩ := info_parts info29
  cases a with
  | none =>
    have hy : ys = [] := by
      cases ys with
      | nil => rfl
      | cons y r => obtain ⟨b, off, ha, -⟩ := hin (by simp); cases ha
    subst hy
    refine ⟨v, w, ?_, by simpa [Own] using hown, World.grownBy.refl w _⟩
    rcases hown.2 with ⟨rfl, h0⟩ | ⟨g, cap, cur, rfl, _, _, hnc, _⟩
    · simp [Builtin.append_, run_underlying Tryd.underlying22, sizeOf, typeInfo, hi, Builtin.lenOf, Builtin.firstCells]
    · simp [Builtin.append_, run_underlying Tryd.underlying22, sizeOf, typeInfo, hi, Builtin.lenOf, Builtin.firstCells, hnc, storeCells]
  | some ad =>
    obtain ⟨v', w', hr, h2, h3, -⟩ := run_append_own_at (P := Tryd.prog) w base 22 ty 29 i0 _ 3 40 Tryd.underlying22 hi hz0 hz1 hz2 rfl (by decide) v xs.length (flat xs) hown ad ys.length c (flat ys) (flat_length ys) hin.cells flat_one (by unfold maxLen; omega) (by omega) hbase
    exact ⟨v', w', hr, by unfold Own; rw [flat_append, List.length_append]; exact h2, h3⟩
end Go.Proofs.YtmaafhhdbhkplaaDoor
