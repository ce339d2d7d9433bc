/- Slices of operations in memory: what came in and what was made. -/
import Derived.Test.YtmagcikaepobiaaDoorDMem
import Derived.Deep.AppendLies
import Derived.Maps.AppendAt
namespace Go.Proofs.YtmagcikaepobiaaDoor.Dl
open Go.RowKit

abbrev opV (x : Opr) : Value := .agg #[.int .i64 x.f, .int .i64 x.n, .string x.t]
/-- The cells of items, one behind the other. -/
def flat : List Opr → List Value
  | [] => []
  | x :: r => .int .i64 x.f :: .int .i64 x.n :: .string x.t :: flat r
theorem flat_length : ∀ xs : List Opr, (flat xs).length = xs.length * 3
  | [] => rfl
  | x :: r => by simp only [flat, List.length_cons, flat_length r]; omega
theorem flat_append : ∀ xs ys : List Opr, flat (xs ++ ys) = flat xs ++ flat ys
  | [], _ => rfl
  | x :: r, ys => by simp only [List.cons_append, flat, flat_append r ys]
theorem flat_get : ∀ {xs : List Opr} {j : Nat} {x : Opr}, xs[j]? = some x → (flat xs)[j * 3]? = some (.int .i64 x.f) ∧ (flat xs)[j * 3 + 1]? = some (.int .i64 x.n) ∧ (flat xs)[j * 3 + 2]? = some (.string x.t)
  | y :: r, 0, x, h => by
    obtain rfl := Option.some.inj h
    exact ⟨rfl, rfl, rfl⟩
  | y :: r, j + 1, x, h => by
    have := flat_get (xs := r) (j := j) (x := x) (by simpa using h)
    rw [show (j + 1) * 3 = j * 3 + 3 by omega]
    simpa [flat] using this
theorem flat_one : ∀ {xs : List Opr}, ∀ u ∈ flat xs, u.oneCell' = true
  | x :: r, u, h => by
    simp only [flat, List.mem_cons] at h
    rcases h with rfl | rfl | rfl | h
    · rfl
    · rfl
    · rfl
    · exact flat_one u h
theorem flat_cell {xs : List Opr} {i : Nat} {u : Value} (h : (flat xs)[i]? = some u) : ∃ j x, xs[j]? = some x ∧ (i = j * 3 ∧ u = .int .i64 x.f ∨ i = j * 3 + 1 ∧ u = .int .i64 x.n ∨ i = j * 3 + 2 ∧ u = .string x.t) := by
  have hlt : i < (flat xs).length := (List.getElem?_eq_some_iff.1 h).1
  rw [flat_length] at hlt
  have hj : xs[i / 3]? = some (xs[i / 3]'(by omega)) := List.getElem?_eq_getElem (by omega)
  obtain ⟨h0, h1, h2⟩ := flat_get hj
  refine ⟨i / 3, _, hj, ?_⟩
  have h3 : i = i / 3 * 3 ∨ i = i / 3 * 3 + 1 ∨ i = i / 3 * 3 + 2 := by omega
  rcases h3 with e | e | e
  · rw [← e, h] at h0; exact .inl ⟨e, Option.some.inj h0⟩
  · rw [← e, h] at h1; exact .inr (.inl ⟨e, Option.some.inj h1⟩)
  · rw [← e, h] at h2; exact .inr (.inr ⟨e, Option.some.inj h2⟩)

/-- The cells of an item at a place. -/
def At3 (w : World) (b o : Nat) (x : Opr) : Prop := w.cell? ⟨b, o, none⟩ = some (.int .i64 x.f) ∧ w.cell? ⟨b, o + 1, none⟩ = some (.int .i64 x.n) ∧ w.cell? ⟨b, o + 2, none⟩ = some (.string x.t)
/-- A slice of items, wherever it lies. -/
def InI (w : World) (a : Option Addr) (xs : List Opr) : Prop :=
  xs ≠ [] → ∃ b off, a = some ⟨b, off, none⟩ ∧ b < w.heap.size ∧ ∀ (j : Nat) (x : Opr), xs[j]? = some x → At3 w b (off + j * 3) x
theorem InI.nil (w : World) (a : Option Addr) : InI w a [] := fun h => absurd rfl h
theorem At3.keep {w w' : World} {b o : Nat} {x : Opr} (h : At3 w b o x) (hk : w'.heap[b]? = w.heap[b]?) : At3 w' b o x :=
  ⟨(World.cell?_of_block (a := ⟨b, o, none⟩) hk).trans h.1, (World.cell?_of_block (a := ⟨b, o + 1, none⟩) hk).trans h.2.1, (World.cell?_of_block (a := ⟨b, o + 2, none⟩) hk).trans h.2.2⟩
theorem InI.below {w w' : World} {a : Option Addr} {xs : List Opr} (h : InI w a xs) (hb : Below w.heap.size w w') : InI w' a xs := fun hx => by
  obtain ⟨b, off, ha, hl, hc⟩ := h hx
  exact ⟨b, off, ha, Nat.lt_of_lt_of_le hl hb.size, fun j x hj => (hc j x hj).keep (hb.block b hl)⟩
theorem InI.same {w w' : World} {a : Option Addr} {xs : List Opr} (h : InI w a xs) (hb : Same w w') : InI w' a xs := fun hx => by
  obtain ⟨b, off, ha, hl, hc⟩ := h hx
  exact ⟨b, off, ha, by rw [hb.heap]; exact hl, fun j x hj => (hc j x hj).keep (by rw [hb.heap])⟩
theorem InI.at_ {w : World} {a : Option Addr} {xs : List Opr} (h : InI w a xs) {j : Nat} {x : Opr} (hx : xs[j]? = some x) : ∃ b off, a = some ⟨b, off, none⟩ ∧ b < w.heap.size ∧ At3 w b (off + j * 3) x := by
  obtain ⟨b, off, ha, hl, hc⟩ := h (by intro e; subst e; simp at hx)
  exact ⟨b, off, ha, hl, hc j x hx⟩
theorem InI.take {w : World} {a : Option Addr} {xs : List Opr} (h : InI w a xs) (k : Nat) : InI w a (xs.take k) := fun hx => by
  obtain ⟨b, off, ha, hl, hc⟩ := h (by intro e; subst e; simp at hx)
  exact ⟨b, off, ha, hl, fun j x hj => hc j x (by
    have hlt := (List.getElem?_eq_some_iff.1 hj).1
    rw [List.length_take] at hlt
    rw [List.getElem?_take, if_pos (by omega)] at hj
    exact hj)⟩
theorem InI.drop {w : World} {b off : Nat} {xs : List Opr} (h : InI w (some ⟨b, off, none⟩) xs) (k : Nat) : InI w (some ⟨b, off + k * 3, none⟩) (xs.drop k) := fun hx => by
  obtain ⟨b', off', ha, hl, hc⟩ := h (by intro e; subst e; simp at hx)
  obtain ⟨rfl, rfl⟩ : b = b' ∧ off = off' := by simpa using ha
  exact ⟨b, off + k * 3, rfl, hl, fun j x hj => by
    rw [List.getElem?_drop] at hj
    rw [show off + k * 3 + j * 3 = off + (k + j) * 3 by omega]
    exact hc (k + j) x hj⟩
theorem InI.cells {w : World} {a : Addr} {xs : List Opr} (h : InI w (some a) xs) : ∀ i u, (flat xs)[i]? = some u → w.cell? (a.add i) = some u := fun i u hu => by
  obtain ⟨j, x, hx, hj⟩ := flat_cell hu
  obtain ⟨b, off, ha, -, h0, h1, h2⟩ := h.at_ hx
  obtain rfl := Option.some.inj ha
  rw [Addr.add_mid]
  rcases hj with ⟨rfl, rfl⟩ | ⟨rfl, rfl⟩ | ⟨rfl, rfl⟩
  · exact h0
  · exact h1
  · exact h2
abbrev Own (w : World) (base : Nat) (v : Value) (xs : List Opr) : Prop := w.ownsRow base 32 3 v xs.length (flat xs)
theorem InI.of_owns {w : World} {base : Nat} {v : Value} {xs : List Opr} (h : Own w base v xs) : ∃ a cap, v = .slice a xs.length cap ∧ xs.length ≤ cap ∧ InI w a xs := by
  rcases h.2 with ⟨rfl, h0⟩ | ⟨g, cap, cur, rfl, hb, hh, hc, -, hs, ht⟩
  · have : xs = [] := List.length_eq_zero_iff.1 (by simpa using h0)
    subst this
    exact ⟨none, 0, rfl, Nat.le_refl _, InI.nil _ _⟩
  · have hcell : ∀ i u, (flat xs)[i]? = some u → w.cell? ⟨g, i, none⟩ = some u := fun i u hu => by
      have hlt := (List.getElem?_eq_some_iff.1 hu).1
      rw [flat_length] at hlt
      rw [← ht, List.getElem?_take, if_pos (by omega), Array.getElem?_toList] at hu
      simp only [World.cell?, hh, hu]
      simp
    refine ⟨_, cap, rfl, hc, fun _ => ⟨g, 0, rfl, (Array.getElem?_eq_some_iff.1 hh).1, fun j x hx => ?_⟩⟩
    obtain ⟨h0, h1, h2⟩ := flat_get hx
    rw [Nat.zero_add]
    exact ⟨hcell _ _ h0, hcell _ _ h1, hcell _ _ h2⟩
theorem infoOp : (Tryd.prog.info? 32).map (fun i => (i.zero, i.size, i.bytes)) = some (some (.agg #[.int .i64 0, .int .i64 0, .string ByteArray.empty]), 3, 32) := by kernel_rfl

/-- Items appended to a row of the call's own, wherever they lie. -/
theorem run_append_its (w : World) (ty : TypeId) (base : Nat) (v : Value) (xs : List Opr) (hown : Own w base v xs) (a : Option Addr) (c : Nat) (ys : List Opr) (hin : InI w a ys) (h63 : xs.length + ys.length ≤ 1000000) (hbase : base ≤ w.heap.size) :
    ∃ v' w', (Builtin.append_ #[22, 22] ty #[v, .slice a ys.length c]).run Tryd.prog w = .ok v' w' ∧ Own w' base v' (xs ++ ys) ∧ w.grownBy w' v.ownBlock := by
  obtain ⟨i0, hi, hz0, hz1, hz2⟩ := info_parts infoOp
  cases a with
  | none =>
    have hy : ys = [] := by
      cases ys with
      | nil => rfl
      | cons y r => obtain ⟨b, off, ha, -⟩ := hin (by simp); cases ha
    subst hy
    refine ⟨v, w, ?_, by simpa [Own] using hown, World.grownBy.refl w _⟩
    rcases hown.2 with ⟨rfl, h0⟩ | ⟨g, cap, cur, rfl, _, _, hnc, _⟩
    · simp [Builtin.append_, run_underlying Tryd.underlying22, sizeOf, typeInfo, hi, Builtin.lenOf, Builtin.firstCells]
    · simp [Builtin.append_, run_underlying Tryd.underlying22, sizeOf, typeInfo, hi, Builtin.lenOf, Builtin.firstCells, hnc, storeCells]
  | some ad =>
    obtain ⟨v', w', hr, h2, h3, -⟩ := run_append_own_at (P := Tryd.prog) w base 22 ty 32 i0 _ 3 32 Tryd.underlying22 hi hz0 hz1 hz2 rfl (by decide) v xs.length (flat xs) hown ad ys.length c (flat ys) (flat_length ys) hin.cells flat_one (by unfold maxLen; omega) (by omega) hbase
    exact ⟨v', w', hr, by unfold Own; rw [flat_append, List.length_append]; exact h2, h3⟩
end Go.Proofs.YtmagcikaepobiaaDoor.Dl
