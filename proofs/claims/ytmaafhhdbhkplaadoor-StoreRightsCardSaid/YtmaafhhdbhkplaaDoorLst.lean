/- Slices of strings: what came in and what was made. -/
import Derived.Test.YtmaafhhdbhkplaaDoorItm
import Derived.Test.YtmaafhhdbhkplaaDoorMem
import Derived.WalkSpells
namespace Go.Proofs.YtmaafhhdbhkplaaDoor
open Go.RowKit

abbrev strs (xs : List BA) : List Value := xs.map Value.string
/-- A slice of strings: its elements, wherever they lie. -/
def InS (w : World) (a : Option Addr) (xs : List BA) : Prop :=
  xs ≠ [] → ∃ b off, a = some ⟨b, off, none⟩ ∧ b < w.heap.size ∧ ∀ j (h : j < xs.length), w.cell? ⟨b, off + j, none⟩ = some (.string xs[j])
theorem InS.nil (w : World) (a : Option Addr) : InS w a [] := fun h => absurd rfl h
theorem InS.below {w w' : World} {a : Option Addr} {xs : List BA} (h : InS w a xs) (hb : Below w.heap.size w w') : InS w' a xs := fun hx => by
  obtain ⟨b, off, ha, hl, hc⟩ := h hx
  exact ⟨b, off, ha, Nat.lt_of_lt_of_le hl hb.size, fun j hj => (hb.cell (p := ⟨b, off + j, none⟩) hl).trans (hc j hj)⟩
theorem InS.same {w w' : World} {a : Option Addr} {xs : List BA} (h : InS w a xs) (hb : Same w w') : InS w' a xs := fun hx => by
  obtain ⟨b, off, ha, hl, hc⟩ := h hx
  exact ⟨b, off, ha, by rw [hb.heap]; exact hl, fun j hj => (hb.cell _).trans (hc j hj)⟩
theorem InS.take {w : World} {a : Option Addr} {xs : List BA} (h : InS w a xs) (k : Nat) : InS w a (xs.take k) := fun hx => by
  obtain ⟨b, off, ha, hl, hc⟩ := h (by intro e; subst e; simp at hx)
  exact ⟨b, off, ha, hl, fun j hj => by
    have : j < xs.length := by rw [List.length_take] at hj; omega
    rw [hc j this, List.getElem_take]⟩
theorem InS.drop {w : World} {b off : Nat} {xs : List BA} (h : InS w (some ⟨b, off, none⟩) xs) (k : Nat) : InS w (some ⟨b, off + k, none⟩) (xs.drop k) := fun hx => by
  obtain ⟨b', off', ha, hl, hc⟩ := h (by intro e; subst e; simp at hx)
  obtain ⟨rfl, rfl⟩ : b = b' ∧ off = off' := by simpa using ha
  exact ⟨b, off + k, rfl, hl, fun j hj => by
    have : k + j < xs.length := by rw [List.length_drop] at hj; omega
    rw [Nat.add_assoc, hc (k + j) this, List.getElem_drop]⟩
theorem InS.of_owns {w : World} {base : Nat} {v : Value} {xs : List BA} (h : w.ownsRow base 9 1 v xs.length (strs xs)) : ∃ a cap, v = .slice a xs.length cap ∧ xs.length ≤ cap ∧ InS w a xs := by
  rcases h.2 with ⟨rfl, h0⟩ | ⟨g, cap, cur, rfl, hb, hh, hc, -, hs, ht⟩
  · have : xs = [] := List.length_eq_zero_iff.1 (by simpa using h0)
    subst this
    exact ⟨none, 0, rfl, Nat.le_refl _, InS.nil _ _⟩
  · refine ⟨_, cap, rfl, hc, fun _ => ⟨g, 0, rfl, (Array.getElem?_eq_some_iff.1 hh).1, fun j hj => ?_⟩⟩
    have h1 : (cur.toList.take (xs.length * 1))[j]? = (strs xs)[j]? := by rw [ht]
    rw [List.getElem?_take, if_pos (by omega), Array.getElem?_toList] at h1
    rw [Nat.zero_add]
    simp only [World.cell?, hh, h1]
    simp [List.getElem?_eq_getElem hj]
theorem owns_fresh {w : World} {base : Nat} {a : Option Addr} {n cap : Nat} {xs : List Value} {e : TypeId} {m : Nat} (h : w.ownsRow base e 1 (.slice a n cap) m xs) {b off : Nat} (ha : a = some ⟨b, off, none⟩) : base ≤ b := by
  subst ha
  exact (h.lt b rfl).1
theorem owns_cap {w : World} {base : Nat} {a : Option Addr} {n cap : Nat} {xs : List Value} {e : TypeId} {m : Nat} (h : w.ownsRow base e 1 (.slice a n cap) m xs) : cap ≤ 9223372036854775807 := by
  rcases h.2 with ⟨h0, -⟩ | ⟨g, cap', cur, hv, -, -, -, hm, -⟩
  · injection h0 with _ _ h1
    omega
  · injection hv with _ _ h1
    unfold maxLen at hm
    omega
theorem ownsRow_below {w w' : World} {base : Nat} {e : TypeId} {size : Nat} {v : Value} {n : Nat} {xs : List Value} (h : w.ownsRow base e size v n xs) (hb : Below w.heap.size w w') : w'.ownsRow base e size v n xs := by
  refine ⟨h.1, ?_⟩
  rcases h.2 with h0 | ⟨g, cap, cur, hv, hbs, hh, hr⟩
  · exact .inl h0
  · exact .inr ⟨g, cap, cur, hv, hbs, (hb.block g (Array.getElem?_eq_some_iff.1 hh).1).trans hh, hr⟩
theorem ownsRow_succ {w : World} {base : Nat} {e : TypeId} {v : Value} {n : Nat} {xs : List Value} (h : w.ownsRow base e 1 v (n + 1) xs) : ∃ g cap, v = .slice (some ⟨g, 0, none⟩) (n + 1) cap := by
  rcases h.2 with ⟨-, h0⟩ | ⟨g, cap, cur, rfl, -⟩
  · cases h0
  · exact ⟨g, cap, rfl⟩
theorem ownsRow_form {w : World} {base : Nat} {e : TypeId} {v : Value} {n : Nat} {xs : List Value} (h : w.ownsRow base e 1 v n xs) : ∃ a cap, v = .slice a n cap := by
  rcases h.2 with ⟨rfl, rfl⟩ | ⟨g, cap, cur, rfl, -⟩
  · exact ⟨_, _, rfl⟩
  · exact ⟨_, _, rfl⟩
theorem info9 : (Tryd.prog.info? 9).map (fun i => (i.zero, i.size, i.bytes)) = some (some (.string ByteArray.empty), 1, 16) := by kernel_rfl
theorem cell_new1 (w : World) (x : Value) (t : TypeId) : ∀ j v, [x][j]? = some v → (w.alloc (.cells #[x] t)).cell? (Addr.add ⟨w.heap.size, 0, none⟩ j) = some v := fun j v hv => by
  cases j with
  | zero =>
    obtain rfl := Option.some.inj hv
    rw [Addr.add_mid]
    exact (row_new w #[x] t).cell rfl
  | succ j => cases hv
end Go.Proofs.YtmaafhhdbhkplaaDoor
