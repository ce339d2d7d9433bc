/- Entries in memory: slices of them, rows of the call's own. -/
import Derived.Test.YtmhdodiipkkjpaaDm
import Derived.Maps.AppendAt
import Derived.Lib.AppendZerosOnto
import Derived.Lib.SliceRun
namespace Go.Proofs.Ytmhdodiipkkjpaa.Dk
open Go.RowKit

/-- The cells of an entry. -/
def CF (x : Fil) (cs : List Value) : Prop := cs = [.string x.nm, .string x.sy, .string x.tl]
abbrev fiV (x : Fil) : Value := .agg #[.string x.nm, .string x.sy, .string x.tl]
abbrev fiC (x : Fil) : Array Value := #[.string x.nm, .string x.sy, .string x.tl]
abbrev SlF (w : World) (S : Nat → Prop) (v : Value) (xs : List Fil) : Prop := Sl 3 CF w S v xs
theorem SlF.old {w w' : World} {v : Value} {xs : List Fil} (h : SlF w (Old w) v xs) (hb : Below w.heap.size w w') : SlF w' (Old w') v xs := Sl.keep h (fun b hb2 => hb.block b hb2) (fun _ h => Nat.lt_of_lt_of_le h hb.size) (fun _ _ h => h)
theorem SlF.same {w w' : World} {v : Value} {xs : List Fil} (h : SlF w (Old w) v xs) (hb : Same w w') : SlF w' (Old w') v xs := h.old hb.below
theorem At.f {w : World} {b o : Nat} {x : Fil} (h : At 3 CF w b o x) : w.cell? ⟨b, o, none⟩ = some (.string x.nm) ∧ w.cell? ⟨b, o + 1, none⟩ = some (.string x.sy) ∧ w.cell? ⟨b, o + 2, none⟩ = some (.string x.tl) := by
  obtain ⟨cs, -, rfl, hc⟩ := h
  exact ⟨hc 0 _ rfl, hc 1 _ rfl, hc 2 _ rfl⟩
theorem SlF.len {w : World} {S : Nat → Prop} {a : Option Addr} {n cap : Nat} {xs : List Fil} (h : SlF w S (.slice a n cap) xs) : n = xs.length ∧ xs.length ≤ cap ∧ cap ≤ 9223372036854775807 := by
  obtain ⟨a', cap', hv, h1, h2, -⟩ := h
  injection hv with _ h3 h4
  exact ⟨h3, by omega, by omega⟩
/-- An entry of a slice. -/
theorem SlF.get {w : World} {S : Nat → Prop} {a : Option Addr} {n cap : Nat} {xs : List Fil} (h : SlF w S (.slice a n cap) xs) {j : Nat} {x : Fil} (hx : xs[j]? = some x) :
    ∃ b off, a = some ⟨b, off, none⟩ ∧ S b ∧ w.cell? ⟨b, off + j * 3, none⟩ = some (.string x.nm) ∧ w.cell? ⟨b, off + j * 3 + 1, none⟩ = some (.string x.sy) ∧ w.cell? ⟨b, off + j * 3 + 2, none⟩ = some (.string x.tl) := by
  obtain ⟨a', cap', hv, h1, h2, h3⟩ := h
  injection hv with h4 _ _
  subst h4
  obtain ⟨b, off, ha, hb, hat⟩ := h3 (fun e => by subst e; simp at hx)
  exact ⟨b, off, ha, hb, At.f (hat j x hx)⟩
/-- The first few. -/
theorem SlF.take {w : World} {S : Nat → Prop} {a : Option Addr} {n cap : Nat} {xs : List Fil} (h : SlF w S (.slice a n cap) xs) (k : Nat) (hk : k ≤ xs.length) : SlF w S (.slice a k cap) (xs.take k) := by
  obtain ⟨a', cap', hv, h1, h2, h3⟩ := h
  injection hv with h4 _ h5
  subst h4 h5
  refine ⟨a, cap, by rw [List.length_take, Nat.min_eq_left hk], by rw [List.length_take]; omega, h2, fun hne => ?_⟩
  obtain ⟨b, off, ha, hb, hat⟩ := h3 (fun e => by subst e; simp at hne)
  refine ⟨b, off, ha, hb, fun j x hj => hat j x ?_⟩
  have hlt := (List.getElem?_eq_some_iff.1 hj).1
  rw [List.length_take] at hlt
  rw [List.getElem?_take, if_pos (by omega)] at hj
  exact hj

/-- The cells of entries, one behind the other. -/
def flat : List Fil → List Value
  | [] => []
  | x :: r => .string x.nm :: .string x.sy :: .string x.tl :: flat r
theorem flat_length : ∀ xs : List Fil, (flat xs).length = xs.length * 3
  | [] => rfl
  | x :: r => by simp only [flat, List.length_cons, flat_length r]; omega
theorem flat_append : ∀ xs ys : List Fil, flat (xs ++ ys) = flat xs ++ flat ys
  | [], _ => rfl
  | x :: r, ys => by simp only [List.cons_append, flat, flat_append r ys]
theorem flat_take : ∀ (xs : List Fil) (k : Nat), flat (xs.take k) = (flat xs).take (k * 3)
  | [], k => by simp [flat]
  | x :: r, 0 => rfl
  | x :: r, k + 1 => by
    rw [show (k + 1) * 3 = k * 3 + 1 + 1 + 1 by omega]
    simp only [List.take_succ_cons, flat, flat_take r k]
theorem flat_drop : ∀ (xs : List Fil) (k : Nat), flat (xs.drop k) = (flat xs).drop (k * 3)
  | [], k => by simp [flat]
  | x :: r, 0 => rfl
  | x :: r, k + 1 => by
    rw [show (k + 1) * 3 = k * 3 + 1 + 1 + 1 by omega]
    simp only [List.drop_succ_cons, flat, flat_drop r k]
theorem flat_get : ∀ {xs : List Fil} {j : Nat} {x : Fil}, xs[j]? = some x → (flat xs)[j * 3]? = some (.string x.nm) ∧ (flat xs)[j * 3 + 1]? = some (.string x.sy) ∧ (flat xs)[j * 3 + 2]? = some (.string x.tl)
  | y :: r, 0, x, h => by
    obtain rfl := Option.some.inj h
    exact ⟨rfl, rfl, rfl⟩
  | y :: r, j + 1, x, h => by
    have := flat_get (xs := r) (j := j) (x := x) (by simpa using h)
    rw [show (j + 1) * 3 = j * 3 + 3 by omega]
    simpa [flat] using this
theorem flat_one : ∀ {xs : List Fil}, ∀ u ∈ flat xs, u.oneCell' = true
  | x :: r, u, h => by
    simp only [flat, List.mem_cons] at h
    rcases h with rfl | rfl | rfl | h
    · rfl
    · rfl
    · rfl
    · exact flat_one u h
theorem flat_cell {xs : List Fil} {i : Nat} {u : Value} (h : (flat xs)[i]? = some u) : ∃ j x, xs[j]? = some x ∧ (i = j * 3 ∧ u = .string x.nm ∨ i = j * 3 + 1 ∧ u = .string x.sy ∨ i = j * 3 + 2 ∧ u = .string x.tl) := by
  have hlt : i < (flat xs).length := (List.getElem?_eq_some_iff.1 h).1
  rw [flat_length] at hlt
  have hj : xs[i / 3]? = some (xs[i / 3]'(by omega)) := List.getElem?_eq_getElem (by omega)
  obtain ⟨h0, h1, h2⟩ := flat_get hj
  refine ⟨i / 3, _, hj, ?_⟩
  have h3 : i = i / 3 * 3 ∨ i = i / 3 * 3 + 1 ∨ i = i / 3 * 3 + 2 := by omega
  rcases h3 with e | e | e
  · rw [← e, h] at h0; exact .inl ⟨e, Option.some.inj h0⟩
  · rw [← e, h] at h1; exact .inr (.inl ⟨e, Option.some.inj h1⟩)
  · rw [← e, h] at h2; exact .inr (.inr ⟨e, Option.some.inj h2⟩)
theorem flat_cat : ∀ xs : List Fil, Cat 3 CF xs (flat xs)
  | [] => rfl
  | x :: r => ⟨[.string x.nm, .string x.sy, .string x.tl], flat r, rfl, rfl, rfl, flat_cat r⟩
theorem SlF.cells {w : World} {S : Nat → Prop} {a : Addr} {n cap : Nat} {xs : List Fil} (h : SlF w S (.slice (some a) n cap) xs) : ∀ i u, (flat xs)[i]? = some u → w.cell? (a.add i) = some u := fun i u hu => by
  obtain ⟨j, x, hx, hj⟩ := flat_cell hu
  obtain ⟨b, off, ha, -, h0, h1, h2⟩ := h.get hx
  obtain rfl := Option.some.inj ha
  rw [Addr.add_mid]
  rcases hj with ⟨rfl, rfl⟩ | ⟨rfl, rfl⟩ | ⟨rfl, rfl⟩
  · exact h0
  · exact h1
  · exact h2
/-- A row of the call's own. -/
abbrev Own (w : World) (base : Nat) (v : Value) (xs : List Fil) : Prop := w.ownsRow base 44 3 v xs.length (flat xs)
theorem Own.sl {w : World} {base : Nat} {v : Value} {xs : List Fil} (h : Own w base v xs) : SlF w (Old w) v xs := Sl.of_owns h (flat_cat xs) (fun _ _ _ hh => (Array.getElem?_eq_some_iff.1 hh).1)
theorem Own.fsh {w : World} {base : Nat} {v : Value} {xs : List Fil} (h : Own w base v xs) : SlF w (Fsh base w) v xs := by
  obtain ⟨a, cap, hv, h1, h2, h3⟩ := h.sl
  refine ⟨a, cap, hv, h1, h2, fun hne => ?_⟩
  obtain ⟨b, off, ha, hb, hat⟩ := h3 hne
  exact ⟨b, off, ha, ⟨(h.lt b (by rw [hv, ha]; rfl)).1, hb⟩, hat⟩
theorem infoF : (Try.prog.info? 44).map (fun i => (i.zero, i.size, i.bytes)) = some (some (.agg #[.string ByteArray.empty, .string ByteArray.empty, .string ByteArray.empty]), 3, 48) := by kernel_rfl
theorem cell_fi (w : World) (x : Fil) (t : TypeId) : ∀ j v, [Value.string x.nm, .string x.sy, .string x.tl][j]? = some v → (w.alloc (.cells (fiC x) t)).cell? (Addr.add ⟨w.heap.size, 0, none⟩ j) = some v := fun j v hv => by
  rw [Addr.add_mid, Nat.zero_add]
  exact (row_new w (fiC x) t).cell hv
end Go.Proofs.Ytmhdodiipkkjpaa.Dk
