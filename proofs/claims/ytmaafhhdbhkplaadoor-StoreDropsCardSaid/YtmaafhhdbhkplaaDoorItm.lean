/- Items of a store: the order of keys, which stores may be, where a key stands; mathematics alone. -/
import Derived.WalkKit
import Derived.Laws.Cover1
namespace Go.Proofs.YtmaafhhdbhkplaaDoor

abbrev BA := ByteArray
theorem BA.ext {a b : BA} (h : a.data.toList = b.data.toList) : a = b := by
  cases a; cases b; simp at h; rw [ByteArray.mk.injEq]; exact h
theorem BA.len (s : BA) : s.data.toList.length = s.size := by simp
theorem BA.ext' {a b : BA} (h : a.toList = b.toList) : a = b := by
  rw [ByteArray.toList_eq, ByteArray.toList_eq] at h; exact BA.ext h

theorem bl_irr : ∀ x : List UInt8, Op.bytesLess x x = false
  | [] => rfl
  | a :: x => by rw [Op.bytesLess, bl_irr x]; simp
theorem bl_trans : ∀ x y z : List UInt8, Op.bytesLess x y = true → Op.bytesLess y z = true → Op.bytesLess x z = true
  | [], [], _, h, _ => by simp [Op.bytesLess] at h
  | [], _ :: _, [], _, h => by simp [Op.bytesLess] at h
  | [], _ :: _, _ :: _, _, _ => rfl
  | _ :: _, [], _, h, _ => by simp [Op.bytesLess] at h
  | _ :: _, _ :: _, [], _, h => by simp [Op.bytesLess] at h
  | a :: x, b :: y, c :: z, h, k => by
    rw [Op.bytesLess] at h k ⊢
    simp only [Bool.or_eq_true, Bool.and_eq_true, decide_eq_true_eq, beq_iff_eq] at h k ⊢
    rcases h with h | ⟨rfl, h⟩
    · rcases k with k | ⟨rfl, k⟩
      · exact .inl (UInt8.lt_trans h k)
      · exact .inl h
    · rcases k with k | ⟨rfl, k⟩
      · exact .inl k
      · exact .inr ⟨rfl, bl_trans x y z h k⟩
theorem bl_tri : ∀ x y : List UInt8, Op.bytesLess x y = false → Op.bytesLess y x = false → x = y
  | [], [], _, _ => rfl
  | [], _ :: _, h, _ => by simp [Op.bytesLess] at h
  | _ :: _, [], _, h => by simp [Op.bytesLess] at h
  | a :: x, b :: y, h, k => by
    rw [Op.bytesLess] at h k
    simp only [Bool.or_eq_false_iff, Bool.and_eq_false_iff, decide_eq_false_iff_not, beq_eq_false_iff_ne] at h k
    have hab : a = b := by
      have h1 := h.1
      have h2 := k.1
      rw [UInt8.lt_iff_toNat_lt] at h1 h2
      exact UInt8.toNat_inj.1 (by omega)
    subst hab
    have h3 : Op.bytesLess x y = false := by
      rcases h.2 with h | h
      · exact absurd rfl h
      · exact h
    have h4 : Op.bytesLess y x = false := by
      rcases k.2 with h | h
      · exact absurd rfl h
      · exact h
    rw [bl_tri x y h3 h4]

/-- A key ahead of another one. -/
def ltB (a b : BA) : Bool := Op.bytesLess a.toList b.toList
theorem ltB_irr (a : BA) : ltB a a = false := bl_irr _
theorem ltB_trans {a b c : BA} (h : ltB a b = true) (k : ltB b c = true) : ltB a c = true := bl_trans _ _ _ h k
theorem ltB_tri {a b : BA} (h : ltB a b = false) (k : ltB b a = false) : a = b := BA.ext' (bl_tri _ _ h k)

structure Itm where
  k : BA
  b : BA
  r : Int

structure Snd (x : Itm) : Prop where
  k : x.k.size = 32
  b1 : 1 ≤ x.b.size
  b2 : x.b.size ≤ 512
  r1 : 0 ≤ x.r
  r2 : x.r ≤ 1073741824

/-- The item at a place may stand there. -/
def OkAt (xs : List Itm) (j : Nat) : Prop := ∀ x, xs[j]? = some x → Snd x ∧ ∀ y, 0 < j → xs[j - 1]? = some y → ltB y.k x.k = true
/-- A store that may be. -/
def Rgt (xs : List Itm) : Prop := xs.length ≤ 4096 ∧ ∀ j, j < xs.length → OkAt xs j

theorem Rgt.snd {xs : List Itm} (h : Rgt xs) {j : Nat} {x : Itm} (hx : xs[j]? = some x) : Snd x :=
  (h.2 j (List.getElem?_eq_some_iff.1 hx).1 x hx).1
theorem Rgt.sorted {xs : List Itm} (h : Rgt xs) {i : Nat} {x : Itm} (hx : xs[i]? = some x) : ∀ (d : Nat) (y : Itm), xs[i + d + 1]? = some y → ltB x.k y.k = true
  | 0, y, hy => (h.2 _ (List.getElem?_eq_some_iff.1 hy).1 y hy).2 x (by omega) hx
  | d + 1, y, hy => by
    have hlt := (List.getElem?_eq_some_iff.1 hy).1
    have hz : xs[i + d + 1]? = some xs[i + d + 1] := List.getElem?_eq_getElem (by omega)
    exact ltB_trans (h.sorted hx d _ hz) ((h.2 _ hlt y hy).2 _ (by omega) hz)
theorem Rgt.lt {xs : List Itm} (h : Rgt xs) {i j : Nat} {x y : Itm} (hx : xs[i]? = some x) (hy : xs[j]? = some y) (hij : i < j) : ltB x.k y.k = true :=
  h.sorted hx (j - i - 1) y (by rw [show i + (j - i - 1) + 1 = j by omega]; exact hy)
theorem Rgt.uniq {xs : List Itm} (h : Rgt xs) {i j : Nat} {x y : Itm} (hx : xs[i]? = some x) (hy : xs[j]? = some y) (he : x.k = y.k) : i = j := by
  rcases Nat.lt_trichotomy i j with hlt | rfl | hgt
  · have := h.lt hx hy hlt; rw [he, ltB_irr] at this; cases this
  · rfl
  · have := h.lt hy hx hgt; rw [he, ltB_irr] at this; cases this

/-- The first place that is not ahead of a key. -/
def pos (xs : List Itm) (key : BA) : Nat := xs.findIdx fun x => !ltB x.k key
theorem pos_le (xs : List Itm) (key : BA) : pos xs key ≤ xs.length := List.findIdx_le_length
theorem pos_not {xs : List Itm} {key : BA} {x : Itm} (h : xs[pos xs key]? = some x) : ltB x.k key = false := by
  obtain ⟨hlt, rfl⟩ := List.getElem?_eq_some_iff.1 h
  unfold pos at hlt ⊢
  simpa using List.findIdx_getElem (w := hlt)
theorem pos_ahead {xs : List Itm} {key : BA} {j : Nat} {x : Itm} (h : xs[j]? = some x) (hj : j < pos xs key) : ltB x.k key = true := by
  obtain ⟨hlt, rfl⟩ := List.getElem?_eq_some_iff.1 h
  simpa using List.not_of_lt_findIdx hj
theorem pos_le_of {xs : List Itm} {key : BA} {j : Nat} {x : Itm} (h : xs[j]? = some x) (hn : ltB x.k key = false) : pos xs key ≤ j := by
  rcases Nat.lt_or_ge j (pos xs key) with hj | hj
  · have := pos_ahead h hj; rw [hn] at this; cases this
  · exact hj
theorem lt_pos_of {xs : List Itm} (hr : Rgt xs) {key : BA} {j : Nat} {x : Itm} (h : xs[j]? = some x) (hn : ltB x.k key = true) : j < pos xs key := by
  rcases Nat.lt_or_ge j (pos xs key) with hj | hj
  · exact hj
  · have hlt := (List.getElem?_eq_some_iff.1 h).1
    have hz : xs[pos xs key]? = some (xs[pos xs key]'(by omega)) := List.getElem?_eq_getElem (by omega)
    have h1 := pos_not hz
    rcases Nat.eq_or_lt_of_le hj with e | hlt2
    · rw [← e, hz] at h
      obtain rfl := Option.some.inj h
      rw [h1] at hn; cases hn
    · have := ltB_trans (hr.lt hz h hlt2) hn
      rw [h1] at this; cases this

/-- There is an item of this key; it stands at 'pos'. -/
def Fnd (xs : List Itm) (key : BA) (x : Itm) : Prop := xs[pos xs key]? = some x ∧ x.k = key
/-- There is none. -/
def Nof (xs : List Itm) (key : BA) : Prop := ∀ (j : Nat) (x : Itm), xs[j]? = some x → x.k ≠ key
theorem fnd_or (xs : List Itm) (key : BA) (hr : Rgt xs) : (∃ x, Fnd xs key x) ∨ Nof xs key := by
  by_cases h : ∃ x, Fnd xs key x
  · exact .inl h
  · refine .inr fun j x hx he => h ⟨x, ?_, he⟩
    have h1 : pos xs key ≤ j := pos_le_of hx (by rw [he]; exact ltB_irr _)
    have h2 : ¬ pos xs key < j := fun hlt => by
      have hl := (List.getElem?_eq_some_iff.1 hx).1
      have hz : xs[pos xs key]? = some (xs[pos xs key]'(by omega)) := List.getElem?_eq_getElem (by omega)
      have := hr.lt hz hx hlt
      rw [he, pos_not hz] at this; cases this
    rw [show pos xs key = j by omega]; exact hx
theorem Fnd.lt {xs : List Itm} {key : BA} {x : Itm} (h : Fnd xs key x) : pos xs key < xs.length := (List.getElem?_eq_some_iff.1 h.1).1
theorem Nof.gt {xs : List Itm} {key : BA} (hn : Nof xs key) {x : Itm} (hx : xs[pos xs key]? = some x) : ltB key x.k = true := by
  cases h : ltB key x.k with
  | true => rfl
  | false => exact absurd (ltB_tri (pos_not hx) h) (hn _ x hx)

/-- Refs of the item of a key, set. -/
def setR (xs : List Itm) (key : BA) (r : Int) : List Itm := xs.map fun x => if x.k.toList == key.toList then ⟨x.k, x.b, r⟩ else x
theorem setR_fnd {xs : List Itm} (hr : Rgt xs) {key : BA} {x : Itm} (hf : Fnd xs key x) (r : Int) : setR xs key r = xs.set (pos xs key) ⟨x.k, x.b, r⟩ := by
  apply List.ext_getElem?
  intro j
  unfold setR
  rw [List.getElem?_map, List.getElem?_set]
  by_cases hj : pos xs key = j
  · subst hj
    rw [if_pos rfl, if_pos hf.lt, hf.1]
    simp [hf.2]
  · rw [if_neg hj]
    cases hx : xs[j]? with
    | none => rfl
    | some y =>
      simp only [Option.map_some]
      rw [if_neg]
      intro he
      exact hj (hr.uniq hf.1 hx (hf.2.trans (BA.ext' (by simpa using he)).symm))

/-- Those that are held. -/
def swp (xs : List Itm) : List Itm := xs.filter fun x => decide (0 < x.r)
/-- What is made of the first k items, with one more at a place. -/
def outF (xs : List Itm) (p : Nat) (it : Itm) (k : Nat) : List Itm := if p < k then xs.take p ++ it :: (xs.take k).drop p else xs.take k
def insF (xs : List Itm) (p : Nat) (it : Itm) : List Itm := xs.take p ++ it :: xs.drop p
theorem outF_zero (xs : List Itm) (p : Nat) (it : Itm) : outF xs p it 0 = [] := by simp [outF]
theorem outF_ahead {xs : List Itm} {p : Nat} {it x : Itm} {k : Nat} (hx : xs[k]? = some x) (h : k < p) : outF xs p it (k + 1) = outF xs p it k ++ [x] := by
  obtain ⟨hlt, rfl⟩ := List.getElem?_eq_some_iff.1 hx
  unfold outF
  rw [if_neg (by omega), if_neg (by omega), List.take_succ_eq_append_getElem hlt]
theorem outF_at {xs : List Itm} {it x : Itm} {k : Nat} (hx : xs[k]? = some x) : outF xs k it (k + 1) = outF xs k it k ++ [it] ++ [x] := by
  obtain ⟨hlt, rfl⟩ := List.getElem?_eq_some_iff.1 hx
  unfold outF
  rw [if_pos (by omega), if_neg (by omega), List.take_succ_eq_append_getElem hlt, List.drop_append_of_le_length (by simp; omega)]
  simp
theorem outF_behind {xs : List Itm} {p : Nat} {it x : Itm} {k : Nat} (hx : xs[k]? = some x) (h : p < k) : outF xs p it (k + 1) = outF xs p it k ++ [x] := by
  obtain ⟨hlt, rfl⟩ := List.getElem?_eq_some_iff.1 hx
  unfold outF
  rw [if_pos (by omega), if_pos h, List.take_succ_eq_append_getElem hlt, List.drop_append_of_le_length (by simp; omega)]
  simp
theorem outF_end {xs : List Itm} {p : Nat} {it : Itm} (h : p < xs.length) : outF xs p it xs.length = insF xs p it := by
  unfold outF insF
  rw [if_pos h, List.take_length]
theorem outF_last {xs : List Itm} {p : Nat} {it : Itm} (h : p = xs.length) : outF xs p it xs.length ++ [it] = insF xs p it := by
  unfold outF insF
  subst h
  rw [if_neg (by omega), List.drop_length]
theorem outF_length_le (xs : List Itm) (p : Nat) (it : Itm) (k : Nat) (hk : k ≤ xs.length) : (outF xs p it k).length ≤ k + 1 := by
  unfold outF
  split <;> simp <;> omega
theorem insF_length {xs : List Itm} {p : Nat} {it : Itm} (h : p ≤ xs.length) : (insF xs p it).length = xs.length + 1 := by
  unfold insF
  simp; omega
end Go.Proofs.YtmaafhhdbhkplaaDoor
