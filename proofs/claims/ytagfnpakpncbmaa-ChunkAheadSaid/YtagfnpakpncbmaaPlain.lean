/- The weight of a text and its chunks as plain functions of bytes, and what is true of them. -/
namespace Go.Proofs.Ytagfnpakpncbmaa

abbrev Bs := List UInt8
/-- The sum over a text, before it is cut down to 32 bits. -/
def sumF (l : Bs) : Nat := l.foldl (fun a b => a * 31 + b.toNat + 1) 0
def winF (l : Bs) : Bs := l.drop (l.length - 16)
def weightF (l : Bs) : Nat := sumF (winF l) % 4294967296

theorem weightF_lt (l : Bs) : weightF l < 4294967296 := Nat.mod_lt _ (by decide)
theorem sumF_snoc (l : Bs) (b : UInt8) : sumF (l ++ [b]) = sumF l * 31 + b.toNat + 1 := by simp [sumF]
theorem sumF_acc : ∀ (l : Bs) (a : Nat), l.foldl (fun a b => a * 31 + b.toNat + 1) a = a * 31 ^ l.length + sumF l
  | [], a => by simp [sumF]
  | b :: l, a => by
    have h1 := sumF_acc l (a * 31 + b.toNat + 1)
    have h2 := sumF_acc l (0 * 31 + b.toNat + 1)
    have h3 : sumF (b :: l) = l.foldl (fun a b => a * 31 + b.toNat + 1) (0 * 31 + b.toNat + 1) := rfl
    rw [List.foldl_cons, h1, h3, h2, List.length_cons, Nat.pow_succ, Nat.add_assoc (a * 31), Nat.add_mul, Nat.mul_assoc, Nat.mul_comm 31]
    simp [Nat.add_assoc]
theorem sumF_cons (c : UInt8) (l : Bs) : sumF (c :: l) = (c.toNat + 1) * 31 ^ l.length + sumF l := by
  have h := sumF_acc l (0 * 31 + c.toNat + 1)
  rw [show 0 * 31 + c.toNat + 1 = c.toNat + 1 by omega] at h
  rw [← h]; simp [sumF]

theorem weightF_nil : weightF [] = 0 := rfl
theorem weightF_few (l : Bs) (b : UInt8) (h : l.length < 16) : weightF (l ++ [b]) = (weightF l * 31 + b.toNat + 1) % 4294967296 := by
  have h1 : winF l = l := by unfold winF; rw [show l.length - 16 = 0 by omega]; rfl
  have h2 : winF (l ++ [b]) = l ++ [b] := by unfold winF; rw [show (l ++ [b]).length - 16 = 0 by simp; omega]; rfl
  unfold weightF
  rw [h1, h2, sumF_snoc]; omega
theorem weightF_many (l : Bs) (b c : UInt8) (h : 16 ≤ l.length) (hc : l[l.length - 16]? = some c) :
    ((weightF (l ++ [b]) : Nat) : Int) = ((((weightF l * 31 + b.toNat + 1) % 4294967296 : Nat) : Int) - (((c.toNat + 1) * 1353309697 % 4294967296 : Nat) : Int)) % 4294967296 := by
  obtain ⟨hlt, hc'⟩ := List.getElem?_eq_some_iff.1 hc
  have h1 : winF l = c :: l.drop (l.length - 16 + 1) := by
    unfold winF
    rw [List.drop_eq_getElem_cons hlt, hc']
  have h2 : winF (l ++ [b]) = l.drop (l.length - 16 + 1) ++ [b] := by
    unfold winF
    rw [List.length_append, List.drop_append_of_le_length (by simp <;> omega)]
    congr 2
    simp
    try omega
  have h3 : (l.drop (l.length - 16 + 1)).length = 15 := by simp; omega
  unfold weightF
  rw [h1, h2, sumF_snoc, sumF_cons, h3]
  generalize sumF (l.drop (l.length - 16 + 1)) = S
  have h4 : (31 : Nat) ^ 15 = 23465261991844685929951 := by decide
  rw [h4]
  generalize hX : c.toNat + 1 = X
  generalize hA : X * 23465261991844685929951 + S = A
  have h5 : (A % 4294967296 * 31 + b.toNat + 1) % 4294967296 = (A * 31 + b.toNat + 1) % 4294967296 := by omega
  have h6 : A * 31 + b.toNat + 1 = (S * 31 + b.toNat + 1) + X * 1353309697 + 4294967296 * (X * 169366393645104) := by omega
  rw [h5, h6, Nat.add_mul_mod_self_left]
  generalize S * 31 + b.toNat + 1 = T
  generalize X * 1353309697 = U
  omega
/-- The sum of the last bytes, one more. -/
theorem sumF_last (l : Bs) (j : Nat) (hj : j < l.length) : sumF (l.drop (l.length - (j + 1))) = ((l[l.length - 1 - j]'(by omega)).toNat + 1) * 31 ^ j + sumF (l.drop (l.length - j)) := by
  have h : l.length - (j + 1) < l.length := by omega
  rw [List.drop_eq_getElem_cons h, sumF_cons]
  have e1 : l.length - (j + 1) + 1 = l.length - j := by omega
  have e2 : l.length - (j + 1) = l.length - 1 - j := by omega
  rw [e1]
  simp only [e2]
  rw [List.length_drop, show l.length - (l.length - j) = j by omega]

/-- The first chunk has so many bytes. -/
structure IsFirst (l : Bs) (n : Nat) : Prop where
  le : n ≤ l.length
  most : n ≤ 512
  why : n < l.length → n < 512 → 32 ≤ n ∧ weightF (l.take n) % 64 = 7
  no : ∀ m, 32 ≤ m → m < n → weightF (l.take m) % 64 ≠ 7

theorem IsFirst.pos {l : Bs} {n : Nat} (h : IsFirst l n) (hl : l ≠ []) : 0 < n := by
  have h1 : 0 < l.length := List.length_pos_iff.2 hl
  rcases Nat.eq_zero_or_pos n with rfl | h2
  · have := (h.why h1 (by omega)).1; omega
  · exact h2
theorem IsFirst.unique {l : Bs} {n m : Nat} (h : IsFirst l n) (k : IsFirst l m) : n = m := by
  rcases Nat.lt_trichotomy n m with hlt | heq | hlt
  · have h1 := h.why (by have := k.le; omega) (by have := k.most; omega)
    exact absurd h1.2 (k.no n h1.1 hlt)
  · exact heq
  · have h1 := k.why (by have := h.le; omega) (by have := h.most; omega)
    exact absurd h1.2 (h.no m h1.1 hlt)

theorem first_from (l : Bs) : ∀ (d k : Nat), k + d = min l.length 512 → (∀ m, 32 ≤ m → m < k → weightF (l.take m) % 64 ≠ 7) → ∃ n, IsFirst l n
  | 0, k, hk, h => ⟨k, by omega, by omega, fun h1 h2 => by omega, h⟩
  | d + 1, k, hk, h => by
    by_cases h7 : 32 ≤ k ∧ weightF (l.take k) % 64 = 7
    · exact ⟨k, by omega, by omega, fun _ _ => h7, h⟩
    · refine first_from l d (k + 1) (by omega) fun m h1 h2 => ?_
      rcases Nat.lt_or_eq_of_le (Nat.le_of_lt_succ h2) with h3 | rfl
      · exact h m h1 h3
      · exact fun h4 => h7 ⟨h1, h4⟩
theorem first_ex (l : Bs) : ∃ n, IsFirst l n := first_from l (min l.length 512) 0 (by omega) fun m h1 h2 => by omega

/-- These are the chunks of the text. -/
inductive Split : Bs → List Bs → Prop
  | nil : Split [] []
  | cons {l : Bs} {n : Nat} {xs : List Bs} (hl : l ≠ []) (hn : IsFirst l n) (hs : Split (l.drop n) xs) : Split l (l.take n :: xs)

theorem Split.of_nil {xs : List Bs} (h : Split [] xs) : xs = [] := by
  generalize hl : ([] : Bs) = l at h
  cases h with
  | nil => rfl
  | cons h1 => exact absurd hl.symm h1
theorem Split.of_ne {l : Bs} {xs : List Bs} (h : Split l xs) (hl : l ≠ []) : ∃ n ys, IsFirst l n ∧ xs = l.take n :: ys ∧ Split (l.drop n) ys := by
  cases h with
  | nil => exact absurd rfl hl
  | cons _ hn hs => exact ⟨_, _, hn, rfl, hs⟩
theorem Split.unique {l : Bs} {xs ys : List Bs} (h : Split l xs) (k : Split l ys) : xs = ys := by
  induction h generalizing ys with
  | nil => exact k.of_nil.symm
  | cons hl hn _ ih =>
    obtain ⟨m, zs, hm, rfl, hz⟩ := k.of_ne hl
    obtain rfl := hn.unique hm
    rw [ih hz]
theorem Split.flatten {l : Bs} {xs : List Bs} (h : Split l xs) : xs.flatten = l := by
  induction h with
  | nil => rfl
  | cons hl hn _ ih => rw [List.flatten_cons, ih, List.take_append_drop]
theorem Split.drop {l : Bs} {xs : List Bs} (h : Split l xs) : ∀ k, Split (xs.drop k).flatten (xs.drop k) := by
  induction h with
  | nil => intro k; simp; exact .nil
  | @cons l n xs hl hn hs ih =>
    intro k
    cases k with
    | zero =>
      have := Split.cons hl hn hs
      rw [List.drop_zero, this.flatten]; exact this
    | succ k => simpa using ih k
/-- A chunk is the first one of a rest. -/
theorem Split.at {l : Bs} {xs : List Bs} (h : Split l xs) : ∀ i (hi : i < xs.length), ∃ r, r ≠ [] ∧ IsFirst r xs[i].length ∧ xs[i] = r.take xs[i].length ∧ (i + 1 < xs.length → xs[i].length < r.length) := by
  induction h with
  | nil => intro i hi; simp at hi
  | @cons l n xs hl hn hs ih =>
    intro i hi
    cases i with
    | zero =>
      have e : (l.take n).length = n := by rw [List.length_take]; have := hn.le; omega
      refine ⟨l, hl, by simpa [e] using hn, by simp [e], fun h2 => ?_⟩
      have h3 : l.drop n ≠ [] := by
        intro h4
        rw [h4] at hs
        rw [hs.of_nil] at h2
        simp at h2
      have h5 : 0 < (l.drop n).length := List.length_pos_iff.2 h3
      simp at h5 ⊢; omega
    | succ i =>
      obtain ⟨r, h1, h2, h3, h4⟩ := ih i (by simpa using hi)
      exact ⟨r, h1, by simpa using h2, by simpa using h3, fun h5 => by simpa using h4 (by simpa using h5)⟩
theorem Split.lens {l : Bs} {xs : List Bs} (h : Split l xs) (i : Nat) (hi : i < xs.length) : 1 ≤ xs[i].length ∧ xs[i].length ≤ 512 ∧ (i + 1 < xs.length → 32 ≤ xs[i].length) := by
  obtain ⟨r, h1, h2, h3, h4⟩ := h.at i hi
  refine ⟨h2.pos h1, h2.most, fun h5 => ?_⟩
  have h6 := h4 h5
  by_cases h7 : xs[i].length < 512
  · exact (h2.why h6 h7).1
  · omega
theorem Split.why {l : Bs} {xs : List Bs} (h : Split l xs) (i : Nat) (hi : i < xs.length) (h1 : i + 1 < xs.length) (h2 : xs[i].length ≠ 512) : weightF xs[i] % 64 = 7 := by
  obtain ⟨r, k1, k2, k3, k4⟩ := h.at i hi
  rw [k3]
  exact (k2.why (k4 h1) (by have := k2.most; omega)).2
theorem Split.no {l : Bs} {xs : List Bs} (h : Split l xs) (i : Nat) (hi : i < xs.length) (m : Nat) (h1 : 32 ≤ m) (h2 : m < xs[i].length) : weightF (xs[i].take m) % 64 ≠ 7 := by
  obtain ⟨r, k1, k2, k3, k4⟩ := h.at i hi
  have := k2.no m h1 h2
  rw [k3, List.take_take, Nat.min_eq_left (by omega)]
  exact this
theorem Split.count {l : Bs} {xs : List Bs} (h : Split l xs) : xs.length ≤ l.length := by
  induction h with
  | nil => simp
  | @cons l n xs hl hn _ ih =>
    have h1 := hn.pos hl
    have h2 := hn.le
    simp at ih ⊢; omega

theorem IsFirst.ahead {s a b : Bs} {n : Nat} (h : IsFirst (s ++ a) n) (hn : n < s.length) : IsFirst (s ++ b) n where
  le := by simp; omega
  most := h.most
  why := fun _ h2 => by
    have := h.why (by simp; omega) h2
    rw [List.take_append_of_le_length (by omega)] at this ⊢
    exact this
  no := fun m h1 h2 => by
    have := h.no m h1 h2
    rw [List.take_append_of_le_length (by omega)] at this ⊢
    exact this
theorem Split.ahead : ∀ (i : Nat) {s a b : Bs} {xs ys : List Bs}, Split (s ++ a) xs → Split (s ++ b) ys → ∀ (hx : i < xs.length) (hy : i < ys.length), (xs.take (i + 1)).flatten.length < s.length → xs[i] = ys[i] := by
  intro i
  induction i with
  | zero =>
    intro s a b xs ys hxs hys hx hy hlt
    have hs : s ≠ [] := by intro h; subst h; simp at hlt
    obtain ⟨n, xs', hn, rfl, hs'⟩ := hxs.of_ne (by simp [hs])
    obtain ⟨m, ys', hm, rfl, ht'⟩ := hys.of_ne (by simp [hs])
    have e : ((s ++ a).take n).length = n := by rw [List.length_take]; have := hn.le; omega
    have hns : n < s.length := by simp at hlt e; omega
    obtain rfl := (hn.ahead (b := b) hns).unique hm
    simp only [List.getElem_cons_zero]
    rw [List.take_append_of_le_length (by omega), List.take_append_of_le_length (by omega)]
  | succ i ih =>
    intro s a b xs ys hxs hys hx hy hlt
    have hs : s ≠ [] := by intro h; subst h; simp at hlt
    obtain ⟨n, xs', hn, rfl, hs'⟩ := hxs.of_ne (by simp [hs])
    obtain ⟨m, ys', hm, rfl, ht'⟩ := hys.of_ne (by simp [hs])
    have e : ((s ++ a).take n).length = n := by rw [List.length_take]; have := hn.le; omega
    rw [List.take_succ_cons, List.flatten_cons, List.length_append, e] at hlt
    have hns : n < s.length := by omega
    obtain rfl := (hn.ahead (b := b) hns).unique hm
    rw [List.drop_append_of_le_length (by omega)] at hs' ht'
    simp only [List.getElem_cons_succ]
    exact ih hs' ht' (by simpa using hx) (by simpa using hy) (by simp only [List.length_drop]; omega)

/-- So far the chunks are told, up to this place. -/
structure Pre (l : Bs) (xs : List Bs) (k : Nat) : Prop where
  le : k ≤ l.length
  sum : xs.flatten.length = k
  count : xs.length ≤ k
  more : ∀ ys, Split (l.drop k) ys → Split l (xs ++ ys)
theorem Pre.nil (l : Bs) : Pre l [] 0 := ⟨Nat.zero_le _, rfl, Nat.le_refl _, fun ys h => h⟩
theorem Pre.snoc {l : Bs} {xs : List Bs} {k n : Nat} (h : Pre l xs k) (hn : IsFirst (l.drop k) n) (hl : l.drop k ≠ []) : Pre l (xs ++ [(l.drop k).take n]) (k + n) := by
  have h0 := h.le
  have h1 := hn.le
  have h2 := hn.pos hl
  have h3 := h.sum
  have h4 := h.count
  rw [List.length_drop] at h1
  have e : ((l.drop k).take n).length = n := by rw [List.length_take, List.length_drop]; omega
  refine ⟨by omega, by rw [List.flatten_append, List.length_append, h3]; simp at e ⊢; omega, by simp; omega, fun ys hys => ?_⟩
  rw [List.append_assoc]
  refine h.more _ (Split.cons hl hn ?_)
  rw [List.drop_drop]; exact hys
theorem Pre.done {l : Bs} {xs : List Bs} {k : Nat} (h : Pre l xs k) (hl : l.drop k = []) : Split l xs := by
  have := h.more [] (by rw [hl]; exact .nil)
  simpa using this

/-- The places where the chunks end. -/
def endsF (xs : List Bs) : List Nat := (List.range xs.length).map fun i => (xs.take (i + 1)).flatten.length
@[simp] theorem endsF_length (xs : List Bs) : (endsF xs).length = xs.length := by simp [endsF]
theorem endsF_snoc (xs : List Bs) (x : Bs) : endsF (xs ++ [x]) = endsF xs ++ [xs.flatten.length + x.length] := by
  unfold endsF
  rw [List.length_append, List.length_singleton, List.range_succ, List.map_append]
  congr 1
  · refine List.map_congr_left fun i hi => ?_
    have := List.mem_range.1 hi
    rw [List.take_append_of_le_length (by omega)]
  · simp [List.take_of_length_le]

theorem split_one (b : UInt8) {xs : List Bs} (h : Split [b] xs) : xs.length = 1 := by
  obtain ⟨n, ys, hn, rfl, hs⟩ := h.of_ne (by simp)
  have h1 := hn.pos (by simp)
  have h2 : ([b] : Bs).drop n = [] := List.drop_eq_nil_of_le (by simp; omega)
  rw [h2] at hs
  rw [hs.of_nil]; rfl
theorem split_ne {l : Bs} {xs : List Bs} (h : Split l xs) : xs = [] ↔ l = [] := by
  constructor
  · intro hx; subst hx; simpa using h.flatten.symm
  · intro hl; subst hl; exact h.of_nil
end Go.Proofs.Ytagfnpakpncbmaa
