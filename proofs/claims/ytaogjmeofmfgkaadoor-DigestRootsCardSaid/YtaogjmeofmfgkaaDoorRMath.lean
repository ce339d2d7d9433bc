/- Numbers as digits of base 65536; roots and primes: mathematics alone. -/
namespace Go.Proofs.YtaogjmeofmfgkaaDoor

def valD : List Nat → Nat
  | [] => 0
  | d :: l => d + 65536 * valD l
def DigAll (l : List Nat) : Prop := ∀ d ∈ l, d < 65536

theorem valD_append : ∀ (a b : List Nat), valD (a ++ b) = valD a + 65536 ^ a.length * valD b
  | [], b => by simp [valD]
  | d :: a, b => by
    rw [List.cons_append, valD, valD_append a b, valD, List.length_cons, Nat.pow_succ, Nat.mul_add, ← Nat.add_assoc, Nat.mul_comm (65536 ^ a.length) 65536, Nat.mul_assoc]
theorem valD_zeros (n : Nat) (l : List Nat) : valD (List.replicate n 0 ++ l) = 65536 ^ n * valD l := by
  rw [valD_append, List.length_replicate]
  have : ∀ n, valD (List.replicate n 0) = 0 := by
    intro n
    induction n with
    | zero => rfl
    | succ n ih => rw [List.replicate_succ, valD, ih]
  rw [this, Nat.zero_add]
theorem valD_set : ∀ (l : List Nat) (k x : Nat), k < l.length → valD (l.set k x) + 65536 ^ k * l.getD k 0 = valD l + 65536 ^ k * x
  | [], k, x, h => by simp at h
  | d :: l, 0, x, _ => by simp [valD]; omega
  | d :: l, k + 1, x, h => by
    have ih := valD_set l k x (by simpa using h)
    rw [List.set_cons_succ, valD, valD, Nat.pow_succ]
    have e : (d :: l).getD (k + 1) 0 = l.getD k 0 := by simp [List.getD]
    rw [e, Nat.mul_comm (65536 ^ k) 65536, Nat.mul_assoc, Nat.mul_assoc, Nat.add_assoc, ← Nat.mul_add, ih, Nat.mul_add, Nat.add_assoc]
theorem DigAll.getD {l : List Nat} (h : DigAll l) (k : Nat) : l.getD k 0 < 65536 := by
  rw [List.getD_eq_getElem?_getD]
  by_cases hk : k < l.length
  · rw [List.getElem?_eq_getElem hk]; exact h _ (List.getElem_mem hk)
  · rw [List.getElem?_eq_none (by omega)]; decide
theorem DigAll.set {l : List Nat} (h : DigAll l) (k x : Nat) (hx : x < 65536) : DigAll (l.set k x) := fun d hd => by
  rcases List.mem_or_eq_of_mem_set hd with h1 | h1
  · exact h d h1
  · rw [h1]; exact hx
theorem DigAll.snoc {l : List Nat} (h : DigAll l) (x : Nat) (hx : x < 65536) : DigAll (l ++ [x]) := fun d hd => by
  rcases List.mem_append.1 hd with h1 | h1
  · exact h d h1
  · rw [List.mem_singleton.1 h1]; exact hx
theorem DigAll.zeros {l : List Nat} (h : DigAll l) (n : Nat) : DigAll (List.replicate n 0 ++ l) := fun d hd => by
  rcases List.mem_append.1 hd with h1 | h1
  · rw [List.eq_of_mem_replicate h1]; decide
  · exact h d h1
theorem valD_take (b : List Nat) (j : Nat) (hj : j < b.length) : valD (b.take (j + 1)) = valD (b.take j) + 65536 ^ j * b.getD j 0 := by
  have e : b.take (j + 1) = b.take j ++ [b.getD j 0] := by
    rw [List.take_add_one, List.getElem?_eq_getElem hj]
    simp [List.getD, hj]
  rw [e, valD_append, List.length_take, Nat.min_eq_left (by omega)]
  simp [valD]

/-- One step of a row of the product. -/
theorem step_val (O : List Nat) (k A B C V : Nat) (hk : k < O.length) (h : valD O + C * 65536 ^ k = V) :
    valD (O.set k ((O.getD k 0 + A * B + C) % 65536)) + (O.getD k 0 + A * B + C) / 65536 * 65536 ^ (k + 1) = V + A * B * 65536 ^ k := by
  have h1 := valD_set O k ((O.getD k 0 + A * B + C) % 65536) hk
  generalize O.getD k 0 = o at *
  generalize valD (O.set k ((o + A * B + C) % 65536)) = W at *
  generalize A * B = P at *
  have h2 := Nat.div_add_mod (o + P + C) 65536
  generalize (o + P + C) / 65536 = q at *
  generalize (o + P + C) % 65536 = r at *
  generalize hK : 65536 ^ k = K at *
  rw [Nat.pow_succ, hK, ← h]
  have h3 : K * (65536 * q + r) = K * (o + P + C) := by rw [h2]
  have e1 : q * (K * 65536) = K * (65536 * q) := by rw [← Nat.mul_assoc, Nat.mul_comm q K, Nat.mul_assoc, Nat.mul_comm q]
  rw [Nat.mul_add] at h3
  rw [Nat.mul_add, Nat.mul_add] at h3
  rw [e1, Nat.mul_comm C K, Nat.mul_comm P K]
  omega
theorem step_carry (o A B C : Nat) (ho : o < 65536) (hA : A < 65536) (hB : B < 65536) (hC : C < 65536) : (o + A * B + C) / 65536 < 65536 ∧ o + A * B + C < 4294967296 := by
  have h : A * B ≤ 65535 * 65535 := Nat.mul_le_mul (by omega) (by omega)
  omega

theorem valD_tail (l : List Nat) : valD l = l.getD 0 0 + 65536 * valD (l.drop 1) := by
  cases l with
  | nil => simp [valD]
  | cons d l => simp [valD]
theorem getD_drop1 (l : List Nat) (k : Nat) : (l.drop 1).getD k 0 = l.getD (k + 1) 0 := by
  simp [List.getD, Nat.add_comm]
theorem valD_ext : ∀ (n : Nat) (a b : List Nat), a.length ≤ n → b.length ≤ n → (∀ k, a.getD k 0 = b.getD k 0) → valD a = valD b
  | 0, a, b, ha, hb, _ => by
    have h1 : a = [] := List.length_eq_zero_iff.1 (by omega)
    have h2 : b = [] := List.length_eq_zero_iff.1 (by omega)
    rw [h1, h2]
  | n + 1, a, b, ha, hb, h => by
    rw [valD_tail a, valD_tail b, h 0, valD_ext n (a.drop 1) (b.drop 1) (by simp; omega) (by simp; omega) (fun k => by rw [getD_drop1, getD_drop1]; exact h (k + 1))]
theorem DigAll.drop {l : List Nat} (h : DigAll l) (n : Nat) : DigAll (l.drop n) := fun d hd => h d (List.mem_of_mem_drop hd)
theorem valD_gt : ∀ (i : Nat) (a b : List Nat), DigAll b → (∀ k, i < k → a.getD k 0 = b.getD k 0) → b.getD i 0 < a.getD i 0 → valD b < valD a
  | 0, a, b, hb, h, hi => by
    have h1 : valD (a.drop 1) = valD (b.drop 1) := valD_ext (max a.length b.length) _ _ (by simp; omega) (by simp; omega) (fun k => by rw [getD_drop1, getD_drop1]; exact h (k + 1) (by omega))
    rw [valD_tail a, valD_tail b, h1]; omega
  | i + 1, a, b, hb, h, hi => by
    have ih := valD_gt i (a.drop 1) (b.drop 1) (hb.drop 1) (fun k hk => by rw [getD_drop1, getD_drop1]; exact h (k + 1) (by omega)) (by rw [getD_drop1, getD_drop1]; exact hi)
    have h0 := hb.getD 0
    rw [valD_tail a, valD_tail b]; omega

/-- The root, bit by bit. -/
def rootN (p times : Nat) : Nat → Nat
  | 0 => 0
  | n + 1 => if p * 65536 ^ (2 * times) < (rootN p times n + 2 ^ (36 - n)) ^ times then rootN p times n else rootN p times n + 2 ^ (36 - n)
theorem rootN_lt (p times : Nat) : ∀ n, n ≤ 37 → rootN p times n + 2 ^ (37 - n) ≤ 2 ^ 37
  | 0, _ => by simp [rootN]
  | n + 1, h => by
    have ih := rootN_lt p times n (by omega)
    have e : 2 ^ (37 - n) = 2 * 2 ^ (36 - n) := by rw [show 37 - n = (36 - n) + 1 by omega, Nat.pow_succ, Nat.mul_comm]
    rw [rootN, show 37 - (n + 1) = 36 - n by omega]
    split <;> omega

def PL : List Nat := [2, 3, 5, 7, 11, 13, 17, 19, 23, 29, 31, 37, 41, 43, 47, 53, 59, 61, 67, 71, 73, 79, 83, 89, 97, 101, 103, 107, 109, 113, 127, 131, 137, 139, 149, 151, 157, 163, 167, 173, 179, 181, 191, 193, 197, 199, 211, 223, 227, 229, 233, 239, 241, 251, 257, 263, 269, 271, 277, 281, 283, 293, 307, 311]
/-- The primes below p. -/
def PLow (p : Nat) : List Nat := PL.filter (· < p)
def isP (p : Nat) (l : List Nat) : Bool := l.all (fun q => p % q != 0)
theorem plow_is : ∀ p, p < 312 → isP p (PLow p) = (PL.contains p || p == 1 || p == 0) := by decide +kernel
theorem plow_is2 (p : Nat) (h2 : 2 ≤ p) (h : p < 312) : isP p (PLow p) = PL.contains p := by
  rw [plow_is p h]
  have h1 : (p == 1) = false := by rw [beq_eq_false_iff_ne]; omega
  have h0 : (p == 0) = false := by rw [beq_eq_false_iff_ne]; omega
  rw [h1, h0, Bool.or_false, Bool.or_false]
theorem plow_succ : ∀ p, p < 312 → PLow (p + 1) = if PL.contains p then PLow p ++ [p] else PLow p := by decide +kernel
theorem plow_count : ∀ p, p < 312 → (PLow p).length < 64 := by decide +kernel
theorem plow_all : PLow 312 = PL := by decide +kernel
theorem plow8 : PLow 20 = PL.take 8 := by decide +kernel
theorem plow_count8 : ∀ p, p < 20 → (PLow p).length < 8 := by decide +kernel
theorem PLow.pos {p q : Nat} (h : q ∈ PLow p) : 2 ≤ q ∧ q ≤ 311 := by
  have h1 : q ∈ PL := (List.mem_filter.1 h).1
  have h2 : (PL.all fun q => 2 ≤ q && q ≤ 311) = true := by decide
  have := List.all_eq_true.1 h2 q h1
  simpa using this
theorem pow_mono {a b : Nat} (t : Nat) (h : a ≤ b) : a ^ t ≤ b ^ t := Nat.pow_le_pow_left h t
theorem rootN_ok (p times : Nat) (hp : p * 65536 ^ (2 * times) < (2 ^ 37) ^ times) (h0 : 0 < times) : ∀ n, n ≤ 37 → (rootN p times n) ^ times ≤ p * 65536 ^ (2 * times) ∧ p * 65536 ^ (2 * times) < (rootN p times n + 2 ^ (37 - n)) ^ times
  | 0, _ => by
    rw [rootN, Nat.zero_pow h0, Nat.zero_add]
    exact ⟨Nat.zero_le _, hp⟩
  | n + 1, h => by
    have ih := rootN_ok p times hp h0 n (by omega)
    have e : 2 ^ (37 - n) = 2 ^ (36 - n) + 2 ^ (36 - n) := by rw [show 37 - n = (36 - n) + 1 by omega, Nat.pow_succ, Nat.mul_two]
    rw [rootN, show 37 - (n + 1) = 36 - n by omega]
    split
    · rename_i h1
      exact ⟨ih.1, h1⟩
    · rename_i h1
      refine ⟨by omega, ?_⟩
      rw [Nat.add_assoc, ← e]; exact ih.2
theorem root_unique {N t X Y : Nat} (h1 : X ^ t ≤ N) (h2 : N < (X + 1) ^ t) (h3 : Y ^ t ≤ N) (h4 : N < (Y + 1) ^ t) : X = Y := by
  rcases Nat.lt_trichotomy X Y with h | h | h
  · have := pow_mono t (show X + 1 ≤ Y from h); omega
  · exact h
  · have := pow_mono t (show Y + 1 ≤ X from h); omega
theorem rootN_is (p times X : Nat) (hp : p * 65536 ^ (2 * times) < (2 ^ 37) ^ times) (h0 : 0 < times) (h1 : X ^ times ≤ p * 65536 ^ (2 * times)) (h2 : p * 65536 ^ (2 * times) < (X + 1) ^ times) : rootN p times 37 = X := by
  have h := rootN_ok p times hp h0 37 (Nat.le_refl _)
  exact root_unique h.1 h.2 h1 h2
def X3 : List Nat := [5411319704, 6194414737, 7344290767, 8215976869, 9551921755, 10098905585, 11043570340, 11460697813, 12214315672, 13195500289, 13492127166, 14311783875, 14809980276, 15046980094, 15499789991, 16133124468, 16720292289, 16907126662, 17444216262, 17784676812, 17950125167, 18429019306, 18734950876, 19175934170, 19734090066, 20001703533, 20132865992, 20390182855, 20516441075, 20764397895, 21588763473, 21813078375, 22141143685, 22248366392, 22769593852, 22871018771, 23170020180, 23461497531, 23651862830, 23931792517, 24205322401, 24295138891, 24734567280, 24820601251, 24990902297, 25075189284, 25569408389, 26045227120, 26200031510, 26276752392, 26428864332, 26653801653, 26727943347, 27092625994, 27306805839, 27517677555, 27725365998, 27793908591, 27997534228, 28131656200, 28198240250, 28526537963, 28973835255, 29099129074]
def X2 : List Nat := [6074000999, 7439101573, 9603838834, 11363415354, 14244795007, 15485724812, 17708603819, 18721328409]
theorem x3_ok : ∀ i, i < 64 → PL.getD i 0 * 65536 ^ (2 * 3) < (2 ^ 37) ^ 3 ∧ (X3.getD i 0) ^ 3 ≤ PL.getD i 0 * 65536 ^ (2 * 3) ∧ PL.getD i 0 * 65536 ^ (2 * 3) < (X3.getD i 0 + 1) ^ 3 := by decide +kernel
theorem x2_ok : ∀ i, i < 8 → PL.getD i 0 * 65536 ^ (2 * 2) < (2 ^ 37) ^ 2 ∧ (X2.getD i 0) ^ 2 ≤ PL.getD i 0 * 65536 ^ (2 * 2) ∧ PL.getD i 0 * 65536 ^ (2 * 2) < (X2.getD i 0 + 1) ^ 2 := by decide +kernel
theorem root3_is (i : Nat) (hi : i < 64) : rootN (PL.getD i 0) 3 37 = X3.getD i 0 := rootN_is _ 3 _ (x3_ok i hi).1 (by decide) (x3_ok i hi).2.1 (x3_ok i hi).2.2
theorem root2_is (i : Nat) (hi : i < 8) : rootN (PL.getD i 0) 2 37 = X2.getD i 0 := rootN_is _ 2 _ (x2_ok i hi).1 (by decide) (x2_ok i hi).2.1 (x2_ok i hi).2.2
end Go.Proofs.YtaogjmeofmfgkaaDoor
