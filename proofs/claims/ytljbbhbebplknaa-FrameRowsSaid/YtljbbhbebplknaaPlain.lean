/- The checksum, the frame and the reading of frames as plain functions of bytes, and what is true of them. -/
namespace Go.Proofs.Ytljbbhbebplknaa

abbrev poly : Nat := 2197175160
/-- One bit of the checksum's register. -/
def turn (r : Nat) : Nat := r / 2 ^^^ (if r % 2 = 1 then poly else 0)
def turns : Nat → Nat → Nat
  | 0, r => r
  | n + 1, r => turns n (turn r)
def stepB (r : Nat) (b : UInt8) : Nat := turns 8 (r ^^^ b.toNat)
def regF (r : Nat) (l : List UInt8) : Nat := l.foldl stepB r
def crc (l : List UInt8) : Nat := 4294967295 - regF 4294967295 l

theorem turn_lt {r : Nat} (h : r < 4294967296) : turn r < 4294967296 := by
  unfold turn
  refine Nat.xor_lt_two_pow (n := 32) (by omega) ?_
  split <;> decide
theorem turns_lt : ∀ (n : Nat) {r : Nat}, r < 4294967296 → turns n r < 4294967296
  | 0, _, h => h
  | n + 1, _, h => turns_lt n (turn_lt h)
theorem stepB_lt {r : Nat} (b : UInt8) (h : r < 4294967296) : stepB r b < 4294967296 :=
  turns_lt 8 (Nat.xor_lt_two_pow (n := 32) h (Nat.lt_trans b.toNat_lt (by decide)))
theorem regF_lt : ∀ (l : List UInt8) {r : Nat}, r < 4294967296 → regF r l < 4294967296
  | [], _, h => h
  | b :: l, _, h => regF_lt l (stepB_lt b h)
theorem crc_lt (l : List UInt8) : crc l < 4294967296 := by unfold crc; omega

theorem turn_xor (a b : Nat) : turn (a ^^^ b) = turn a ^^^ turn b := by
  unfold turn
  have h1 : (a ^^^ b) / 2 = a / 2 ^^^ b / 2 := by
    have := @Nat.xor_div_two_pow a b 1
    simpa using this
  have h2 : (a ^^^ b) % 2 = (a % 2) ^^^ (b % 2) := by
    have := @Nat.xor_mod_two_pow a b 1
    simpa using this
  rw [h1]
  have ha : a % 2 = 0 ∨ a % 2 = 1 := by omega
  have hb : b % 2 = 0 ∨ b % 2 = 1 := by omega
  rcases ha with ha | ha <;> rcases hb with hb | hb <;> rw [h2, ha, hb]
  · simp
  · simp [Nat.xor_assoc]
  · simp only [Nat.xor_zero, Nat.reduceXor, if_true, if_false, reduceIte, show ¬ (0 = 1) by omega]
    rw [Nat.xor_assoc, Nat.xor_comm (b / 2), ← Nat.xor_assoc]
  · simp only [Nat.reduceXor, if_true, if_false, reduceIte, show ¬ (0 = 1) by omega, Nat.xor_zero]
    rw [Nat.xor_assoc (a / 2), Nat.xor_comm poly, Nat.xor_assoc (b / 2), Nat.xor_self, Nat.xor_zero]
theorem turns_xor : ∀ (n a b : Nat), turns n (a ^^^ b) = turns n a ^^^ turns n b
  | 0, _, _ => rfl
  | n + 1, a, b => by show turns n (turn (a ^^^ b)) = _; rw [turn_xor, turns_xor n]; rfl
theorem turn_double (x : Nat) : turn (2 * x) = x := by
  unfold turn
  rw [if_neg (by omega), Nat.xor_zero]; omega
theorem turns_pow : ∀ (n x : Nat), turns n (x * 2 ^ n) = x
  | 0, x => by simp [turns]
  | n + 1, x => by
    show turns n (turn (x * 2 ^ (n + 1))) = x
    rw [show x * 2 ^ (n + 1) = 2 * (x * 2 ^ n) by rw [Nat.pow_succ, Nat.mul_left_comm 2]; exact congrArg _ (Nat.mul_comm _ _), turn_double, turns_pow n]
theorem turns_add : ∀ (n m r : Nat), turns (n + m) r = turns m (turns n r)
  | 0, m, r => by rw [Nat.zero_add]; rfl
  | n + 1, m, r => by rw [Nat.succ_add]; exact turns_add n m (turn r)
theorem turn_zero {r : Nat} (h : r < 4294967296) (h0 : turn r = 0) : r = 0 := by
  unfold turn at h0
  split at h0
  · have h1 := congrArg (· ^^^ poly) h0
    simp only [Nat.xor_assoc, Nat.xor_self, Nat.xor_zero, Nat.zero_xor] at h1
    unfold poly at h1; omega
  · rw [Nat.xor_zero] at h0; omega
theorem turns_zero : ∀ (n : Nat) {r : Nat}, r < 4294967296 → turns n r = 0 → r = 0
  | 0, _, _, h0 => h0
  | n + 1, _, h, h0 => turn_zero h (turns_zero n (turn_lt h) h0)
theorem turns_nought : ∀ (n : Nat), turns n 0 = 0
  | 0 => rfl
  | n + 1 => turns_nought n

/-- The bytes as one number, the first byte the least. -/
def numL : List UInt8 → Nat
  | [] => 0
  | b :: l => b.toNat ^^^ (numL l * 256)

theorem regF_num : ∀ (l : List UInt8) (r : Nat), regF r l = turns (8 * l.length) (r ^^^ numL l)
  | [], r => by simp [regF, turns, numL]
  | b :: l, r => by
    show regF (stepB r b) l = _
    rw [regF_num l, List.length_cons, show 8 * (l.length + 1) = 8 + 8 * l.length by omega, turns_add, numL, ← Nat.xor_assoc, turns_xor 8 _ (numL l * 256), show (256 : Nat) = 2 ^ 8 by rfl, turns_pow]
    rfl

theorem numL_inj : ∀ (a b : List UInt8), a.length = b.length → numL a = numL b → a = b
  | [], [], _, _ => rfl
  | [], _ :: _, h, _ => by simp at h
  | _ :: _, [], h, _ => by simp at h
  | x :: a, y :: b, h, e => by
    rw [numL, numL] at e
    have hx := x.toNat_lt
    have hy := y.toNat_lt
    have e1 := congrArg (· % 2 ^ 8) e
    have e2 := congrArg (· / 2 ^ 8) e
    simp only [Nat.xor_mod_two_pow, Nat.xor_div_two_pow] at e1 e2
    have p1 : ∀ z, z * 256 % 2 ^ 8 = 0 := fun z => by omega
    have p2 : ∀ z, z * 256 / 2 ^ 8 = z := fun z => by omega
    have p3 : ∀ z : UInt8, z.toNat % 2 ^ 8 = z.toNat := fun z => Nat.mod_eq_of_lt z.toNat_lt
    have p4 : ∀ z : UInt8, z.toNat / 2 ^ 8 = 0 := fun z => Nat.div_eq_of_lt z.toNat_lt
    rw [p1, p1, p3, p3, Nat.xor_zero, Nat.xor_zero] at e1
    rw [p2, p2, p4, p4, Nat.zero_xor, Nat.zero_xor] at e2
    rw [UInt8.toNat_inj.1 e1, numL_inj a b (by simpa using h) e2]

theorem mul_two_pow_xor (a b n : Nat) : (a ^^^ b) * 2 ^ n = a * 2 ^ n ^^^ b * 2 ^ n := by
  rw [← Nat.shiftLeft_eq, ← Nat.shiftLeft_eq, ← Nat.shiftLeft_eq, Nat.shiftLeft_xor_distrib]

theorem numL_set : ∀ (l : List UInt8) (j : Nat) (x m : UInt8), l[j]? = some x → numL (l.set j (x ^^^ m)) = numL l ^^^ (m.toNat * 2 ^ (8 * j))
  | [], _, _, _, h => by simp at h
  | y :: l, 0, x, m, h => by
    simp only [List.getElem?_cons_zero, Option.some.injEq] at h
    subst h
    rw [List.set_cons_zero, numL, numL, UInt8.toNat_xor]
    simp only [Nat.mul_zero, Nat.pow_zero, Nat.mul_one]
    rw [Nat.xor_assoc, Nat.xor_comm m.toNat, ← Nat.xor_assoc]
  | y :: l, j + 1, x, m, h => by
    simp only [List.getElem?_cons_succ] at h
    rw [List.set_cons_succ, numL, numL, numL_set l j x m h, Nat.xor_assoc, show (256 : Nat) = 2 ^ 8 by rfl, mul_two_pow_xor, Nat.mul_assoc, ← Nat.pow_add, show 8 * j + 8 = 8 * (j + 1) by omega]

/-- Bodies of one length that differ only within 32 bits: their checksums are the same just where they are. -/
theorem crc_burst (a b : List UInt8) (hl : a.length = b.length) (q f : Nat) (hq : q < 4294967296) (hf : f ≤ 8 * a.length) (h : numL b = numL a ^^^ (q * 2 ^ f)) : crc a = crc b ↔ a = b := by
  refine ⟨fun e => ?_, fun e => by rw [e]⟩
  have h1 : regF 4294967295 a = regF 4294967295 b := by
    have k1 := regF_lt a (r := 4294967295) (by decide)
    have k2 := regF_lt b (r := 4294967295) (by decide)
    unfold crc at e
    omega
  rw [regF_num, regF_num, ← hl, h, ← Nat.xor_assoc, turns_xor _ (4294967295 ^^^ numL a)] at h1
  have h2 : turns (8 * a.length) (q * 2 ^ f) = 0 := by
    have := congrArg (turns (8 * a.length) (4294967295 ^^^ numL a) ^^^ ·) h1
    simpa [← Nat.xor_assoc] using this.symm
  have h3 : 8 * a.length = f + (8 * a.length - f) := by omega
  rw [h3, turns_add, turns_pow] at h2
  have h4 := turns_zero _ hq h2
  subst h4
  refine numL_inj a b hl ?_
  rw [h]; simp

theorem crc_set_ne (l : List UInt8) (j : Nat) (x m : UInt8) (h : l[j]? = some x) (hm : m ≠ 0) : crc (l.set j (x ^^^ m)) ≠ crc l := by
  intro e
  have hj : j < l.length := by
    by_cases hj : j < l.length
    · exact hj
    · rw [List.getElem?_eq_none (by omega)] at h; cases h
  have h1 := (crc_burst l (l.set j (x ^^^ m)) (by simp) m.toNat (8 * j) (Nat.lt_trans m.toNat_lt (by decide)) (by omega) (numL_set l j x m h)).1 e.symm
  have h2 := congrArg (·[j]?) h1
  simp only [List.getElem?_set_self hj, h, Option.some.injEq] at h2
  have h3 : x ^^^ (x ^^^ m) = x ^^^ x := by rw [← h2]
  rw [← UInt8.xor_assoc, UInt8.xor_self, UInt8.zero_xor] at h3
  exact hm h3

end Go.Proofs.Ytljbbhbebplknaa
