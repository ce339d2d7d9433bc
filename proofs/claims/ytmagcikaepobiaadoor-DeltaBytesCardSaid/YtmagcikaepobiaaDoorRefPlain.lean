/- The plain mathematics of the document's own reader: digits, and what numbers they spell. -/
import Derived.Test.YtmagcikaepobiaaDoorList
import Derived.Lib.ParseIntB
namespace Go.Proofs.YtmagcikaepobiaaDoor

def valFrom (acc : Nat) (l : List UInt8) : Nat := l.foldl (fun n c => n * 10 + (c.toNat - 48)) acc
theorem val_nil (acc : Nat) : valFrom acc [] = acc := rfl
theorem val_step (acc : Nat) (c : UInt8) (r : List UInt8) : valFrom acc (c :: r) = valFrom (acc * 10 + (c.toNat - 48)) r := by unfold valFrom; rw [List.foldl_cons]
def AllDig (l : List UInt8) : Prop := ∀ c, c ∈ l → isDig c = true

theorem valFrom_snoc (l : List UInt8) (acc : Nat) (c : UInt8) : valFrom acc (l ++ [c]) = valFrom acc l * 10 + (c.toNat - 48) := by
  unfold valFrom; rw [List.foldl_append]; rfl
theorem valFrom_acc : ∀ (l : List UInt8) (acc : Nat), valFrom acc l = acc * 10 ^ l.length + valFrom 0 l
  | [], acc => by simp [val_nil]
  | d :: l, acc => by
    rw [val_step, val_step, valFrom_acc l, valFrom_acc l (0 * 10 + (d.toNat - 48)), List.length_cons, Nat.pow_succ, Nat.zero_mul, Nat.zero_add, Nat.add_mul, Nat.mul_assoc, Nat.mul_comm 10, Nat.add_assoc]
theorem valFrom_lt : ∀ (l : List UInt8), AllDig l → valFrom 0 l < 10 ^ l.length
  | [], _ => by simp [val_nil]
  | d :: l, h => by
    have hd := isDig_bd (h d (List.mem_cons_self))
    have ih := valFrom_lt l (fun c hc => h c (List.mem_cons_of_mem _ hc))
    rw [val_step, valFrom_acc, List.length_cons, Nat.pow_succ, Nat.zero_mul, Nat.zero_add]
    have : (d.toNat - 48) * 10 ^ l.length ≤ 9 * 10 ^ l.length := Nat.mul_le_mul_right _ (by omega)
    omega
theorem valFrom_cons (d : UInt8) (l : List UInt8) : valFrom 0 (d :: l) = (d.toNat - 48) * 10 ^ l.length + valFrom 0 l := by
  rw [val_step, valFrom_acc, Nat.zero_mul, Nat.zero_add]
theorem le_valFrom : ∀ (l : List UInt8) (acc : Nat), acc ≤ valFrom acc l
  | [], acc => Nat.le_refl _
  | d :: l, acc => by rw [val_step]; have := le_valFrom l (acc * 10 + (d.toNat - 48)); omega

/-- Digit texts of one length stand in the order of their numbers. -/
theorem lex_val : ∀ (a b : List UInt8), a.length = b.length → AllDig a → AllDig b → (Op.bytesLess a b || a == b) = decide (valFrom 0 a ≤ valFrom 0 b)
  | [], [], _, _, _ => by simp [Op.bytesLess, val_nil]
  | [], _ :: _, h, _, _ => by simp at h
  | _ :: _, [], h, _, _ => by simp at h
  | x :: a, y :: b, h, ha, hb => by
    have hx := isDig_bd (ha x List.mem_cons_self)
    have hy := isDig_bd (hb y List.mem_cons_self)
    have ha' : AllDig a := fun c hc => ha c (List.mem_cons_of_mem _ hc)
    have hb' : AllDig b := fun c hc => hb c (List.mem_cons_of_mem _ hc)
    have hl : a.length = b.length := by simpa using h
    have ih := lex_val a b hl ha' hb'
    have va := valFrom_lt a ha'
    have vb := valFrom_lt b hb'
    rw [valFrom_cons, valFrom_cons, hl] at *
    rcases Nat.lt_trichotomy x.toNat y.toNat with hxy | hxy | hxy
    · have h1 : x < y := by rw [UInt8.lt_iff_toNat_lt]; exact hxy
      have : (x.toNat - 48 + 1) * 10 ^ b.length ≤ (y.toNat - 48) * 10 ^ b.length := Nat.mul_le_mul_right _ (by omega)
      rw [Nat.add_mul] at this
      have h2 : ((x.toNat - 48) * 10 ^ b.length + valFrom 0 a ≤ (y.toNat - 48) * 10 ^ b.length + valFrom 0 b) := by omega
      simp [Op.bytesLess, h1, h2]
    · have h1 : x = y := UInt8.toNat_inj.1 hxy
      subst h1
      have h2 : ((x.toNat - 48) * 10 ^ b.length + valFrom 0 a ≤ (x.toNat - 48) * 10 ^ b.length + valFrom 0 b) ↔ valFrom 0 a ≤ valFrom 0 b := by omega
      rw [decide_eq_decide.2 h2, ← ih]
      simp [Op.bytesLess]
    · have h1 : ¬ x < y := by rw [UInt8.lt_iff_toNat_lt]; omega
      have h3 : ¬ x = y := fun e => by subst e; omega
      have : (y.toNat - 48 + 1) * 10 ^ b.length ≤ (x.toNat - 48) * 10 ^ b.length := Nat.mul_le_mul_right _ (by omega)
      rw [Nat.add_mul] at this
      have h2 : ¬ ((x.toNat - 48) * 10 ^ b.length + valFrom 0 a ≤ (y.toNat - 48) * 10 ^ b.length + valFrom 0 b) := by omega
      simp [Op.bytesLess, h1, h2, h3]

/-- Whether digits are a number that may be, as the document's fits tells it. -/
def fitsL (a ms : List UInt8) : Bool :=
  if 1 < a.length ∧ a[0]? = some 48 then false else decide (a.length < ms.length) || (decide (a.length = ms.length) && (Op.bytesLess a ms || a == ms))

theorem lead_val {c : UInt8} {r : List UInt8} (hc : isDig c = true) (h48 : c ≠ 48) : 10 ^ r.length ≤ valFrom 0 (c :: r) := by
  have hb := isDig_bd hc
  have : c.toNat ≠ 48 := fun e => h48 (UInt8.toNat_inj.1 e)
  rw [valFrom_cons]
  have : 1 * 10 ^ r.length ≤ (c.toNat - 48) * 10 ^ r.length := Nat.mul_le_mul_right _ (by omega)
  omega

theorem fits_val {a : List UInt8} {m : UInt8} {ms : List UInt8} (ha : AllDig a) (h0 : a ≠ []) (hms : AllDig (m :: ms)) (hm : m ≠ 48) (hlead : ¬ (1 < a.length ∧ a[0]? = some 48)) : fitsL a (m :: ms) = decide (valFrom 0 a ≤ valFrom 0 (m :: ms)) := by
  unfold fitsL
  rw [if_neg hlead]
  have hmv := lead_val (r := ms) (hms m List.mem_cons_self) hm
  rcases Nat.lt_trichotomy a.length (m :: ms).length with h | h | h
  · have hv := valFrom_lt a ha
    have : 10 ^ a.length ≤ 10 ^ ms.length := Nat.pow_le_pow_right (by omega) (by simp at h; omega)
    have h2 : valFrom 0 a ≤ valFrom 0 (m :: ms) := by omega
    simp only [h, decide_true, Bool.true_or, h2]
  · rw [lex_val a _ h ha hms]
    simp [h]
  · cases a with
    | nil => exact absurd rfl h0
    | cons c r =>
      have hc48 : c ≠ 48 := fun e => hlead ⟨by simp at h ⊢; omega, by simp [e]⟩
      have hv := lead_val (r := r) (ha c List.mem_cons_self) hc48
      have hmv' := valFrom_lt _ hms
      have : 10 ^ (m :: ms).length ≤ 10 ^ r.length := Nat.pow_le_pow_right (by omega) (by simp at h ⊢; omega)
      have h2 : ¬ valFrom 0 (c :: r) ≤ valFrom 0 (m :: ms) := by omega
      have h3 : ¬ (c :: r).length < (m :: ms).length := by omega
      have h4 : ¬ (c :: r).length = (m :: ms).length := by omega
      simp only [h2, h3, h4, decide_false, Bool.false_or, Bool.false_and]

/-- What the document's digits answers: the number, the error, the place. -/
def digF (most : Nat) : List UInt8 → Nat → Nat → Bool → Nat × Nat × Nat
  | [], i, _, _ => (0, 10, i)
  | c :: r, i, n, first =>
    if isDig c = true then
      if (n = 0 ∧ first = false) ∨ (most - (c.toNat - 48)) / 10 < n then (0, 11, i) else digF most r (i + 1) (n * 10 + (c.toNat - 48)) false
    else if first = true then (0, 11, i) else (n, 0, i)

/-- Digits, and then the byte that ends them. -/
theorem decF_digF (most : Nat) (e : UInt8) (he : isDig e = false) (l : List UInt8) : ∀ (r : List UInt8) (i n : Nat) (first : Bool), r = l.drop i → decF most e r i n first =
    match digF most r i n first with
    | (m, 0, k) => if l[k]? = some e then (m, 0, k + 1) else (0, 11, k)
    | (_, er + 1, k) => (0, er + 1, k)
  | [], i, n, first, h => by rw [decF_nil, digF]
  | c :: r, i, n, first, h => by
    have hlc : l[i]? = some c := by
      have : l[i]? = (l.drop i)[0]? := by simp
      rw [this, ← h]; rfl
    have hr : r = l.drop (i + 1) := by rw [← List.drop_drop, ← h]; rfl
    rw [decF_cons, digF]
    cases hd : isDig c
    · simp only [Bool.false_eq_true, if_false]
      cases first
      · simp only [Bool.false_eq_true, if_false, and_true, true_or, if_true]
        rw [hlc]
        by_cases hce : c = e
        · subst hce; simp
        · have : ¬ c.toNat = e.toNat := fun h => hce (UInt8.toNat_inj.1 h)
          simp [hce, this]
      · simp
    · have hce : ¬ c.toNat = e.toNat := fun h => by
        have : c = e := UInt8.toNat_inj.1 h
        rw [this, he] at hd; cases hd
      simp only [hce, false_and, if_false, Bool.true_eq_false, false_or, if_true]
      by_cases h1 : n = 0 ∧ first = false
      · simp [h1]
      · by_cases h2 : (most - (c.toNat - 48)) / 10 < n
        · simp [h1, h2]
        · rw [if_neg h1, if_neg h2, if_neg (by simp [h1, h2])]
          exact decF_digF most e he l r (i + 1) _ false hr

theorem parse_digits : ∀ (l : List UInt8) (acc : Nat), AllDig l → valFrom acc l ≤ 9223372036854775808 → Lib.parseUintM (2 ^ 64 - 1) acc l = .ok (valFrom acc l)
  | [], acc, _, _ => by rw [Lib.parseUintM, val_nil]
  | c :: r, acc, h, hv => by
    have hb := isDig_bd (h c List.mem_cons_self)
    rw [val_step] at hv
    have hle := le_valFrom r (acc * 10 + (c.toNat - 48))
    rw [Lib.parseUintM, if_pos hb, if_neg (by omega), if_neg (by omega), val_step]
    exact parse_digits r _ (fun c hc => h c (List.mem_cons_of_mem _ hc)) hv
theorem parse_pos {l : List UInt8} (h : AllDig l) (h0 : l ≠ []) (hv : valFrom 0 l ≤ 9223372036854775807) : Lib.parseIntB 64 l = .ok (valFrom 0 l : Int) := by
  cases l with
  | nil => exact absurd rfl h0
  | cons c r =>
    have hb := isDig_bd (h c List.mem_cons_self)
    have hp := parse_digits (c :: r) 0 h (by omega)
    have e1 : (if c.toNat = 43 ∨ c.toNat = 45 then r else c :: r) = c :: r := if_neg (by omega)
    have e2 : Lib.parseUintB 64 (c :: r) = .ok (valFrom 0 (c :: r)) := by unfold Lib.parseUintB; rw [if_neg (by simp), hp]
    simp only [Lib.parseIntB, e1, e2]
    rw [if_neg (by omega), if_neg (by omega), if_neg (by omega)]
theorem parse_neg {l : List UInt8} (h : AllDig l) (h0 : l ≠ []) (hv : valFrom 0 l ≤ 9223372036854775808) : Lib.parseIntB 64 (45 :: l) = .ok (-(valFrom 0 l : Int)) := by
  have hp := parse_digits l 0 h hv
  have e0 : UInt8.toNat 45 = 45 := rfl
  have e1 : (if UInt8.toNat 45 = 43 ∨ UInt8.toNat 45 = 45 then l else 45 :: l) = l := if_pos (.inr rfl)
  have e2 : Lib.parseUintB 64 l = .ok (valFrom 0 l) := by unfold Lib.parseUintB; rw [if_neg h0, hp]
  simp only [Lib.parseIntB, e1, e2]
  rw [if_neg (fun h => h.1 e0), if_neg (fun h => by have := h.2; omega), if_pos e0]

end Go.Proofs.YtmagcikaepobiaaDoor
