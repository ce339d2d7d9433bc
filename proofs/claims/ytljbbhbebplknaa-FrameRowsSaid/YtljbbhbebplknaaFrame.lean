/- Frames of bytes and their reading, as plain functions: what begins a text, what a reading tells, what a change of one byte does. -/
import Derived.Test.YtljbbhbebplknaaPlain
namespace Go.Proofs.Ytljbbhbebplknaa

abbrev Bs := List UInt8

def four (n : Nat) : Bs := [UInt8.ofNat (n % 256), UInt8.ofNat (n / 256 % 256), UInt8.ofNat (n / 65536 % 256), UInt8.ofNat (n / 16777216 % 256)]
def val : Bs → Nat
  | [a, b, c, d] => a.toNat + 256 * b.toNat + 65536 * c.toNat + 16777216 * d.toNat
  | _ => 0

@[simp] theorem four_length (n : Nat) : (four n).length = 4 := rfl
theorem toNat_mod (n : Nat) : (UInt8.ofNat (n % 256)).toNat = n % 256 := UInt8.toNat_ofNat_of_lt' (by have : n % 256 < 256 := Nat.mod_lt _ (by decide); exact this)
theorem val_four {n : Nat} (h : n < 4294967296) : val (four n) = n := by
  unfold four val
  simp only [toNat_mod]
  omega
theorem four_val : ∀ (l : Bs), l.length = 4 → four (val l) = l
  | [a, b, c, d], _ => by
    have ha := a.toNat_lt
    have hb := b.toNat_lt
    have hc := c.toNat_lt
    have hd := d.toNat_lt
    unfold four val
    have e1 : (a.toNat + 256 * b.toNat + 65536 * c.toNat + 16777216 * d.toNat) % 256 = a.toNat := by omega
    have e2 : (a.toNat + 256 * b.toNat + 65536 * c.toNat + 16777216 * d.toNat) / 256 % 256 = b.toNat := by omega
    have e3 : (a.toNat + 256 * b.toNat + 65536 * c.toNat + 16777216 * d.toNat) / 65536 % 256 = c.toNat := by omega
    have e4 : (a.toNat + 256 * b.toNat + 65536 * c.toNat + 16777216 * d.toNat) / 16777216 % 256 = d.toNat := by omega
    rw [e1, e2, e3, e4]; simp
theorem val_lt : ∀ (l : Bs), val l < 4294967296
  | [] => by decide
  | [_] => by show 0 < _; decide
  | [_, _] => by show 0 < _; decide
  | [_, _, _] => by show 0 < _; decide
  | [a, b, c, d] => by
    have ha := a.toNat_lt
    have hb := b.toNat_lt
    have hc := c.toNat_lt
    have hd := d.toNat_lt
    show a.toNat + 256 * b.toNat + 65536 * c.toNat + 16777216 * d.toNat < _; omega
  | _ :: _ :: _ :: _ :: _ :: _ => by show 0 < _; decide
theorem four_inj {a b : Nat} (ha : a < 4294967296) (hb : b < 4294967296) (h : four a = four b) : a = b := by
  rw [← val_four ha, ← val_four hb, h]

def sealF (l : Bs) : Bs := l ++ four (crc l)
def frameF (b : Bs) : Bs := sealF (four b.length) ++ sealF b
@[simp] theorem sealF_length (l : Bs) : (sealF l).length = l.length + 4 := by simp [sealF]
@[simp] theorem frameF_length (b : Bs) : (frameF b).length = b.length + 12 := by simp [frameF]; omega

def sealedF (s : Bs) (n : Nat) : Option Bs := if n + 4 ≤ s.length ∧ val ((s.drop n).take 4) = crc (s.take n) then some (s.take n) else none
theorem sealedF_iff (s : Bs) (n : Nat) (x : Bs) : sealedF s n = some x ↔ x.length = n ∧ sealF x <+: s := by
  unfold sealedF
  constructor
  · intro h
    split at h
    · rename_i hc
      simp only [Option.some.injEq] at h
      subst h
      refine ⟨by simp; omega, s.drop (n + 4), ?_⟩
      unfold sealF
      rw [← hc.2, four_val _ (by simp; omega), List.append_assoc, ← List.drop_drop, List.take_append_drop, List.take_append_drop]
    · cases h
  · rintro ⟨rfl, t, rfl⟩
    have e1 : (sealF x ++ t).take x.length = x := by simp [sealF]
    have e2 : ((sealF x ++ t).drop x.length).take 4 = four (crc x) := by
      simp only [sealF, List.append_assoc, List.drop_left]
      exact List.take_left' rfl
    rw [e1, e2, val_four (crc_lt x), if_pos ⟨by simp, rfl⟩]

def firstF (s : Bs) : Option Bs :=
  match sealedF s 4 with
  | none => none
  | some z => if 65536 < val z then none else sealedF (s.drop 8) (val z)

/-- A frame begins a text just where the text begins with the frame of a body. -/
theorem firstF_iff (s b : Bs) : firstF s = some b ↔ b.length ≤ 65536 ∧ frameF b <+: s := by
  unfold firstF
  constructor
  · intro h
    split at h
    · cases h
    · rename_i z hz
      split at h
      · cases h
      · rename_i hv
        obtain ⟨hl, t, rfl⟩ := (sealedF_iff _ _ _).1 hz
        rw [List.drop_left' (by simp [hl])] at h
        obtain ⟨hb, u, rfl⟩ := (sealedF_iff _ _ _).1 h
        refine ⟨by omega, u, ?_⟩
        rw [frameF, hb, four_val z hl, List.append_assoc]
  · rintro ⟨hb, t, rfl⟩
    have h1 : sealedF (frameF b ++ t) 4 = some (four b.length) := (sealedF_iff _ _ _).2 ⟨rfl, sealF b ++ t, by simp [frameF]⟩
    rw [h1]
    simp only [val_four (show b.length < 4294967296 by omega)]
    rw [if_neg (by omega)]
    refine (sealedF_iff _ _ _).2 ⟨rfl, t, ?_⟩
    rw [frameF, List.append_assoc, List.drop_left' (by simp)]

def oneF (s : Bs) : Option Bs :=
  if s.length < 12 then none
  else if 65536 < val (s.take 4) ∨ s.length < val (s.take 4) + 12 then none
  else if frameF ((s.drop 8).take (val (s.take 4))) = s.take (val (s.take 4) + 12) then some ((s.drop 8).take (val (s.take 4))) else none
theorem oneF_iff (s b : Bs) : oneF s = some b ↔ b.length ≤ 65536 ∧ frameF b <+: s := by
  unfold oneF
  constructor
  · intro h
    split at h
    · cases h
    split at h
    · cases h
    split at h
    · rename_i h1 h2 h3
      simp only [Option.some.injEq] at h
      subst h
      exact ⟨by simp; omega, by rw [h3]; exact List.take_prefix _ _⟩
    · cases h
  · rintro ⟨hb, t, rfl⟩
    have e1 : (frameF b ++ t).take 4 = four b.length := by
      simp only [frameF, sealF, List.append_assoc]
      exact List.take_left' rfl
    have e2 : ((frameF b ++ t).drop 8).take b.length = b := by
      rw [frameF, List.append_assoc, List.drop_left' (by simp)]
      simp [sealF]
    rw [e1, val_four (show b.length < 4294967296 by omega), e2, if_neg (by simp; omega), if_neg (by simp; omega), if_pos]
    rw [List.take_left' (by simp)]
theorem oneF_eq (s : Bs) : oneF s = firstF s := by
  apply Option.ext
  intro b
  rw [oneF_iff, firstF_iff]

def framesF (bs : List Bs) : Bs := bs.flatMap frameF
@[simp] theorem framesF_nil : framesF [] = [] := rfl
@[simp] theorem framesF_cons (b : Bs) (bs : List Bs) : framesF (b :: bs) = frameF b ++ framesF bs := rfl
theorem framesF_snoc (bs : List Bs) (b : Bs) : framesF (bs ++ [b]) = framesF bs ++ frameF b := by simp [framesF]
theorem framesF_len : ∀ (bs : List Bs), 12 * bs.length ≤ (framesF bs).length
  | [] => by simp
  | b :: bs => by have := framesF_len bs; simp; omega

/-- What a reading of s tells: the bodies of the frames that stand there one behind the other, and where no further one begins. -/
structure Scanned (s : Bs) (bs : List Bs) (n : Nat) : Prop where
  short : ∀ b, b ∈ bs → b.length ≤ 65536
  at_ : n = (framesF bs).length
  pre : framesF bs <+: s
  stop : firstF (s.drop n) = none

theorem scanned_nil {s : Bs} {bs : List Bs} {n : Nat} (h : Scanned s bs n) (h0 : firstF s = none) : bs = [] ∧ n = 0 := by
  cases bs with
  | nil => exact ⟨rfl, by rw [h.at_]; rfl⟩
  | cons b bs =>
    have : firstF s = some b := (firstF_iff s b).2 ⟨h.short b (by simp), (List.prefix_append _ _).trans h.pre⟩
    rw [this] at h0; cases h0
theorem scanned_cons {s : Bs} {b : Bs} {bs : List Bs} {n : Nat} (h : Scanned (frameF b ++ s) bs n) (hb : b.length ≤ 65536) : ∃ bs' n', bs = b :: bs' ∧ n = (frameF b).length + n' ∧ Scanned s bs' n' := by
  have h1 : firstF (frameF b ++ s) = some b := (firstF_iff _ b).2 ⟨hb, List.prefix_append _ _⟩
  cases bs with
  | nil =>
    have h2 := h.stop
    rw [h.at_, framesF_nil, List.length_nil, List.drop_zero, h1] at h2
    cases h2
  | cons c bs =>
    have h2 : firstF (frameF b ++ s) = some c := (firstF_iff _ c).2 ⟨h.short c (by simp), (List.prefix_append _ _).trans h.pre⟩
    rw [h1] at h2
    simp only [Option.some.injEq] at h2
    subst h2
    refine ⟨bs, (framesF bs).length, rfl, by rw [h.at_]; simp, ⟨fun c hc => h.short c (by simp [hc]), rfl, ?_, ?_⟩⟩
    · have := h.pre
      rw [framesF_cons] at this
      exact (List.prefix_append_right_inj _).1 this
    · have h3 := h.stop
      rw [h.at_, framesF_cons, List.length_append, ← List.drop_drop, List.drop_left' rfl] at h3
      exact h3
theorem scanned_rows : ∀ (put : List Bs) (more : Bs) (bs : List Bs) (n : Nat), (∀ b, b ∈ put → b.length ≤ 65536) → Scanned (framesF put ++ more) bs n → ∃ bs' n', bs = put ++ bs' ∧ n = (framesF put).length + n' ∧ Scanned more bs' n'
  | [], more, bs, n, _, h => ⟨bs, n, rfl, by simp, h⟩
  | b :: put, more, bs, n, hp, h => by
    rw [framesF_cons, List.append_assoc] at h
    obtain ⟨bs1, n1, rfl, rfl, h1⟩ := scanned_cons h (hp b (by simp))
    obtain ⟨bs2, n2, rfl, rfl, h2⟩ := scanned_rows put more bs1 n1 (fun c hc => hp c (by simp [hc])) h1
    exact ⟨bs2, n2, rfl, by simp; omega, h2⟩
theorem scanned_unique {s : Bs} {bs cs : List Bs} {n m : Nat} (h : Scanned s bs n) (k : Scanned s cs m) : bs = cs ∧ n = m := by
  obtain ⟨t, ht⟩ := h.pre
  have hstop : firstF t = none := by
    have := h.stop
    rw [← ht, h.at_, List.drop_left' rfl] at this
    exact this
  rw [← ht] at k
  obtain ⟨cs', m', rfl, rfl, h2⟩ := scanned_rows bs t cs m h.short k
  obtain ⟨rfl, rfl⟩ := scanned_nil h2 hstop
  exact ⟨by simp, by rw [h.at_]; simp⟩

/-- No frame begins where a frame has been cut off. -/
theorem cut_none (b : Bs) (k : Nat) (hb : b.length ≤ 65536) (hk : k < (frameF b).length) : firstF ((frameF b).take k) = none := by
  cases h : firstF ((frameF b).take k) with
  | none => rfl
  | some c =>
    exfalso
    obtain ⟨hc, h1⟩ := (firstF_iff _ c).1 h
    have h2 : firstF (frameF b) = some c := (firstF_iff _ c).2 ⟨hc, h1.trans (List.take_prefix _ _)⟩
    have h3 : firstF (frameF b) = some b := (firstF_iff _ b).2 ⟨hb, List.prefix_refl _⟩
    rw [h3] at h2
    simp only [Option.some.injEq] at h2
    subst h2
    have := h1.length_le
    rw [List.length_take] at this
    omega

theorem four_set_ne (n k : Nat) (x m : UInt8) (h : (four n)[k]? = some x) (hm : m ≠ 0) : (four n).set k (x ^^^ m) ≠ four n := by
  intro e
  exact crc_set_ne _ k x m h hm (by rw [e])

/-- No frame begins where one byte of a frame has been changed. -/
theorem torn_none (b : Bs) (k : Nat) (x m : UInt8) (more : Bs) (hb : b.length ≤ 65536) (hx : (frameF b)[k]? = some x) (hm : m ≠ 0) : firstF ((frameF b).set k (x ^^^ m) ++ more) = none := by
  cases h : firstF ((frameF b).set k (x ^^^ m) ++ more) with
  | none => rfl
  | some c =>
    exfalso
    obtain ⟨hc, t, ht⟩ := (firstF_iff _ c).1 h
    have hk : k < (frameF b).length := by
      by_cases hk : k < (frameF b).length
      · exact hk
      · rw [List.getElem?_eq_none (by omega)] at hx; cases hx
    rw [frameF_length] at hk
    simp only [frameF, sealF, List.append_assoc] at ht hx
    by_cases h4 : k < 4
    · rw [List.getElem?_append_left (by simpa using h4)] at hx
      rw [List.set_append_left _ _ (by simpa using h4)] at ht
      simp only [List.append_assoc] at ht
      obtain ⟨e1, ht⟩ := List.append_inj ht (by simp)
      obtain ⟨e2, -⟩ := List.append_inj ht (by simp)
      have := four_inj (crc_lt _) (crc_lt _) e2
      rw [e1] at this
      exact crc_set_ne _ k x m hx hm this
    · rw [List.getElem?_append_right (by simp; omega)] at hx
      rw [List.set_append_right _ _ (by simp; omega)] at ht
      simp only [List.append_assoc, four_length] at ht hx
      obtain ⟨e1, ht⟩ := List.append_inj ht (by simp)
      have hl := four_inj (by omega) (by omega) e1
      by_cases h8 : k < 8
      · rw [List.getElem?_append_left (by simp; omega)] at hx
        rw [List.set_append_left _ _ (by simp; omega)] at ht
        simp only [List.append_assoc] at ht
        obtain ⟨e2, -⟩ := List.append_inj ht (by simp)
        rw [e1] at e2
        exact four_set_ne _ _ x m hx hm e2.symm
      · rw [List.getElem?_append_right (by simp; omega)] at hx
        rw [List.set_append_right _ _ (by simp; omega)] at ht
        simp only [List.append_assoc, four_length] at ht hx
        obtain ⟨-, ht⟩ := List.append_inj ht (by simp)
        by_cases hn : k - 4 - 4 < b.length
        · rw [List.getElem?_append_left hn] at hx
          rw [List.set_append_left _ _ hn] at ht
          simp only [List.append_assoc] at ht
          obtain ⟨e3, ht⟩ := List.append_inj ht (by simp [hl])
          obtain ⟨e4, -⟩ := List.append_inj ht (by simp)
          have := four_inj (crc_lt _) (crc_lt _) e4
          rw [e3] at this
          exact crc_set_ne _ _ x m hx hm this
        · rw [List.getElem?_append_right (by omega)] at hx
          rw [List.set_append_right _ _ (by omega)] at ht
          simp only [List.append_assoc] at ht
          obtain ⟨e3, ht⟩ := List.append_inj ht hl
          obtain ⟨e4, -⟩ := List.append_inj ht (by simp)
          rw [e3] at e4
          exact four_set_ne _ _ x m hx hm e4.symm

end Go.Proofs.Ytljbbhbebplknaa
