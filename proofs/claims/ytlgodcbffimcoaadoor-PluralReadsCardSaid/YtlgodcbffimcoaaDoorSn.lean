/- The document's reader, in its own shape; it reads what the program's reads: plain mathematics. -/
import Derived.Test.YtlgodcbffimcoaaDoorBl
namespace Go.Proofs.YtlgodcbffimcoaaDoor

/- The document's reader. -/
def rNumL (l : List UInt8) : Nat → Nat → Nat → Nat × St
  | 0, n, a => (n, (a, false))
  | f + 1, n, a =>
    match l[a]? with
    | some c => if isDg c = true then (if n = 0 ∨ 1000000 < nx n c then (0, (a, true)) else rNumL l f (nx n c) (a + 1)) else (n, (a, false))
    | none => (n, (a, false))
def rNum (l : List UInt8) (S : St) : Nat × St :=
  if S.2 then (0, S) else
    match l[S.1]? with
    | some c => if isDg c = true then rNumL l (l.length - (S.1 + 1)) (c.toNat - 48) (S.1 + 1) else (0, (S.1, true))
    | none => (0, (S.1, true))
def nowF (l : List UInt8) (S : St) : Option UInt8 := if S.2 then none else l[S.1]?
def rSpan (l : List UInt8) (S : St) (b : Bool) : Sp × St × Bool :=
  if nowF l (rNum l S).2 = some 46 then (⟨(rNum l S).1, (rNum l (wordF l [46, 46] (rNum l S).2)).1⟩, (rNum l (wordF l [46, 46] (rNum l S).2)).2, b && decide ((rNum l S).1 < (rNum l (wordF l [46, 46] (rNum l S).2)).1))
  else (⟨(rNum l S).1, (rNum l S).1⟩, (rNum l S).2, b)
def rSpansL (l : List UInt8) : Nat → List Sp → St → Bool → List Sp × St × Bool
  | 0, xs, S, b => (xs, S, b)
  | f + 1, xs, S, b => if nowF l S = some 44 then rSpansL l f (xs ++ [(rSpan l (S.1 + 1, false) b).1]) (rSpan l (S.1 + 1, false) b).2.1 (rSpan l (S.1 + 1, false) b).2.2 else (xs, S, b)
def rSpans (l : List UInt8) (S : St) (b : Bool) : List Sp × St × Bool := rSpansL l l.length [(rSpan l S b).1] (rSpan l S b).2.1 (rSpan l S b).2.2
def rMod (l : List UInt8) (S : St) (b : Bool) : Nat × St × Bool :=
  if nowF l S = some 37 then ((rNum l (wordF l [37, 32] S)).1, wordF l [32] (rNum l (wordF l [37, 32] S)).2, b && decide (0 < (rNum l (wordF l [37, 32] S)).1)) else (0, S, b)
def rNeg (l : List UInt8) (S : St) : Bool × St := if nowF l S = some 33 then (true, wordF l [61, 32] (S.1 + 1, false)) else (false, wordF l [61, 32] S)
def rRel (l : List UInt8) (S : St) (b : Bool) : Rl × St × Bool :=
  (⟨(rMod l (wordF l [105, 32] S) b).1, (rNeg l (rMod l (wordF l [105, 32] S) b).2.1).1, (rSpans l (rNeg l (rMod l (wordF l [105, 32] S) b).2.1).2 (rMod l (wordF l [105, 32] S) b).2.2).1⟩,
    (rSpans l (rNeg l (rMod l (wordF l [105, 32] S) b).2.1).2 (rMod l (wordF l [105, 32] S) b).2.2).2)

/- A digit behind a number: the document stops there, the program a step later. -/
def gd (l : List UInt8) (S : St) : St := if S.2 = false ∧ (∃ c, l[S.1]? = some c ∧ isDg c = true) then (S.1, true) else S
theorem gd_stuck (l : List UInt8) (a : Nat) : gd l (a, true) = (a, true) := by unfold gd; rw [if_neg (by simp)]
theorem gd_fst (l : List UInt8) (S : St) : (gd l S).1 = S.1 := by unfold gd; split <;> rfl
theorem gd_live {l : List UInt8} {S : St} (h : (gd l S).2 = false) : gd l S = S ∧ S.2 = false := by
  unfold gd at h ⊢
  split at h
  · cases h
  · rename_i hn; rw [if_neg hn]; exact ⟨rfl, h⟩
theorem word_gd {l r : List UInt8} {c : UInt8} (hc : isDg c = false) (S : St) : wordF l (c :: r) (gd l S) = wordF l (c :: r) S := by
  unfold gd
  split
  · rename_i h
    obtain ⟨h1, d, h2, h3⟩ := h
    have : nextF l [c] S = false := by
      cases hb : nextF l [c] S
      · rfl
      · have := (next_iff.1 hb).2; rw [h2] at this; obtain rfl := Option.some.inj this; rw [hc] at h3; cases h3
    rw [wordF, wordF, this]
    have : nextF l [c] (S.1, true) = false := rfl
    rw [this]
    first | done | rfl
  · rfl
theorem now_iff {l : List UInt8} {S : St} {c : UInt8} : nowF l S = some c ↔ nextF l [c] S = true := by
  rw [next_iff]; unfold nowF
  cases S.2 <;> simp
theorem now_gd {l : List UInt8} {S : St} {c : UInt8} (hc : isDg c = false) : nowF l (gd l S) = some c ↔ nowF l S = some c := by
  unfold gd
  split
  · rename_i h
    obtain ⟨h1, d, h2, h3⟩ := h
    unfold nowF
    simp only [if_true]
    rw [h1, if_neg (by simp), h2]
    constructor
    · intro e; cases e
    · intro e; obtain rfl := Option.some.inj e; rw [hc] at h3; cases h3
  · rfl
theorem word_app (l : List UInt8) : ∀ (u v : List UInt8) (S : St), wordF l (u ++ v) S = wordF l v (wordF l u S)
  | [], v, S => rfl
  | c :: r, v, S => by
    rw [List.cons_append, wordF, wordF]
    cases hb : nextF l [c] S with
    | true => rw [if_pos rfl, if_pos rfl, word_app l r v]
    | false =>
      rw [if_neg (by simp), if_neg (by simp)]
      cases v with
      | nil => rfl
      | cons d v => rw [wordF]; rfl
theorem word_stuck (l t : List UInt8) (a : Nat) : wordF l t (a, true) = (a, true) := by
  cases t with
  | nil => rfl
  | cons c r => rw [wordF]; rfl

/- Numbers. -/
theorem numL_rNumL {l : List UInt8} : ∀ (f n a : Nat), 0 < n → l.length - a ≤ f → (rNumL l f n a).2 = gd l ((numL l f n a).2, false) ∧ ((rNumL l f n a).2.2 = false → (rNumL l f n a).1 = (numL l f n a).1)
  | 0, n, a, hn, hf => by
    rw [rNumL, numL]
    refine ⟨?_, fun _ => rfl⟩
    unfold gd
    rw [if_neg]
    rintro ⟨-, c, hc, -⟩
    have := get_lt hc; simp only at this; omega
  | f + 1, n, a, hn, hf => by
    rw [rNumL]
    cases hc : l[a]? with
    | none =>
      rw [numL_none hc]
      refine ⟨?_, fun _ => rfl⟩
      unfold gd
      rw [if_neg]
      rintro ⟨-, c, hc2, -⟩
      simp only at hc2; rw [hc] at hc2; cases hc2
    | some c =>
      cases hd : isDg c with
      | false =>
        rw [numL_stop hc hd]
        simp only [hd, Bool.false_eq_true, if_false]
        refine ⟨?_, fun _ => trivial⟩
        unfold gd
        rw [if_neg]
        · rintro ⟨-, d, hc2, hd2⟩
          simp only at hc2; rw [hc] at hc2; obtain rfl := Option.some.inj hc2; rw [hd] at hd2; cases hd2
      | true =>
        simp only [hd, if_true]
        by_cases hb : 1000000 < nx n c
        · rw [if_pos (.inr hb)]
          have : numL l (f + 1) n a = (n, a) := by
            rw [numL, hc]; exact if_neg (fun hh => by have h9 := hh.2; rw [← nx_def] at h9; omega)
          rw [this]
          refine ⟨?_, fun h => by cases h⟩
          unfold gd
          rw [if_pos ⟨rfl, c, hc, hd⟩]
        · rw [if_neg (by omega), numL_step hc hd (by omega)]
          exact numL_rNumL f (nx n c) (a + 1) (Nat.lt_of_lt_of_le hn (nx_ge n c)) (by omega)
theorem numL_end' {l : List UInt8} {n a f : Nat} (hc : l[a]? = none) : numL l f n a = (n, a) := by
  cases f with
  | zero => rw [numL]
  | succ f => exact numL_none hc
theorem rNum_num (l : List UInt8) (S : St) : (rNum l S).2 = gd l (numF l S).2 ∧ ((rNum l S).2.2 = false → (rNum l S).1 = (numF l S).1) := by
  obtain ⟨a, st⟩ := S
  unfold rNum numF
  cases st with
  | true => exact ⟨(gd_stuck l a).symm, fun h => by cases h⟩
  | false =>
    simp only [Bool.false_eq_true, if_false]
    cases hc : l[a]? with
    | none =>
      rw [if_neg (by simp), numL_end' hc]
      simp only [decide_true]
      exact ⟨(gd_stuck l a).symm, fun h => by cases h⟩
    | some c =>
      cases hd : isDg c with
      | false =>
        have h48 : ¬ (some c = some (48 : UInt8)) := by
          intro e; obtain rfl := Option.some.inj e; cases hd
        have hlt := get_lt hc
        rw [if_neg h48]
        obtain ⟨f, hf⟩ : ∃ f, l.length - a = f + 1 := ⟨l.length - a - 1, by omega⟩
        rw [hf, numL_stop hc hd]
        simp only [hd, decide_true]
        exact ⟨(gd_stuck l a).symm, fun h => by cases h⟩
      | true =>
        have hlt := get_lt hc
        simp only [hd, if_true]
        by_cases h48 : c = 48
        · subst h48
          rw [if_pos rfl]
          have hz : (48 : UInt8).toNat - 48 = 0 := rfl
          rw [hz]
          cases hd2 : l[a + 1]? with
          | none =>
            have : l.length - (a + 1) = 0 := by rw [List.getElem?_eq_none_iff] at hd2; omega
            rw [this, rNumL]
            refine ⟨?_, fun _ => rfl⟩
            unfold gd; rw [if_neg]
            rintro ⟨-, c, hc2, -⟩
            simp only at hc2; rw [hd2] at hc2; cases hc2
          | some d =>
            have hlt2 := get_lt hd2
            obtain ⟨f, hf⟩ : ∃ f, l.length - (a + 1) = f + 1 := ⟨l.length - (a + 1) - 1, by omega⟩
            rw [hf, rNumL, hd2]
            simp only
            cases hdd : isDg d with
            | false =>
              simp only [Bool.false_eq_true, if_false]
              refine ⟨?_, fun _ => by simp⟩
              unfold gd; rw [if_neg]
              rintro ⟨-, c, hc2, hc3⟩
              simp only at hc2; rw [hd2] at hc2; obtain rfl := Option.some.inj hc2; rw [hdd] at hc3; cases hc3
            | true =>
              simp only [if_true, true_or]
              refine ⟨?_, fun h => by cases h⟩
              unfold gd; rw [if_pos ⟨rfl, d, hd2, hdd⟩]
        · have hne : ¬ (some c = some (48 : UInt8)) := fun e => h48 (Option.some.inj e)
          rw [if_neg hne]
          obtain ⟨f, hf⟩ : ∃ f, l.length - a = f + 1 := ⟨l.length - a - 1, by omega⟩
          have hcd : 48 ≤ c.toNat ∧ c.toNat ≤ 57 := by unfold isDg at hd; simpa using hd
          have hpos : 0 < c.toNat - 48 := by
            have : c.toNat ≠ 48 := fun e => h48 (by rw [← UInt8.toNat_inj]; exact e)
            omega
          have h0 : nx 0 c = c.toNat - 48 := by rw [nx_def]; omega
          have hstep : numL l (f + 1) 0 a = numL l f (nx 0 c) (a + 1) := numL_step hc hd (by rw [h0]; omega)
          have hff : l.length - (a + 1) = f := by omega
          rw [hf, hff, hstep, h0]
          obtain ⟨h1, h2⟩ := numL_rNumL (l := l) f (c.toNat - 48) (a + 1) hpos (by omega)
          have hge := (numL_ge l f (c.toNat - 48) (a + 1)).1
          have hdec : decide ((numL l f (c.toNat - 48) (a + 1)).2 = a) = false := by simp; omega
          rw [hdec]
          exact ⟨h1, h2⟩
end Go.Proofs.YtlgodcbffimcoaaDoor
