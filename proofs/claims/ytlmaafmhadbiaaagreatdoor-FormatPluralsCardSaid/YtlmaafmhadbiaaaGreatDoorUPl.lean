/- Plural rules: what is valid, what holds, what is written, what is read: plain mathematics, in the program's shape and in the document's. -/
import Derived.Lib.ItoaLen
namespace Go.Proofs.YtlmaafmhadbiaaaGreatDoor.Pu

structure Sp where
  lo : Int
  hi : Int
structure Rl where
  m : Int
  neg : Bool
  sp : List Sp
abbrev Rule := List (List Rl)

/- Validity. -/
def rgS (x : Sp) : Bool := decide (0 ≤ x.lo) && (decide (x.lo ≤ x.hi) && decide (x.hi ≤ 1000000))
def allR {α : Type} (f : α → Bool) (l : List α) : Bool := decide (1 ≤ l.length ∧ l.length ≤ 10) && l.all f
def rgR (x : Rl) : Bool := decide (0 ≤ x.m ∧ x.m ≠ 1 ∧ x.m ≤ 1000000) && allR rgS x.sp
def rgRow (r : List Rl) : Bool := allR rgR r
def rgRule (r : Rule) : Bool := allR rgRow r

/- What holds of an amount. -/
def inS (sp : List Sp) (i : Int) : Bool := sp.any fun s => decide (s.lo ≤ i) && decide (i ≤ s.hi)
def hoR (x : Rl) (i : Int) : Bool := inS x.sp (if 0 < x.m then i % x.m else i) != x.neg
def hoRow (r : List Rl) (i : Int) : Bool := r.all fun x => hoR x i
def hoRule (r : Rule) (i : Int) : Bool := r.any fun x => hoRow x i

/- The text. -/
def txS (x : Sp) : List UInt8 := if x.hi = x.lo then Lib.itoa x.lo else Lib.itoa x.lo ++ [46, 46] ++ Lib.itoa x.hi
def joinF {α : Type} (f : α → List UInt8) (sep : List UInt8) : List α → List UInt8
  | [] => []
  | [x] => f x
  | x :: y :: r => f x ++ sep ++ joinF f sep (y :: r)
def txR (x : Rl) : List UInt8 := [105] ++ (if 0 < x.m then [32, 37, 32] ++ Lib.itoa x.m else []) ++ (if x.neg then [32, 33, 61, 32] else [32, 61, 32]) ++ joinF txS [44] x.sp
def txRow (r : List Rl) : List UInt8 := joinF txR [32, 97, 110, 100, 32] r
def txRule (r : Rule) : List UInt8 := joinF txRow [32, 111, 114, 32] r

/- The reader, in the program's shape. -/
abbrev St := Nat × Bool
def nextF (l t : List UInt8) (S : St) : Bool := !S.2 && t.isPrefixOf (l.drop S.1)
def wordF (l : List UInt8) : List UInt8 → St → St
  | [], S => S
  | c :: r, S => if nextF l [c] S then wordF l r (S.1 + 1, false) else (S.1, true)
def isDg (c : UInt8) : Bool := decide (48 ≤ c.toNat ∧ c.toNat ≤ 57)
def numL (l : List UInt8) : Nat → Nat → Nat → Nat × Nat
  | 0, n, a => (n, a)
  | f + 1, n, a =>
    match l[a]? with
    | some c => if isDg c ∧ n * 10 + (c.toNat - 48) ≤ 1000000 then numL l f (n * 10 + (c.toNat - 48)) (a + 1) else (n, a)
    | none => (n, a)
def numF (l : List UInt8) (S : St) : Nat × St :=
  if S.2 then (0, S) else if l[S.1]? = some 48 then (0, (S.1 + 1, false)) else ((numL l (l.length - S.1) 0 S.1).1, ((numL l (l.length - S.1) 0 S.1).2, decide ((numL l (l.length - S.1) 0 S.1).2 = S.1)))
def spanF (l : List UInt8) (S : St) : Sp × St :=
  if nextF l [46] (numF l S).2 then (⟨(numF l S).1, (numF l (wordF l [46, 46] (numF l S).2)).1⟩, (numF l (wordF l [46, 46] (numF l S).2)).2)
  else (⟨(numF l S).1, (numF l S).1⟩, (numF l S).2)
def spansL (l : List UInt8) : Nat → List Sp → St → List Sp × St
  | 0, xs, S => (xs, S)
  | f + 1, xs, S => if nextF l [44] S then spansL l f (xs ++ [(spanF l (wordF l [44] S)).1]) (spanF l (wordF l [44] S)).2 else (xs, S)
def spansF (l : List UInt8) (S : St) : List Sp × St := spansL l l.length [(spanF l S).1] (spanF l S).2
def modF (l : List UInt8) (S : St) : Nat × St := if nextF l [32, 37] S then numF l (wordF l [32, 37, 32] S) else (0, S)
def negF (l : List UInt8) (S : St) : Bool × St := if nextF l [32, 33] S then (true, wordF l [32, 33, 61, 32] S) else (false, wordF l [32, 61, 32] S)
def relF (l : List UInt8) (S : St) : Rl × St :=
  (⟨(modF l (wordF l [105] S)).1, (negF l (modF l (wordF l [105] S)).2).1, (spansF l (negF l (modF l (wordF l [105] S)).2).2).1⟩, (spansF l (negF l (modF l (wordF l [105] S)).2).2).2)
def rowL (l : List UInt8) : Nat → List Rl → St → List Rl × St
  | 0, xs, S => (xs, S)
  | f + 1, xs, S => if nextF l [32, 97] S then rowL l f (xs ++ [(relF l (wordF l [32, 97, 110, 100, 32] S)).1]) (relF l (wordF l [32, 97, 110, 100, 32] S)).2 else (xs, S)
def rowF (l : List UInt8) (S : St) : List Rl × St := rowL l l.length [(relF l S).1] (relF l S).2
def ruleL (l : List UInt8) : Nat → Rule → St → Rule × St
  | 0, xs, S => (xs, S)
  | f + 1, xs, S => if S.2 = false ∧ S.1 < l.length then ruleL l f (xs ++ [(rowF l (wordF l [32, 111, 114, 32] S)).1]) (rowF l (wordF l [32, 111, 114, 32] S)).2 else (xs, S)
def ruleF (l : List UInt8) (S : St) : Rule × St := ruleL l l.length [(rowF l S).1] (rowF l S).2
/-- The rule, the error, the place. -/
def parseF (l : List UInt8) : Rule × Nat × Nat :=
  if 400 < l.length then ([], 2, 0)
  else if (ruleF l (0, false)).2.2 then ([], if (ruleF l (0, false)).2.1 = l.length then 10 else 80, (ruleF l (0, false)).2.1)
  else if rgRule (ruleF l (0, false)).1 = true ∧ txRule (ruleF l (0, false)).1 = l then ((ruleF l (0, false)).1, 0, 0) else ([], 1, 0)

/- Where the reader stands. -/
theorem next_iff {l : List UInt8} {c : UInt8} {S : St} : nextF l [c] S = true ↔ S.2 = false ∧ l[S.1]? = some c := by
  unfold nextF
  cases hd : l.drop S.1 with
  | nil =>
    have : l[S.1]? = none := by rw [List.getElem?_eq_none]; simpa using hd
    simp [this]
  | cons d r =>
    have : l[S.1]? = some d := by rw [← Nat.add_zero S.1, ← List.getElem?_drop, hd]; rfl
    rw [this]; simp [List.isPrefixOf]; intro _; exact eq_comm
theorem next_in {l t : List UInt8} {c : UInt8} {S : St} (h : nextF l (c :: t) S = true) : S.2 = false ∧ l[S.1]? = some c := by
  have : nextF l [c] S = true := by
    unfold nextF at *
    cases hd : l.drop S.1 with
    | nil => rw [hd] at h; simp [List.isPrefixOf] at h
    | cons d r => rw [hd] at h; simp [List.isPrefixOf] at h ⊢; exact ⟨h.1, h.2.1⟩
  exact next_iff.1 this
theorem get_lt {l : List UInt8} {a : Nat} {c : UInt8} (h : l[a]? = some c) : a < l.length := (List.getElem?_eq_some_iff.1 h).1
theorem word_ge (l : List UInt8) : ∀ (t : List UInt8) (S : St), S.1 ≤ (wordF l t S).1 ∧ (S.1 ≤ l.length → (wordF l t S).1 ≤ l.length)
  | [], S => ⟨Nat.le_refl _, id⟩
  | c :: r, S => by
    rw [wordF]
    split
    · rename_i h
      have h1 := get_lt (next_iff.1 h).2
      have h2 := word_ge l r (S.1 + 1, false)
      exact ⟨by have := h2.1; simp only at this; omega, fun _ => h2.2 h1⟩
    · exact ⟨Nat.le_refl _, id⟩
theorem numL_ge (l : List UInt8) : ∀ (f n a : Nat), a ≤ (numL l f n a).2 ∧ (a ≤ l.length → (numL l f n a).2 ≤ l.length)
  | 0, n, a => ⟨Nat.le_refl _, id⟩
  | f + 1, n, a => by
    rw [numL]
    split
    · rename_i c hc
      split
      · have h2 := numL_ge l f (n * 10 + (c.toNat - 48)) (a + 1)
        exact ⟨by omega, fun _ => h2.2 (get_lt hc)⟩
      · exact ⟨Nat.le_refl _, id⟩
    · exact ⟨Nat.le_refl _, id⟩
theorem numL_le (l : List UInt8) : ∀ (f n a : Nat), n ≤ 1000000 → (numL l f n a).1 ≤ 1000000
  | 0, n, a, h => h
  | f + 1, n, a, h => by
    rw [numL]
    split
    · rename_i c hc
      split
      · rename_i hh
        exact numL_le l f _ _ hh.2
      · exact h
    · exact h
theorem num_ge (l : List UInt8) (S : St) : S.1 ≤ (numF l S).2.1 ∧ (S.1 ≤ l.length → (numF l S).2.1 ≤ l.length) := by
  unfold numF
  split
  · exact ⟨Nat.le_refl _, id⟩
  · split
    · rename_i h
      exact ⟨by simp, fun _ => get_lt h⟩
    · exact numL_ge l _ _ _
theorem num_le (l : List UInt8) (S : St) : (numF l S).1 ≤ 1000000 := by
  unfold numF
  split
  · simp
  · split
    · simp
    · exact numL_le l _ _ _ (by omega)
def Ge (l : List UInt8) (S S' : St) : Prop := S.1 ≤ S'.1 ∧ (S.1 ≤ l.length → S'.1 ≤ l.length)
theorem Ge.refl (l : List UInt8) (S : St) : Ge l S S := ⟨Nat.le_refl _, id⟩
theorem Ge.trans {l : List UInt8} {A B C : St} (h : Ge l A B) (k : Ge l B C) : Ge l A C := ⟨Nat.le_trans h.1 k.1, fun x => k.2 (h.2 x)⟩
theorem ge_word (l t : List UInt8) (S : St) : Ge l S (wordF l t S) := word_ge l t S
theorem ge_num (l : List UInt8) (S : St) : Ge l S (numF l S).2 := num_ge l S
theorem ge_span (l : List UInt8) (S : St) : Ge l S (spanF l S).2 := by
  unfold spanF
  split
  · exact (ge_num l S).trans ((ge_word l _ _).trans (ge_num l _))
  · exact ge_num l S
theorem ge_spansL (l : List UInt8) : ∀ (f : Nat) (xs : List Sp) (S : St), Ge l S (spansL l f xs S).2
  | 0, xs, S => Ge.refl l S
  | f + 1, xs, S => by
    rw [spansL]
    split
    · exact (ge_word l _ _).trans ((ge_span l _).trans (ge_spansL l f _ _))
    · exact Ge.refl l S
theorem ge_spans (l : List UInt8) (S : St) : Ge l S (spansF l S).2 := (ge_span l S).trans (ge_spansL l _ _ _)
theorem ge_mod (l : List UInt8) (S : St) : Ge l S (modF l S).2 := by
  unfold modF; split
  · exact (ge_word l _ _).trans (ge_num l _)
  · exact Ge.refl l S
theorem ge_neg (l : List UInt8) (S : St) : Ge l S (negF l S).2 := by
  unfold negF; split
  · exact ge_word l _ _
  · exact ge_word l _ _
theorem ge_rel (l : List UInt8) (S : St) : Ge l S (relF l S).2 := (ge_word l _ _).trans ((ge_mod l _).trans ((ge_neg l _).trans (ge_spans l _)))
theorem ge_rowL (l : List UInt8) : ∀ (f : Nat) (xs : List Rl) (S : St), Ge l S (rowL l f xs S).2
  | 0, xs, S => Ge.refl l S
  | f + 1, xs, S => by
    rw [rowL]
    split
    · exact (ge_word l _ _).trans ((ge_rel l _).trans (ge_rowL l f _ _))
    · exact Ge.refl l S
theorem ge_row (l : List UInt8) (S : St) : Ge l S (rowF l S).2 := (ge_rel l S).trans (ge_rowL l _ _ _)
theorem ge_ruleL (l : List UInt8) : ∀ (f : Nat) (xs : Rule) (S : St), Ge l S (ruleL l f xs S).2
  | 0, xs, S => Ge.refl l S
  | f + 1, xs, S => by
    rw [ruleL]
    split
    · exact (ge_word l _ _).trans ((ge_row l _).trans (ge_ruleL l f _ _))
    · exact Ge.refl l S
theorem ge_rule (l : List UInt8) (S : St) : Ge l S (ruleF l S).2 := (ge_row l S).trans (ge_ruleL l _ _ _)
/-- A word that is next takes at least one byte. -/
theorem word_on {l t u : List UInt8} {c : UInt8} {S : St} (h : nextF l (c :: t) S = true) : S.1 + 1 ≤ (wordF l (c :: u) S).1 := by
  obtain ⟨h1, h2⟩ := next_in h
  rw [wordF, if_pos (next_iff.2 ⟨h1, h2⟩)]
  exact (word_ge l u (S.1 + 1, false)).1
theorem next_end {l t : List UInt8} {c : UInt8} {S : St} (h : l.length ≤ S.1) : nextF l (c :: t) S = false := by
  cases hb : nextF l (c :: t) S
  · rfl
  · have := get_lt (next_in hb).2; omega
end Go.Proofs.YtlmaafmhadbiaaaGreatDoor.Pu
