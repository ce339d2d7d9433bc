/- The plain mathematics of package pattern: parts, their text, what may be, the reader as total functions. -/
import Derived.WalkKit

section

namespace Go.Proofs.YtdnedbcmgkilaaaGreatDoor

mutual
/-- A part: its kind, text, name, cases. -/
inductive Pt where
  | mk (k : Int) (t n : ByteArray) (cs : List Cs)
/-- A case: its key and its parts. -/
inductive Cs where
  | mk (key : ByteArray) (kids : List Pt)
end
namespace Pt
def k : Pt → Int | .mk k _ _ _ => k
def t : Pt → ByteArray | .mk _ t _ _ => t
def n : Pt → ByteArray | .mk _ _ n _ => n
def cs : Pt → List Cs | .mk _ _ _ cs => cs
end Pt
namespace Cs
def key : Cs → ByteArray | .mk k _ => k
def kids : Cs → List Pt | .mk _ l => l
end Cs
abbrev ba (l : List UInt8) : ByteArray := ⟨l.toArray⟩

def isLet (c : UInt8) : Bool := decide (97 ≤ c.toNat) && decide (c.toNat ≤ 122)
def isDig (c : UInt8) : Bool := decide (48 ≤ c.toNat) && decide (c.toNat ≤ 57)
def isWrd (c : UInt8) : Bool := isLet c || isDig c || c == 95
/-- A name. -/
def nameB : List UInt8 → Bool
  | [] => false
  | c :: r => decide (r.length ≤ 31) && isLet c && (c :: r).all isWrd
def nx (n : Nat) (c : UInt8) : Nat := n * 10 + (c.toNat - 48)
/-- A number from 0 to 1000000, without a leading 0. -/
def numB : List UInt8 → Bool
  | [] => false
  | c :: r => (c :: r).all isDig && (c != 48 || r.isEmpty) && decide (r.length ≤ 6) && decide ((c :: r).foldl nx 0 ≤ 1000000)
/-- A key of a plural. -/
def pkeyB (s : List UInt8) : Bool :=
  s == [122, 101, 114, 111] || s == [111, 110, 101] || s == [116, 119, 111] || s == [102, 101, 119] || s == [109, 97, 110, 121] || s == [111, 116, 104, 101, 114] ||
    (match s with | 61 :: r => numB r | _ => false)

/- What may be. -/
mutual
def cntP : Pt → Nat
  | .mk _ _ _ cs => 1 + cntCs cs
def cntPs : List Pt → Nat
  | [] => 0
  | x :: r => cntP x + cntPs r
def cntCs : List Cs → Nat
  | [] => 0
  | x :: r => cntC x + cntCs r
def cntC : Cs → Nat
  | .mk _ kids => cntPs kids
end
mutual
def dpP : Pt → Nat
  | .mk _ _ _ cs => dpCs cs
def dpPs : List Pt → Nat
  | [] => 0
  | x :: r => max (dpP x) (dpPs r)
def dpCs : List Cs → Nat
  | [] => 0
  | x :: r => max (dpC x) (dpCs r)
def dpC : Cs → Nat
  | .mk _ kids => dpPs kids + 1
end
mutual
def okP (h : Bool) : Pt → Bool
  | .mk k t n cs =>
    if k = 1 then !t.data.toList.isEmpty && n.data.toList.isEmpty && cs.isEmpty
    else if k = 2 then t.data.toList.isEmpty && nameB n.data.toList && cs.isEmpty
    else if k = 3 then h && t.data.toList.isEmpty && n.data.toList.isEmpty && cs.isEmpty
    else if k = 4 then t.data.toList.isEmpty && nameB n.data.toList && !cs.isEmpty && decide ((cs.getLast?.map Cs.key) = some (ba [111, 116, 104, 101, 114])) && okCs pkeyB true [] cs
    else if k = 5 then t.data.toList.isEmpty && nameB n.data.toList && !cs.isEmpty && decide ((cs.getLast?.map Cs.key) = some (ba [111, 116, 104, 101, 114])) && okCs nameB h [] cs
    else false
def okPs (h : Bool) : Bool → List Pt → Bool
  | _, [] => true
  | b, x :: r => !(decide (x.k = 1) && b) && okP h x && okPs h (decide (x.k = 1)) r
def okCs (p : List UInt8 → Bool) (h : Bool) : List (List UInt8) → List Cs → Bool
  | _, [] => true
  | seen, x :: r => !(decide (x.key.data.toList ∈ seen)) && p x.key.data.toList && okC h x && okCs p h (seen ++ [x.key.data.toList]) r
def okC (h : Bool) : Cs → Bool
  | .mk _ kids => okPs h false kids
end
/-- Why parts are no pattern. -/
def rightE (xs : List Pt) : Nat := if 1000 < cntPs xs then 2 else if 32 < dpPs xs then 12 else if okPs false false xs then 0 else 91

/- The text. -/
def escF : List UInt8 → List UInt8
  | [] => []
  | c :: r => (if c = 39 then [39, 39] else if c = 123 ∨ c = 125 ∨ c = 35 then [39, c, 39] else [c]) ++ escF r
abbrev plW : List UInt8 := [44, 32, 112, 108, 117, 114, 97, 108, 44]
abbrev seW : List UInt8 := [44, 32, 115, 101, 108, 101, 99, 116, 44]
mutual
def txP : Pt → List UInt8
  | .mk k t n cs =>
    if k = 1 then escF t.data.toList
    else if k = 2 then [123] ++ n.data.toList ++ [125]
    else if k = 3 then [35]
    else if k = 4 then [123] ++ n.data.toList ++ plW ++ txCs cs ++ [125]
    else if k = 5 then [123] ++ n.data.toList ++ seW ++ txCs cs ++ [125]
    else []
def txPs : List Pt → List UInt8
  | [] => []
  | x :: r => txP x ++ txPs r
def txCs : List Cs → List UInt8
  | [] => []
  | x :: r => txC x ++ txCs r
def txC : Cs → List UInt8
  | .mk key kids => [32] ++ key.data.toList ++ [32, 123] ++ txPs kids ++ [125]
end

/- The reader: the place, the error. -/
abbrev St := Nat × Nat
def failF (l : List UInt8) (S : St) : St := if S.2 = 0 then (S.1, if S.1 = l.length then 10 else 90) else S
def oneF (l may : List UInt8) (S : St) : List UInt8 × St :=
  if S.2 = 0 then match l[S.1]? with
    | some c => if c ∈ may then ([c], (S.1 + 1, 0)) else ([], failF l S)
    | none => ([], failF l S)
  else ([], S)
def wordF (l : List UInt8) : List UInt8 → St → St
  | [], S => S
  | c :: r, S => wordF l r (oneF l [c] S).2
def nextF (l t : List UInt8) (S : St) : Bool := decide (S.2 = 0) && t.isPrefixOf (l.drop S.1)
def longN (p : List UInt8 → Bool) (r : List UInt8) : Nat → Nat → Nat
  | 0, n => n
  | f + 1, n => if n < r.length ∧ p (r.take (n + 1)) = true then longN p r f (n + 1) else n
def longF (l : List UInt8) (p : List UInt8 → Bool) (S : St) : List UInt8 × St :=
  if S.2 = 0 then
    if longN p (l.drop S.1) l.length 0 = 0 then ([], failF l S)
    else ((l.drop S.1).take (longN p (l.drop S.1) l.length 0), (S.1 + longN p (l.drop S.1) l.length 0, 0))
  else ([], S)
def keyF (l : List UInt8) (S : St) : List UInt8 × St :=
  if nextF l [61] S then ([61] ++ (longF l numB (wordF l [61] S)).1, (longF l numB (wordF l [61] S)).2) else longF l nameB S
def quotF (l : List UInt8) (S : St) : List UInt8 × St :=
  if (oneF l [39, 123, 125, 35] (wordF l [39] S)).1 = [39] then oneF l [39, 123, 125, 35] (wordF l [39] S)
  else ((oneF l [39, 123, 125, 35] (wordF l [39] S)).1, wordF l [39] (oneF l [39, 123, 125, 35] (wordF l [39] S)).2)
def textL (l : List UInt8) : Nat → List UInt8 → St → List UInt8 × St
  | 0, acc, S => (acc, S)
  | f + 1, acc, S =>
    if S.2 = 0 then match l[S.1]? with
      | none => (acc, S)
      | some c =>
        if c = 123 ∨ c = 125 ∨ c = 35 then (acc, S)
        else if c = 39 then textL l f (acc ++ (quotF l S).1) (quotF l S).2
        else textL l f (acc ++ [c]) (S.1 + 1, 0)
    else (acc, S)
/-- What begins with a brace; cf reads cases. -/
def holeG (l : List UInt8) (cf : Bool → List UInt8 × St → List Cs × St) (h : Bool) (S : St) : Pt × St :=
  let a := longF l nameB (wordF l [123] S)
  if nextF l [44, 32, 115] a.2 then (.mk 5 (ba []) (ba a.1) (cf h (oneF l [32] (wordF l seW a.2))).1, (cf h (oneF l [32] (wordF l seW a.2))).2)
  else if nextF l [44] a.2 then (.mk 4 (ba []) (ba a.1) (cf true (oneF l [32] (wordF l plW a.2))).1, (cf true (oneF l [32] (wordF l plW a.2))).2)
  else (.mk 2 (ba []) (ba a.1) [], wordF l [125] a.2)
def partG (l : List UInt8) (cf : Bool → List UInt8 × St → List Cs × St) (h : Bool) (S : St) : Pt × St :=
  if nextF l [123] S then holeG l cf h S
  else if nextF l [35] S then (.mk 3 (ba []) (ba []) [], wordF l [35] (if h then S else failF l S))
  else (.mk 1 (ba (textL l l.length [] S).1) (ba []) [], (textL l l.length [] S).2)
/-- Where a branch's brace is to come: a branch too deep. -/
def deepF (l : List UInt8) (o : Nat) (S : St) : St := if nextF l [123] S = true ∧ o = 32 then (S.1, 12) else S
def branchG (l : List UInt8) (pf : St → List Pt × St) (o : Nat) (S : St) : Cs × St :=
  let r := pf (wordF l [123] (deepF l o (wordF l [32] (keyF l S).2)))
  (.mk (ba (keyF l S).1) r.1, wordF l [125] r.2)
mutual
def partsL (l : List UInt8) : Nat → Bool → Nat → List Pt → St → List Pt × St
  | 0, _, _, acc, S => (acc, S)
  | f + 1, h, o, acc, S =>
    if S.2 = 0 ∧ S.1 < l.length ∧ nextF l [125] S = false then
      partsL l f h o (acc ++ [(partG l (fun h b => casesL l f h o [] b) h S).1]) (partG l (fun h b => casesL l f h o [] b) h S).2
    else (acc, S)
def casesL (l : List UInt8) : Nat → Bool → Nat → List Cs → List UInt8 × St → List Cs × St
  | 0, _, _, acc, b => (acc, b.2)
  | f + 1, h, o, acc, b =>
    if b.1 = [32] then
      casesL l f h o (acc ++ [(branchG l (fun S => partsL l f h (o + 1) [] S) o b.2).1]) (oneF l [32, 125] (branchG l (fun S => partsL l f h (o + 1) [] S) o b.2).2)
    else (acc, b.2)
end
/-- The parts, and where the reader stands behind them. -/
def readF (l : List UInt8) : List Pt × St := partsL l (l.length + 1) false 0 [] (0, 0)
def endF (l : List UInt8) (S : St) : St := if S.1 < l.length then failF l S else S
/-- The pattern, the error, the place. -/
def parseF (l : List UInt8) : List Pt × Nat × Nat :=
  if 2000 < l.length then ([], 2, 0)
  else if (endF l (readF l).2).2 ≠ 0 then ([], (endF l (readF l).2).2, (endF l (readF l).2).1)
  else if rightE (readF l).1 ≠ 0 then ([], rightE (readF l).1, 0)
  else ((readF l).1, 0, 0)
end Go.Proofs.YtdnedbcmgkilaaaGreatDoor

end

/- The reader: it goes on, it stays where it got stuck. -/
section

namespace Go.Proofs.YtdnedbcmgkilaaaGreatDoor

def Wf (l : List UInt8) (S : St) : Prop := S.1 ≤ l.length ∧ (S.2 = 0 ∨ (S.2 = 10 ∧ S.1 = l.length) ∨ ((S.2 = 90 ∨ S.2 = 12) ∧ S.1 < l.length))
/-- From S to S'. -/
def Ge (l : List UInt8) (S S' : St) : Prop := S.1 ≤ S'.1 ∧ (Wf l S → Wf l S') ∧ (S.2 ≠ 0 → S' = S)
theorem Ge.refl (l : List UInt8) (S : St) : Ge l S S := ⟨Nat.le_refl _, id, fun _ => rfl⟩
theorem Ge.trans {l : List UInt8} {A B C : St} (h : Ge l A B) (k : Ge l B C) : Ge l A C :=
  ⟨Nat.le_trans h.1 k.1, fun x => k.2.1 (h.2.1 x), fun x => by have h1 := h.2.2 x; rw [h1] at k; exact k.2.2 x⟩
theorem Ge.live {l : List UInt8} {A B : St} (h : Ge l A B) (hB : B.2 = 0) : A.2 = 0 := by
  rcases Nat.eq_zero_or_pos A.2 with h0 | h0
  · exact h0
  · rw [h.2.2 (by omega)] at hB; exact hB
theorem get_lt {l : List UInt8} {a : Nat} {c : UInt8} (h : l[a]? = some c) : a < l.length := (List.getElem?_eq_some_iff.1 h).1
theorem fail_stuck {l : List UInt8} {S : St} (h : S.2 ≠ 0) : failF l S = S := by unfold failF; rw [if_neg h]
theorem fail_fst (l : List UInt8) (S : St) : (failF l S).1 = S.1 := by unfold failF; split <;> rfl
theorem fail_ne (l : List UInt8) (S : St) : (failF l S).2 ≠ 0 := by
  unfold failF; split
  · simp only; split <;> omega
  · assumption
theorem ge_fail (l : List UInt8) (S : St) : Ge l S (failF l S) := by
  refine ⟨by rw [fail_fst]; exact Nat.le_refl _, fun h => ?_, fun h => fail_stuck h⟩
  unfold failF
  split
  · obtain ⟨h1, h2⟩ := h
    refine ⟨h1, ?_⟩
    simp only
    split
    · right; left; exact ⟨rfl, by assumption⟩
    · right; right; exact ⟨.inl rfl, by omega⟩
  · exact h
theorem one_stuck {l m : List UInt8} {S : St} (h : S.2 ≠ 0) : oneF l m S = ([], S) := by unfold oneF; rw [if_neg h]
theorem ge_one (l m : List UInt8) (S : St) : Ge l S (oneF l m S).2 := by
  unfold oneF
  split
  · rename_i h0
    split
    · rename_i c hc
      split
      · refine ⟨by simp, fun h => ⟨get_lt hc, .inl rfl⟩, fun h => absurd h0 h⟩
      · exact ge_fail l S
    · exact ge_fail l S
  · exact Ge.refl l S
/-- What one byte's reading did. -/
theorem one_cases (l m : List UInt8) (S : St) : ((oneF l m S).2.2 ≠ 0 ∧ (oneF l m S).1 = [] ∧ (oneF l m S).2.1 = S.1) ∨ ∃ c, S.2 = 0 ∧ l[S.1]? = some c ∧ c ∈ m ∧ oneF l m S = ([c], (S.1 + 1, 0)) := by
  unfold oneF
  split
  · rename_i h0
    split
    · rename_i c hc
      split
      · right; exact ⟨c, h0, hc, by assumption, rfl⟩
      · left; exact ⟨fail_ne l S, rfl, fail_fst l S⟩
    · left; exact ⟨fail_ne l S, rfl, fail_fst l S⟩
  · left; exact ⟨by assumption, rfl, rfl⟩
theorem ge_word (l : List UInt8) : ∀ (t : List UInt8) (S : St), Ge l S (wordF l t S)
  | [], S => Ge.refl l S
  | c :: r, S => by rw [wordF]; exact (ge_one l [c] S).trans (ge_word l r _)
theorem word_stuck (l t : List UInt8) {S : St} (h : S.2 ≠ 0) : wordF l t S = S := (ge_word l t S).2.2 h
theorem next_live {l t : List UInt8} {S : St} (h : nextF l t S = true) : S.2 = 0 := by
  unfold nextF at h; simp at h; exact h.1
theorem next_iff {l : List UInt8} {c : UInt8} {S : St} : nextF l [c] S = true ↔ S.2 = 0 ∧ l[S.1]? = some c := by
  unfold nextF
  cases hd : l.drop S.1 with
  | nil =>
    have : l[S.1]? = none := by rw [List.getElem?_eq_none]; simpa using hd
    simp [this]
  | cons d r =>
    have : l[S.1]? = some d := by rw [← Nat.add_zero S.1, ← List.getElem?_drop, hd]; rfl
    rw [this]; simp [List.isPrefixOf]; intro _; exact eq_comm
theorem next_in {l t : List UInt8} {c : UInt8} {S : St} (h : nextF l (c :: t) S = true) : nextF l [c] S = true := by
  unfold nextF at *
  cases hd : l.drop S.1 with
  | nil => rw [hd] at h; simp [List.isPrefixOf] at h
  | cons d r => rw [hd] at h; simp [List.isPrefixOf] at h ⊢; exact ⟨h.1, h.2.1⟩
theorem one_yes {l : List UInt8} {c : UInt8} {S : St} (h : nextF l [c] S = true) : oneF l [c] S = ([c], (S.1 + 1, 0)) := by
  obtain ⟨h1, h2⟩ := next_iff.1 h
  unfold oneF; rw [if_pos h1, h2]; simp
theorem one_no {l : List UInt8} {c : UInt8} {S : St} (h : nextF l [c] S = false) : (oneF l [c] S).2.2 ≠ 0 := by
  rcases one_cases l [c] S with h1 | ⟨d, h0, h1, h2, -⟩
  · exact h1.1
  · rw [List.mem_singleton] at h2; subst h2; rw [next_iff.2 ⟨h0, h1⟩] at h; cases h
theorem word_yes {l r : List UInt8} {c : UInt8} {S : St} (h : nextF l [c] S = true) : wordF l (c :: r) S = wordF l r (S.1 + 1, 0) := by rw [wordF, one_yes h]
theorem word_no {l r : List UInt8} {c : UInt8} {S : St} (h : nextF l [c] S = false) : (wordF l (c :: r) S).2 ≠ 0 := by
  rw [wordF, word_stuck _ _ (one_no h)]; exact one_no h
theorem word_adv {l r : List UInt8} {c : UInt8} {S : St} (h : (wordF l (c :: r) S).2 = 0) : S.1 + 1 ≤ (wordF l (c :: r) S).1 := by
  cases hb : nextF l [c] S with
  | true => rw [word_yes hb]; exact (ge_word l r (S.1 + 1, 0)).1
  | false => exact absurd h (word_no hb)
theorem one_adv {l m : List UInt8} {S : St} (h : (oneF l m S).2.2 = 0) : S.1 + 1 = (oneF l m S).2.1 := by
  rcases one_cases l m S with h1 | ⟨d, h0, h1, h2, h3⟩
  · exact absurd h h1.1
  · rw [h3]
/- The longest. -/
theorem longN_le (p : List UInt8 → Bool) (r : List UInt8) : ∀ (f n : Nat), n ≤ r.length → n ≤ longN p r f n ∧ longN p r f n ≤ r.length
  | 0, n, h => ⟨Nat.le_refl _, h⟩
  | f + 1, n, h => by
    rw [longN]
    split
    · rename_i hh
      have := longN_le p r f (n + 1) hh.1
      omega
    · exact ⟨Nat.le_refl _, h⟩
theorem longN_yes (p : List UInt8 → Bool) (r : List UInt8) : ∀ (f n j : Nat), n ≤ j → j < longN p r f n → p (r.take (j + 1)) = true
  | 0, n, j, h, k => by rw [longN] at k; omega
  | f + 1, n, j, h, k => by
    rw [longN] at k
    split at k
    · rename_i hh
      by_cases hj : j = n
      · subst hj; exact hh.2
      · exact longN_yes p r f (n + 1) j (by omega) k
    · omega
theorem longN_end (p : List UInt8 → Bool) (r : List UInt8) : ∀ (f n : Nat), r.length ≤ n + f → longN p r f n < r.length → p (r.take (longN p r f n + 1)) = false
  | 0, n, h, k => by rw [longN] at k; omega
  | f + 1, n, h, k => by
    rw [longN] at k ⊢
    split at k
    · rename_i hh
      rw [if_pos hh]
      exact longN_end p r f (n + 1) (by omega) k
    · rename_i hh
      rw [if_neg hh]
      cases hp : p (r.take (n + 1)) with
      | false => rfl
      | true => exact absurd ⟨k, hp⟩ hh
/-- It is the one number with these properties. -/
theorem longN_is {p : List UInt8 → Bool} {r : List UInt8} {f n : Nat} (hf : r.length ≤ f) (hn : n ≤ r.length) (h1 : ∀ j, j < n → p (r.take (j + 1)) = true) (h2 : n < r.length → p (r.take (n + 1)) = false) : longN p r f 0 = n := by
  rcases Nat.lt_trichotomy (longN p r f 0) n with h | h | h
  · have := longN_end p r f 0 (by omega) (by omega)
    rw [h1 _ h] at this; cases this
  · exact h
  · have := longN_yes p r f 0 n (by omega) h
    have h3 := (longN_le p r f 0 (by omega)).2
    rw [h2 (by omega)] at this; cases this
theorem long_stuck {l : List UInt8} {p : List UInt8 → Bool} {S : St} (h : S.2 ≠ 0) : longF l p S = ([], S) := by unfold longF; rw [if_neg h]
theorem ge_long (l : List UInt8) (p : List UInt8 → Bool) (S : St) : Ge l S (longF l p S).2 := by
  unfold longF
  split
  · rename_i h0
    split
    · exact ge_fail l S
    · refine ⟨by simp, fun h => ⟨?_, .inl rfl⟩, fun h => absurd h0 h⟩
      have h3 := (longN_le p (l.drop S.1) l.length 0 (by omega)).2
      have := h.1
      rw [List.length_drop] at h3
      simp only; omega
  · exact Ge.refl l S
theorem long_adv {l : List UInt8} {p : List UInt8 → Bool} {S : St} (h : (longF l p S).2.2 = 0) : S.1 + 1 ≤ (longF l p S).2.1 := by
  unfold longF at *
  split at h
  · rename_i h0
    rw [if_pos h0]
    split at h
    · exact absurd h (fail_ne l S)
    · rename_i h1; rw [if_neg h1]; simp only; omega
  · rename_i h0; exact absurd h h0
theorem ge_key (l : List UInt8) (S : St) : Ge l S (keyF l S).2 := by
  unfold keyF
  split
  · exact (ge_word l _ _).trans (ge_long l _ _)
  · exact ge_long l _ _
theorem ge_quot (l : List UInt8) (S : St) : Ge l S (quotF l S).2 := by
  unfold quotF
  split
  · exact (ge_word l _ _).trans (ge_one l _ _)
  · exact (ge_word l _ _).trans ((ge_one l _ _).trans (ge_word l _ _))
theorem ge_text (l : List UInt8) : ∀ (f : Nat) (acc : List UInt8) (S : St), Ge l S (textL l f acc S).2
  | 0, acc, S => Ge.refl l S
  | f + 1, acc, S => by
    rw [textL]
    split
    · rename_i h0
      split
      · exact Ge.refl l S
      · rename_i c hc
        split
        · exact Ge.refl l S
        · split
          · exact (ge_quot l S).trans (ge_text l f _ _)
          · have h1 : Ge l S (S.1 + 1, 0) := ⟨by simp, fun h => ⟨get_lt hc, .inl rfl⟩, fun h => absurd h0 h⟩
            exact h1.trans (ge_text l f _ _)
    · exact Ge.refl l S
theorem deep_stuck {l : List UInt8} {o : Nat} {S : St} (h : S.2 ≠ 0) : deepF l o S = S := by
  unfold deepF; rw [if_neg]; intro k; exact h (next_live k.1)
theorem ge_deep (l : List UInt8) (o : Nat) (S : St) : Ge l S (deepF l o S) := by
  unfold deepF
  split
  · rename_i h
    have h1 := next_iff.1 h.1
    exact ⟨Nat.le_refl _, fun hw => ⟨hw.1, .inr (.inr ⟨.inr rfl, get_lt h1.2⟩)⟩, fun h2 => absurd h1.1 h2⟩
  · exact Ge.refl l S
section
variable {l : List UInt8}
theorem ge_hole {cf : Bool → List UInt8 × St → List Cs × St} (hc : ∀ h b, Ge l b.2 (cf h b).2) (h : Bool) (S : St) : Ge l S (holeG l cf h S).2 := by
  unfold holeG
  simp only
  split
  · exact (ge_word l _ _).trans ((ge_long l _ _).trans ((ge_word l _ _).trans ((ge_one l _ _).trans (hc _ _))))
  · split
    · exact (ge_word l _ _).trans ((ge_long l _ _).trans ((ge_word l _ _).trans ((ge_one l _ _).trans (hc _ _))))
    · exact (ge_word l _ _).trans ((ge_long l _ _).trans (ge_word l _ _))
theorem ge_part {cf : Bool → List UInt8 × St → List Cs × St} (hc : ∀ h b, Ge l b.2 (cf h b).2) (h : Bool) (S : St) : Ge l S (partG l cf h S).2 := by
  unfold partG
  split
  · exact ge_hole hc h S
  · split
    · split
      · exact ge_word l _ _
      · exact (ge_fail l _).trans (ge_word l _ _)
    · exact ge_text l _ _ _
theorem ge_branch {pf : St → List Pt × St} (hp : ∀ S, Ge l S (pf S).2) (o : Nat) (S : St) : Ge l S (branchG l pf o S).2 := by
  unfold branchG
  exact (ge_key l S).trans ((ge_word l _ _).trans ((ge_deep l o _).trans ((ge_word l _ _).trans ((hp _).trans (ge_word l _ _)))))
end
theorem ge_both (l : List UInt8) : ∀ f, (∀ h o acc S, Ge l S (partsL l f h o acc S).2) ∧ (∀ h o acc b, Ge l b.2 (casesL l f h o acc b).2)
  | 0 => ⟨fun h o acc S => by rw [partsL]; exact Ge.refl l S, fun h o acc b => by rw [casesL]; exact Ge.refl l b.2⟩
  | f + 1 => by
    obtain ⟨ih1, ih2⟩ := ge_both l f
    refine ⟨fun h o acc S => ?_, fun h o acc b => ?_⟩
    · rw [partsL]
      split
      · exact (ge_part (fun h b => ih2 h o [] b) h S).trans (ih1 _ _ _ _)
      · exact Ge.refl l S
    · rw [casesL]
      split
      · exact (ge_branch (fun S => ih1 h (o + 1) [] S) o b.2).trans ((ge_one l _ _).trans (ih2 _ _ _ _))
      · exact Ge.refl l b.2
theorem ge_parts (l : List UInt8) (f : Nat) (h : Bool) (o : Nat) (acc : List Pt) (S : St) : Ge l S (partsL l f h o acc S).2 := (ge_both l f).1 h o acc S
theorem ge_cases (l : List UInt8) (f : Nat) (h : Bool) (o : Nat) (acc : List Cs) (b : List UInt8 × St) : Ge l b.2 (casesL l f h o acc b).2 := (ge_both l f).2 h o acc b
/- Progress. -/
theorem quot_adv {l : List UInt8} {S : St} (h : (quotF l S).2.2 = 0) : S.1 + 1 ≤ (quotF l S).2.1 := by
  have key : (wordF l [39] S).2 = 0 → S.1 + 1 ≤ (wordF l [39] S).1 := word_adv
  unfold quotF at *
  split at h
  · rename_i h1
    rw [if_pos h1]
    have := key ((ge_one l [39, 123, 125, 35] (wordF l [39] S)).live h)
    have h2 := (ge_one l [39, 123, 125, 35] (wordF l [39] S)).1
    omega
  · rename_i h1
    rw [if_neg h1]
    have h3 := (ge_word l [39] (oneF l [39, 123, 125, 35] (wordF l [39] S)).2)
    have := key ((ge_one l [39, 123, 125, 35] (wordF l [39] S)).live (h3.live h))
    have h2 := (ge_one l [39, 123, 125, 35] (wordF l [39] S)).1
    have := h3.1
    simp only at *
    omega
theorem part_adv {l : List UInt8} {cf : Bool → List UInt8 × St → List Cs × St} (hc : ∀ h b, Ge l b.2 (cf h b).2) {h : Bool} {S : St} (h0 : S.2 = 0) (h1 : S.1 < l.length) (h2 : nextF l [125] S = false) : (partG l cf h S).2.2 ≠ 0 ∨ S.1 + 1 ≤ (partG l cf h S).2.1 := by
  rcases Nat.eq_zero_or_pos (partG l cf h S).2.2 with hl | hl
  · right
    unfold partG at *
    split at hl
    · rename_i hn
      rw [if_pos hn]
      unfold holeG
      simp only
      have hw : S.1 + 1 ≤ (wordF l [123] S).1 := by rw [word_yes hn]; exact (ge_word l [] (S.1 + 1, 0)).1
      have e1 := (ge_long l nameB (wordF l [123] S)).1
      split
      · have e2 := ((ge_word l seW (longF l nameB (wordF l [123] S)).2).trans ((ge_one l [32] _).trans (hc h _))).1
        show S.1 + 1 ≤ (cf h _).2.1
        omega
      · split
        · have e2 := ((ge_word l plW (longF l nameB (wordF l [123] S)).2).trans ((ge_one l [32] _).trans (hc true _))).1
          show S.1 + 1 ≤ (cf true _).2.1
          omega
        · have e2 := (ge_word l [125] (longF l nameB (wordF l [123] S)).2).1
          simp only at *
          omega
    · rename_i hn
      rw [if_neg hn]
      split at hl
      · rename_i hn2
        rw [if_pos hn2]
        cases h with
        | true => simp only [if_true] at *; rw [word_yes hn2]; exact (ge_word l [] (S.1 + 1, 0)).1
        | false =>
          simp only [Bool.false_eq_true, if_false] at *
          rw [word_stuck l _ (fail_ne l S)] at hl
          exact absurd hl (fail_ne l S)
      · rename_i hn2
        rw [if_neg hn2]
        have hx : l[S.1]? = some l[S.1] := List.getElem?_eq_getElem h1
        have hlen : ∃ f, l.length = f + 1 := ⟨l.length - 1, by omega⟩
        obtain ⟨f, hf⟩ := hlen
        rw [hf] at hl ⊢
        rw [textL, if_pos h0, hx] at hl ⊢
        simp only at hl ⊢
        have n1 : ¬ (l[S.1] = 123 ∨ l[S.1] = 125 ∨ l[S.1] = 35) := by
          rintro (e | e | e)
          · exact hn (next_iff.2 ⟨h0, by rw [hx, e]⟩)
          · rw [next_iff.2 ⟨h0, by rw [hx, e]⟩] at h2; cases h2
          · exact hn2 (next_iff.2 ⟨h0, by rw [hx, e]⟩)
        rw [if_neg n1] at hl ⊢
        split at hl
        · rename_i h39
          rw [if_pos h39]
          have g := ge_text l f ([] ++ (quotF l S).1) (quotF l S).2
          have := quot_adv (g.live hl)
          have := g.1
          omega
        · rename_i h39
          rw [if_neg h39]
          exact (ge_text l f _ (S.1 + 1, 0)).1
  · left; omega
end Go.Proofs.YtdnedbcmgkilaaaGreatDoor

end

/- The reader: no branch is too deep, what was read is the text, nothing behind a fault matters. -/
section

namespace Go.Proofs.YtdnedbcmgkilaaaGreatDoor

/- Depth. -/
theorem dp_snoc : ∀ (xs : List Pt) (x : Pt), dpPs (xs ++ [x]) = max (dpPs xs) (dpP x)
  | [], x => by simp [dpPs]
  | y :: r, x => by simp only [List.cons_append, dpPs]; rw [dp_snoc r x]; omega
theorem dpC_snoc : ∀ (xs : List Cs) (x : Cs), dpCs (xs ++ [x]) = max (dpCs xs) (dpC x)
  | [], x => by simp [dpCs]
  | y :: r, x => by simp only [List.cons_append, dpCs]; rw [dpC_snoc r x]; omega
theorem deep_word (l : List UInt8) (S : St) : (wordF l [123] (deepF l 32 S)).2 ≠ 0 := by
  unfold deepF
  split
  · rw [word_stuck l _ (by simp)]; simp
  · rename_i h
    cases hb : nextF l [123] S with
    | true => exact absurd ⟨hb, rfl⟩ h
    | false => exact word_no hb
theorem dp_both (l : List UInt8) : ∀ f, (∀ h o acc S, dpPs acc + o ≤ 32 → o ≤ 32 → (partsL l f h o acc S).2.2 = 0 → dpPs (partsL l f h o acc S).1 + o ≤ 32) ∧ (∀ h o acc b, dpCs acc + o ≤ 32 → o ≤ 32 → (casesL l f h o acc b).2.2 = 0 → dpCs (casesL l f h o acc b).1 + o ≤ 32)
  | 0 => ⟨fun h o acc S h1 _ _ => by rw [partsL]; exact h1, fun h o acc b h1 _ _ => by rw [casesL]; exact h1⟩
  | f + 1 => by
    obtain ⟨ih1, ih2⟩ := dp_both l f
    refine ⟨fun h o acc S h1 h2 h3 => ?_, fun h o acc b h1 h2 h3 => ?_⟩
    · rw [partsL] at h3 ⊢
      split
      · rename_i hc
        rw [if_pos hc] at h3
        refine ih1 _ _ _ _ ?_ h2 h3
        have hl := (ge_parts l f h o _ _).live h3
        rw [dp_snoc]
        have : dpP (partG l (fun h b => casesL l f h o [] b) h S).1 + o ≤ 32 := by
          unfold partG at hl ⊢
          split at hl
          · rename_i hn
            rw [if_pos hn]
            unfold holeG at hl ⊢
            simp only at hl ⊢
            split at hl
            · rename_i hs
              rw [if_pos hs]
              exact ih2 h o [] _ (by simp [dpCs]; exact h2) h2 hl
            · rename_i hs
              rw [if_neg hs]
              split at hl
              · rename_i hp
                rw [if_pos hp]
                exact ih2 true o [] _ (by simp [dpCs]; exact h2) h2 hl
              · rename_i hp
                rw [if_neg hp]
                simp [dpP, dpCs]; exact h2
          · rename_i hn
            rw [if_neg hn]
            split
            · simp [dpP, dpCs]; exact h2
            · simp [dpP, dpCs]; exact h2
        omega
      · exact h1
    · rw [casesL] at h3 ⊢
      split
      · rename_i hc
        rw [if_pos hc] at h3
        refine ih2 _ _ _ _ ?_ h2 h3
        have hl := (ge_one l [32, 125] _).live ((ge_cases l f h o _ _).live h3)
        rw [dpC_snoc]
        unfold branchG at hl ⊢
        simp only at hl ⊢
        have hl2 := (ge_word l [125] _).live hl
        have ho : o ≠ 32 := by
          rintro rfl
          exact deep_word l _ ((ge_parts l f h (32 + 1) [] _).live hl2)
        have := ih1 h (o + 1) [] _ (by simp [dpPs]; omega) (by omega) hl2
        simp only [dpC]
        omega
      · exact h1
theorem dp_read {l : List UInt8} (h : (readF l).2.2 = 0) : dpPs (readF l).1 ≤ 32 := by
  have := (dp_both l (l.length + 1)).1 false 0 [] (0, 0) (by simp [dpPs]) (by omega) h
  unfold readF; omega

/- What was read is the text. -/
theorem one_text {l m : List UInt8} {S : St} (h : (oneF l m S).2.2 = 0) : ∃ c ∈ m, (oneF l m S).1 = [c] ∧ l.drop S.1 = c :: l.drop (oneF l m S).2.1 := by
  rcases one_cases l m S with h1 | ⟨d, h0, h1, h2, h3⟩
  · exact absurd h h1.1
  · rw [h3]
    obtain ⟨hi, rfl⟩ := List.getElem?_eq_some_iff.1 h1
    exact ⟨_, h2, rfl, List.drop_eq_getElem_cons hi⟩
theorem word_text {l : List UInt8} : ∀ {t : List UInt8} {S : St}, (wordF l t S).2 = 0 → l.drop S.1 = t ++ l.drop (wordF l t S).1
  | [], S, _ => rfl
  | c :: r, S, h => by
    rw [wordF] at h ⊢
    obtain ⟨d, hd, -, h1⟩ := one_text ((ge_word l r _).live h)
    rw [List.mem_singleton] at hd; subst hd
    rw [h1, word_text h]; rfl
theorem long_text {l : List UInt8} {p : List UInt8 → Bool} {S : St} (h : (longF l p S).2.2 = 0) : l.drop S.1 = (longF l p S).1 ++ l.drop (longF l p S).2.1 := by
  unfold longF at *
  split at h
  · rename_i h0
    rw [if_pos h0]
    split at h
    · exact absurd h (fail_ne l S)
    · rename_i h1
      rw [if_neg h1]
      simp only
      rw [← List.drop_drop, List.take_append_drop]
  · rename_i h0; exact absurd h h0
theorem key_text {l : List UInt8} {S : St} (h : (keyF l S).2.2 = 0) : l.drop S.1 = (keyF l S).1 ++ l.drop (keyF l S).2.1 := by
  unfold keyF at *
  split at h
  · rename_i hn
    rw [if_pos hn]
    simp only
    have h2 := long_text h
    rw [word_text ((ge_long l numB _).live h), h2, List.append_assoc]
  · rename_i hn
    rw [if_neg hn]
    exact long_text h
theorem esc_app : ∀ (a b : List UInt8), escF (a ++ b) = escF a ++ escF b
  | [], b => rfl
  | c :: r, b => by rw [List.cons_append, escF, escF, esc_app r b, List.append_assoc]
theorem quot_text {l : List UInt8} {S : St} (h : (quotF l S).2.2 = 0) : l.drop S.1 = escF (quotF l S).1 ++ l.drop (quotF l S).2.1 := by
  unfold quotF at *
  split at h
  · rename_i h1
    rw [if_pos h1]
    obtain ⟨c, hc, h2, h3⟩ := one_text h
    rw [h1] at h2
    injection h2 with h2
    subst h2
    rw [word_text ((ge_one l _ _).live h), h3, h1]; rfl
  · rename_i h1
    rw [if_neg h1]
    have h4 := (ge_word l [39] _).live h
    obtain ⟨c, hc, h2, h3⟩ := one_text h4
    rw [word_text ((ge_one l _ _).live h4), h3, word_text h, h2]
    rw [h2] at h1
    have hn : c ≠ 39 := fun e => h1 (by rw [e])
    have hm : c = 123 ∨ c = 125 ∨ c = 35 := by
      simp only [List.mem_cons, List.not_mem_nil, or_false] at hc
      rcases hc with e | e
      · exact absurd e hn
      · exact e
    rw [escF, if_neg hn, if_pos hm, escF]; rfl
theorem text_text {l : List UInt8} : ∀ (f : Nat) (acc : List UInt8) (S : St), (textL l f acc S).2.2 = 0 → ∃ ys, (textL l f acc S).1 = acc ++ ys ∧ l.drop S.1 = escF ys ++ l.drop (textL l f acc S).2.1
  | 0, acc, S, _ => ⟨[], by rw [textL]; simp, by rw [textL]; rfl⟩
  | f + 1, acc, S, h => by
    rw [textL] at h ⊢
    split at h
    · rename_i h0
      rw [if_pos h0]
      split at h
      · rename_i hx
        exact ⟨[], by simp, rfl⟩
      · rename_i c hx
        split at h
        · rename_i h1
          rw [if_pos h1]
          exact ⟨[], by simp, rfl⟩
        · rename_i h1
          rw [if_neg h1]
          split at h
          · rename_i h2
            rw [if_pos h2]
            obtain ⟨ys, e1, e2⟩ := text_text f _ _ h
            have e3 := quot_text ((ge_text l f _ _).live h)
            exact ⟨(quotF l S).1 ++ ys, by rw [e1, List.append_assoc], by rw [e3, e2, esc_app, List.append_assoc]⟩
          · rename_i h2
            rw [if_neg h2]
            obtain ⟨ys, e1, e2⟩ := text_text f _ _ h
            obtain ⟨hi, rfl⟩ := List.getElem?_eq_some_iff.1 hx
            refine ⟨l[S.1] :: ys, by rw [e1]; simp, ?_⟩
            rw [List.drop_eq_getElem_cons hi, e2, escF, if_neg h2, if_neg (by rintro (e | e | e); exact h1 (.inl e); exact h1 (.inr (.inl e)); exact h1 (.inr (.inr e)))]; rfl
    · rename_i h0; exact absurd h h0
theorem txPs_app : ∀ (a b : List Pt), txPs (a ++ b) = txPs a ++ txPs b
  | [], b => rfl
  | c :: r, b => by rw [List.cons_append, txPs, txPs, txPs_app r b, List.append_assoc]
theorem txCs_app : ∀ (a b : List Cs), txCs (a ++ b) = txCs a ++ txCs b
  | [], b => rfl
  | c :: r, b => by rw [List.cons_append, txCs, txCs, txCs_app r b, List.append_assoc]
theorem ba_list (l : List UInt8) : (ba l).data.toList = l := rfl
theorem part_tx {l : List UInt8} {cf : Bool → List UInt8 × St → List Cs × St} {h : Bool} {S : St} (hge : ∀ h b, Ge l b.2 (cf h b).2) (hS : S.1 ≤ l.length)
    (Hc : ∀ h b, b.1 = [32] → b.2.1 ≤ l.length → S.1 + 1 ≤ b.2.1 → (cf h b).2.2 = 0 → b.1 ++ l.drop b.2.1 = txCs (cf h b).1 ++ [125] ++ l.drop (cf h b).2.1)
    (hl : (partG l cf h S).2.2 = 0) : l.drop S.1 = txP (partG l cf h S).1 ++ l.drop (partG l cf h S).2.1 := by
  unfold partG at hl ⊢
  split at hl
  · rename_i hn
    rw [if_pos hn]
    have hS0 := (next_iff.1 hn).1
    unfold holeG at hl ⊢
    simp only at hl ⊢
    split at hl
    · rename_i hs
      rw [if_pos hs]
      simp only at hl ⊢
      have k1 := (hge h _).live hl
      have k2 := (ge_one l [32] _).live k1
      have k3 := (ge_word l seW _).live k2
      have k4 := (ge_long l nameB _).live k3
      obtain ⟨c, hc1, hc2, hc3⟩ := one_text k1
      rw [List.mem_singleton] at hc1; subst hc1
      have g := (((ge_word l [123] S).trans (ge_long l nameB _)).trans (ge_word l seW _)).trans (ge_one l [32] _)
      have a1 := one_adv k1
      have a2 := ((ge_word l [123] S).trans ((ge_long l nameB _).trans (ge_word l seW _))).1
      have := Hc h _ hc2 (g.2.1 ⟨hS, .inl hS0⟩).1 (by omega) hl
      rw [word_text k4, long_text k3, word_text k2, hc3]
      rw [hc2] at this
      rw [List.singleton_append] at this
      rw [this]
      simp [txP, List.append_assoc]
    · rename_i hs
      rw [if_neg hs]
      split at hl
      · rename_i hp
        rw [if_pos hp]
        simp only at hl ⊢
        have k1 := (hge true _).live hl
        have k2 := (ge_one l [32] _).live k1
        have k3 := (ge_word l plW _).live k2
        have k4 := (ge_long l nameB _).live k3
        obtain ⟨c, hc1, hc2, hc3⟩ := one_text k1
        rw [List.mem_singleton] at hc1; subst hc1
        have g := (((ge_word l [123] S).trans (ge_long l nameB _)).trans (ge_word l plW _)).trans (ge_one l [32] _)
        have a1 := one_adv k1
        have a2 := ((ge_word l [123] S).trans ((ge_long l nameB _).trans (ge_word l plW _))).1
        have := Hc true _ hc2 (g.2.1 ⟨hS, .inl hS0⟩).1 (by omega) hl
        rw [word_text k4, long_text k3, word_text k2, hc3]
        rw [hc2] at this
        rw [List.singleton_append] at this
        rw [this]
        simp [txP, List.append_assoc]
      · rename_i hp
        rw [if_neg hp]
        simp only at hl ⊢
        have k3 := (ge_word l [125] _).live hl
        have k4 := (ge_long l nameB _).live k3
        rw [word_text k4, long_text k3, word_text hl]
        simp [txP, List.append_assoc]
  · rename_i hn
    rw [if_neg hn]
    split at hl
    · rename_i hn2
      rw [if_pos hn2]
      simp only at hl ⊢
      cases h with
      | true =>
        simp only [if_true] at hl ⊢
        rw [word_text hl]; simp [txP]
      | false =>
        simp only [Bool.false_eq_true, if_false] at hl
        rw [word_stuck l _ (fail_ne l S)] at hl
        exact absurd hl (fail_ne l S)
    · rename_i hn2
      rw [if_neg hn2]
      simp only at hl ⊢
      obtain ⟨ys, e1, e2⟩ := text_text _ _ _ hl
      rw [List.nil_append] at e1
      rw [e1, e2]; simp [txP]
theorem branch_tx {l : List UInt8} {pf : St → List Pt × St} {o : Nat} {S : St} (hge : ∀ S, Ge l S (pf S).2) (hS : S.1 ≤ l.length) (hS0 : S.2 = 0)
    (Hp : ∀ T : St, T.2 = 0 → T.1 ≤ l.length → S.1 + 1 ≤ T.1 → (pf T).2.2 = 0 → l.drop T.1 = txPs (pf T).1 ++ l.drop (pf T).2.1)
    (hl : (branchG l pf o S).2.2 = 0) : 32 :: l.drop S.1 = txC (branchG l pf o S).1 ++ l.drop (branchG l pf o S).2.1 := by
  unfold branchG at hl ⊢
  simp only at hl ⊢
  have k1 := (ge_word l [125] _).live hl
  have k2 := (hge _).live k1
  have k3 := (ge_word l [123] _).live k2
  have k4 := (ge_deep l o _).live k3
  have k5 := (ge_word l [32] _).live k4
  have hd : deepF l o (wordF l [32] (keyF l S).2) = wordF l [32] (keyF l S).2 := by
    unfold deepF at k3 ⊢
    split
    · rename_i h; rw [if_pos h] at k3; simp at k3
    · rfl
  have g := (((ge_key l S).trans (ge_word l [32] _)).trans (ge_deep l o _)).trans (ge_word l [123] _)
  have a1 := word_adv k2
  have a2 := (((ge_key l S).trans (ge_word l [32] _)).trans (ge_deep l o _)).1
  have := Hp _ k2 (g.2.1 ⟨hS, .inl hS0⟩).1 (by omega) k1
  rw [hd] at hl this k2 ⊢
  rw [key_text k5, word_text k4, word_text k2, this, word_text hl]
  simp [txC, List.append_assoc]
theorem tx_both (l : List UInt8) : ∀ f,
    (∀ h o acc (S : St), S.1 ≤ l.length → l.length - S.1 < f → (partsL l f h o acc S).2.2 = 0 → ∃ ys, (partsL l f h o acc S).1 = acc ++ ys ∧ l.drop S.1 = txPs ys ++ l.drop (partsL l f h o acc S).2.1) ∧
    (∀ h o acc (b : List UInt8 × St), (b.1 = [32] ∨ b.1 = [125]) → b.2.1 ≤ l.length → (b.1 = [32] → l.length - b.2.1 < f) → (casesL l f h o acc b).2.2 = 0 → ∃ ys, (casesL l f h o acc b).1 = acc ++ ys ∧ b.1 ++ l.drop b.2.1 = txCs ys ++ [125] ++ l.drop (casesL l f h o acc b).2.1)
  | 0 => ⟨fun h o acc S _ h2 _ => by omega, fun h o acc b h1 h2 h3 _ => by
      rcases h1 with h1 | h1
      · have := h3 h1; omega
      · exact ⟨[], by rw [casesL]; simp, by rw [casesL, h1]; rfl⟩⟩
  | f + 1 => by
    obtain ⟨ih1, ih2⟩ := tx_both l f
    refine ⟨fun h o acc S hS hf hl => ?_, fun h o acc b hb hle hf hl => ?_⟩
    · rw [partsL] at hl ⊢
      split
      · rename_i hc
        rw [if_pos hc] at hl
        have hl1 := (ge_parts l f h o _ _).live hl
        have hadv : S.1 + 1 ≤ (partG l (fun h b => casesL l f h o [] b) h S).2.1 := by
          rcases part_adv (cf := fun h b => casesL l f h o [] b) (fun h b => ge_cases l f h o [] b) (h := h) hc.1 hc.2.1 hc.2.2 with z | z
          · exact absurd hl1 z
          · exact z
        have hwf : (partG l (fun h b => casesL l f h o [] b) h S).2.1 ≤ l.length := ((ge_part (fun h b => ge_cases l f h o [] b) h S).2.1 ⟨hS, .inl hc.1⟩).1
        obtain ⟨ys, e1, e2⟩ := ih1 _ _ _ _ hwf (by omega) hl
        have key := part_tx (cf := fun h b => casesL l f h o [] b) (fun h b => ge_cases l f h o [] b) hS (fun h b q1 q2 q3 q4 => by
          obtain ⟨zs, w1, w2⟩ := ih2 h o [] b (.inl q1) q2 (fun _ => by omega) q4
          rw [List.nil_append] at w1
          rw [w1]; exact w2) hl1
        exact ⟨_ :: ys, by rw [e1, List.append_assoc]; rfl, by rw [key, e2, txPs, List.append_assoc]⟩
      · exact ⟨[], by simp, rfl⟩
    · rw [casesL] at hl ⊢
      split
      · rename_i hc
        rw [if_pos hc] at hl
        have hl1 := (ge_cases l f h o _ _).live hl
        have hl2 := (ge_one l [32, 125] _).live hl1
        have hl3 := (ge_branch (fun S => ge_parts l f h (o + 1) [] S) o b.2).live hl2
        have hb2 := hf hc
        have hwf := (ge_branch (fun S => ge_parts l f h (o + 1) [] S) o b.2).2.1 ⟨hle, .inl hl3⟩
        have hwf2 := ((ge_one l [32, 125] _).2.1 hwf).1
        have a1 := one_adv hl1
        have a2 := (ge_branch (fun S => ge_parts l f h (o + 1) [] S) o b.2).1
        obtain ⟨c, hcm, hc1, hc2⟩ := one_text hl1
        obtain ⟨ys, e1, e2⟩ := ih2 h o _ _ (by rw [hc1]; simp only [List.mem_cons, List.not_mem_nil, or_false] at hcm; rcases hcm with e | e <;> simp [e]) hwf2 (fun _ => by omega) hl
        have key := branch_tx (pf := fun S => partsL l f h (o + 1) [] S) (o := o) (fun S => ge_parts l f h (o + 1) [] S) hle hl3 (fun T q1 q2 q3 q4 => by
          obtain ⟨zs, w1, w2⟩ := ih1 h (o + 1) [] T q2 (by omega) q4
          rw [List.nil_append] at w1
          rw [w1]; exact w2) hl2
        refine ⟨_ :: ys, by rw [e1, List.append_assoc]; rfl, ?_⟩
        rw [hc, List.singleton_append, key, hc2, txCs]
        rw [hc1] at e2
        rw [List.singleton_append] at e2
        rw [e2]; simp [List.append_assoc]
      · rename_i hc
        rcases hb with hb | hb
        · exact absurd hb hc
        · exact ⟨[], by simp, by rw [hb]; rfl⟩
/-- What was read, to the end, is the text. -/
theorem tx_read {l : List UInt8} (h : (readF l).2.2 = 0) : l = txPs (readF l).1 ++ l.drop (readF l).2.1 := by
  obtain ⟨ys, e1, e2⟩ := (tx_both l (l.length + 1)).1 false 0 [] (0, 0) (by simp) (by simp) h
  unfold readF
  rw [e1, List.nil_append]; exact e2
theorem parse_text {l : List UInt8} (h : (parseF l).2.1 = 0) : txPs (parseF l).1 = l ∧ l.length ≤ 2000 ∧ rightE (parseF l).1 = 0 ∧ (parseF l).2.2 = 0 := by
  unfold parseF at *
  split at h
  · simp at h
  · rename_i h1
    rw [if_neg h1]
    split at h
    · rename_i h2; exact absurd h h2
    · rename_i h2
      rw [if_neg h2]
      split at h
      · rename_i h3; exact absurd h h3
      · rename_i h3
        rw [if_neg h3]
        have hge := ge_parts l (l.length + 1) false 0 [] (0, 0)
        have hend : (readF l).2.2 = 0 ∧ (readF l).2.1 = l.length := by
          simp only [ne_eq, Decidable.not_not] at h2
          unfold endF at h2
          split at h2
          · exact absurd h2 (fail_ne l _)
          · rename_i h4
            refine ⟨h2, ?_⟩
            have := (hge.2.1 ⟨Nat.zero_le _, .inl rfl⟩).1
            unfold readF at h4 ⊢
            omega
        have := tx_read hend.1
        rw [hend.2, List.drop_length, List.append_nil] at this
        exact ⟨this.symm, by omega, by simpa using h3, rfl⟩
end Go.Proofs.YtdnedbcmgkilaaaGreatDoor

end

/- The reader: what stands behind the place where it stands matters nothing. -/
section

namespace Go.Proofs.YtdnedbcmgkilaaaGreatDoor

theorem one_live {l t : List UInt8} {S : St} {c : UInt8} (h : (oneF l t S).1 = [c]) : (oneF l t S).2.2 = 0 := by
  rcases one_cases l t S with z | ⟨d, z0, z1, z2, z3⟩
  · rw [z.2.1] at h; cases h
  · rw [z3]
/-- Two texts that begin alike. -/
structure Ag (l m : List UInt8) (k : Nat) : Prop where
  hl : k ≤ l.length
  hm : k ≤ m.length
  eq : ∀ i, i < k → m[i]? = l[i]?
section
variable {l m : List UInt8} {k : Nat} (A : Ag l m k)
include A
theorem Ag.fail {S : St} (h : S.1 < k) : failF m S = failF l S := by
  unfold failF
  have h1 := A.hl; have h2 := A.hm
  rw [if_neg (show ¬ S.1 = m.length by omega), if_neg (show ¬ S.1 = l.length by omega)]
theorem Ag.one {t : List UInt8} {S : St} (h : S.1 < k) : oneF m t S = oneF l t S := by
  unfold oneF
  rw [A.eq _ h, A.fail h]
theorem Ag.word : ∀ {t : List UInt8} {S : St}, (wordF l t S).1 < k → wordF m t S = wordF l t S
  | [], S, _ => rfl
  | c :: r, S, h => by
    rw [wordF] at h ⊢
    rw [wordF]
    have h1 := (ge_word l r (oneF l [c] S).2).1
    have h2 := (ge_one l [c] S).1
    rw [A.one (by omega)]
    exact Ag.word h
theorem Ag.next {c : UInt8} {S : St} (h : S.1 < k) : nextF m [c] S = nextF l [c] S := by
  have e := A.eq _ h
  cases hb : nextF l [c] S with
  | true => rw [next_iff] at hb ⊢; rw [e]; exact hb
  | false =>
    cases hc : nextF m [c] S with
    | false => rfl
    | true => rw [next_iff] at hc; rw [e] at hc; rw [next_iff.2 hc] at hb; cases hb
theorem Ag.take {a n : Nat} (h : a + n ≤ k) : (m.drop a).take n = (l.drop a).take n := by
  apply List.ext_getElem?
  intro i
  rw [List.getElem?_take, List.getElem?_take]
  split
  · rw [List.getElem?_drop, List.getElem?_drop, A.eq _ (by omega)]
  · rfl
theorem Ag.long {p : List UInt8 → Bool} {S : St} (hS : S.1 ≤ l.length) (h : (longF l p S).2.1 < k) : longF m p S = longF l p S := by
  have h1 := A.hl; have h2 := A.hm
  by_cases h0 : S.2 = 0
  · have hn : S.1 + longN p (l.drop S.1) l.length 0 < k := by
      unfold longF at h
      rw [if_pos h0] at h
      split at h
      · rename_i e; rw [fail_fst] at h; omega
      · exact h
    have hle := longN_le p (l.drop S.1) l.length 0 (by omega)
    have hL : longN p (m.drop S.1) m.length 0 = longN p (l.drop S.1) l.length 0 := by
      refine longN_is (by simp) (by rw [List.length_drop]; omega) (fun j hj => ?_) (fun hj => ?_)
      · rw [A.take (by omega)]
        exact longN_yes p _ _ 0 j (by omega) hj
      · rw [A.take (by omega)]
        exact longN_end p _ _ 0 (by simp) (by rw [List.length_drop]; omega)
    unfold longF
    rw [if_pos h0, if_pos h0, hL, A.take (by omega)]
    split
    · rw [A.fail (by omega)]
    · rfl
  · rw [long_stuck h0, long_stuck h0]
theorem Ag.key {S : St} (hS : S.1 ≤ l.length) (h : (keyF l S).2.1 < k) : keyF m S = keyF l S := by
  have h0 := (ge_key l S).1
  unfold keyF at h ⊢
  rw [A.next (show S.1 < k by unfold keyF at h0; split at h <;> simp_all <;> omega)]
  split
  · rename_i hn
    rw [if_pos hn] at h
    simp only at h
    have h1 := (ge_long l numB (wordF l [61] S)).1
    have hw : (wordF l [61] S).1 ≤ l.length := by
      have := get_lt (next_iff.1 hn).2
      rw [word_yes hn]; exact this
    rw [A.word (by omega), A.long hw h]
  · rename_i hn
    rw [if_neg hn] at h
    exact A.long hS h
theorem Ag.quot {S : St} (h : (quotF l S).2.1 < k) : quotF m S = quotF l S := by
  have h1 := (ge_one l [39, 123, 125, 35] (wordF l [39] S)).1
  have h2 := (ge_word l [39] (oneF l [39, 123, 125, 35] (wordF l [39] S)).2).1
  have h3 : (wordF l [39] S).1 < k := by
    unfold quotF at h
    split at h
    · omega
    · simp only at h; omega
  have e1 := A.word h3
  have e2 := A.one (t := [39, 123, 125, 35]) h3
  unfold quotF at h ⊢
  rw [e1, e2]
  split
  · rfl
  · rename_i hh
    rw [if_neg hh] at h
    rw [A.word h]
theorem Ag.text : ∀ (f g : Nat) (acc : List UInt8) (S : St), (S.2 = 0 → l.length - S.1 ≤ f) → (S.2 = 0 → m.length - S.1 ≤ g) → (textL l f acc S).2.1 < k → textL m g acc S = textL l f acc S
  | f, g, acc, S, hf, hg, h => by
    have h1 := A.hl; have h2 := A.hm
    by_cases h0 : S.2 = 0
    · have hlt : S.1 < k := Nat.lt_of_le_of_lt (ge_text l f acc S).1 h
      have hf := hf h0
      have hg := hg h0
      obtain ⟨f', rfl⟩ : ∃ f', f = f' + 1 := ⟨f - 1, by omega⟩
      obtain ⟨g', rfl⟩ : ∃ g', g = g' + 1 := ⟨g - 1, by omega⟩
      rw [textL] at h ⊢
      rw [textL]
      rw [if_pos h0] at h ⊢
      rw [if_pos h0, A.eq _ hlt]
      split
      · rfl
      · rename_i c hc
        rw [hc] at h
        simp only at h
        split
        · rfl
        · rename_i n1
          rw [if_neg n1] at h
          split
          · rename_i n2
            rw [if_pos n2] at h
            have g1 := ge_text l f' (acc ++ (quotF l S).1) (quotF l S).2
            have g2 := g1.1
            rw [A.quot (by omega)]
            refine Ag.text f' g' _ _ (fun e => ?_) (fun e => ?_) h
            · have := quot_adv e; omega
            · have := quot_adv e; omega
          · rename_i n2
            rw [if_neg n2] at h
            exact Ag.text f' g' _ _ (fun _ => by simp only; omega) (fun _ => by simp only; omega) h
    · have e : ∀ (l : List UInt8) f, textL l f acc S = (acc, S) := fun l f => by
        cases f with
        | zero => rw [textL]
        | succ f => rw [textL, if_neg h0]
      rw [e, e]
theorem Ag.deep {o : Nat} {S : St} (h : S.1 < k) : deepF m o S = deepF l o S := by
  unfold deepF; rw [A.next h]
theorem Ag.next3 {S : St} (h : S.1 + 2 < k) : nextF m [44, 32, 115] S = nextF l [44, 32, 115] S := by
  have e : ∀ (l m : List UInt8), (∀ i, i < k → m[i]? = l[i]?) → nextF l [44, 32, 115] S = true → nextF m [44, 32, 115] S = true := fun l m ha hb => by
    unfold nextF at *
    simp only [Bool.and_eq_true, decide_eq_true_eq] at hb ⊢
    refine ⟨hb.1, ?_⟩
    rw [List.isPrefixOf_iff_prefix, List.prefix_iff_eq_take] at hb ⊢
    rw [hb.2]
    apply List.ext_getElem?
    intro i
    simp only [List.length_take, List.length_cons, List.length_nil]
    rw [List.getElem?_take, List.getElem?_take, List.getElem?_drop, List.getElem?_drop]
    have hlen := congrArg List.length hb.2
    simp only [List.length_take, List.length_cons, List.length_nil, List.length_drop] at hlen
    by_cases hi : i < 3
    · rw [if_pos (by omega), if_pos (by simp; omega), ha _ (by omega)]
    · rw [if_neg (by omega), if_neg (by simp; omega)]
  cases hb : nextF l [44, 32, 115] S with
  | true => exact e l m A.eq hb
  | false =>
    cases hc : nextF m [44, 32, 115] S with
    | false => rfl
    | true => rw [e m l (fun i hi => (A.eq i hi).symm) hc] at hb; cases hb
end
/-- A text that goes on by these. -/
theorem next_of_word {l : List UInt8} : ∀ {t : List UInt8} {S : St}, S.2 = 0 → (wordF l t S).2 = 0 → nextF l t S = true
  | t, S, h0, h => by
    unfold nextF
    simp only [Bool.and_eq_true, decide_eq_true_eq]
    refine ⟨h0, ?_⟩
    rw [List.isPrefixOf_iff_prefix, word_text h]
    exact List.prefix_append _ _
theorem next3_no {l : List UInt8} {S : St} (h : nextF l [44, 32, 115] S = false) (h0 : S.2 = 0) : (wordF l [44, 32, 115] S).2 ≠ 0 := fun e => by
  rw [next_of_word h0 e] at h; cases h
theorem word_app (l : List UInt8) : ∀ (s t : List UInt8) (S : St), wordF l (s ++ t) S = wordF l t (wordF l s S)
  | [], t, S => rfl
  | c :: r, t, S => by rw [List.cons_append, wordF, wordF, word_app l r t]
/-- The two words part at their third byte: where one is read, the other one can't be. -/
theorem Ag.next3' {l m : List UInt8} {k : Nat} (A : Ag l m k) {S : St} (h0 : S.2 = 0) (h : nextF l [44, 32, 115] S = false) (hk : (wordF l plW S).1 < k) : nextF m [44, 32, 115] S = false := by
  cases hc : nextF m [44, 32, 115] S with
  | false => rfl
  | true =>
    exfalso
    have hS : S.1 < k := Nat.lt_of_le_of_lt (ge_word l plW S).1 hk
    have e1 : nextF m [44] S = true := next_in hc
    have e1' : nextF l [44] S = true := by rw [← A.next hS]; exact e1
    have hpre : ∀ i c, ([44, 32, 115] : List UInt8)[i]? = some c → m[S.1 + i]? = some c := fun i c hi => by
      unfold nextF at hc
      simp only [Bool.and_eq_true, decide_eq_true_eq] at hc
      obtain ⟨t, ht⟩ := List.isPrefixOf_iff_prefix.1 hc.2
      rw [← List.getElem?_drop, ← ht, List.getElem?_append_left (List.getElem?_eq_some_iff.1 hi).1, hi]
    have hw : wordF l plW S = wordF l [112, 108, 117, 114, 97, 108, 44] (wordF l [32] (S.1 + 1, 0)) := by
      rw [show plW = 44 :: 32 :: [112, 108, 117, 114, 97, 108, 44] from rfl, word_yes e1']; rfl
    rw [hw] at hk
    have g2 := (ge_word l [112, 108, 117, 114, 97, 108, 44] (wordF l [32] (S.1 + 1, 0))).1
    have g1 := (ge_word l [32] (S.1 + 1, 0)).1
    have h1 : l[S.1 + 1]? = some 32 := by rw [← A.eq _ (by simp only at g1; omega)]; exact hpre 1 32 rfl
    have e2 : nextF l [32] (S.1 + 1, 0) = true := next_iff.2 ⟨rfl, h1⟩
    rw [word_yes e2] at hk g2
    have g3 : (wordF l [] ((S.1 + 1, 0).fst + 1, 0)).1 = S.1 + 2 := rfl
    rw [g3] at g2
    have h2 : l[S.1 + 2]? = some 115 := by rw [← A.eq _ (by omega)]; exact hpre 2 115 rfl
    have h3 : nextF l [44, 32, 115] S = true := by
      unfold nextF
      simp only [Bool.and_eq_true, decide_eq_true_eq]
      refine ⟨h0, ?_⟩
      obtain ⟨b0, c0⟩ := List.getElem?_eq_some_iff.1 (next_iff.1 e1').2
      obtain ⟨b1, c1⟩ := List.getElem?_eq_some_iff.1 h1
      obtain ⟨b2, c2⟩ := List.getElem?_eq_some_iff.1 h2
      rw [List.drop_eq_getElem_cons b0, List.drop_eq_getElem_cons b1, List.drop_eq_getElem_cons b2, c0, c1, c2]
      simp [List.isPrefixOf]
    rw [h3] at h; cases h
section
variable {l m : List UInt8} {k : Nat} (A : Ag l m k)
include A
theorem Ag.part {cf cg : Bool → List UInt8 × St → List Cs × St} {h : Bool} {S : St} (hge : ∀ h b, Ge l b.2 (cf h b).2) (h0 : S.2 = 0) (hS : S.1 < l.length)
    (Hc : ∀ h b, (b.1 = [32] → b.2.2 = 0) → b.2.1 ≤ l.length → S.1 + 1 ≤ b.2.1 → (cf h b).2.1 < k → cg h b = cf h b) (hk : (partG l cf h S).2.1 < k) (hge1 : S.1 ≤ (partG l cf h S).2.1) : partG m cg h S = partG l cf h S := by
  have h1 := A.hl; have h2 := A.hm
  have hlt : S.1 < k := by omega
  unfold partG at hk ⊢
  rw [A.next hlt]
  split
  · rename_i hn
    rw [if_pos hn] at hk
    unfold holeG at hk ⊢
    simp only at hk ⊢
    have w1 : (wordF l [123] S).1 = S.1 + 1 := by rw [word_yes hn]; rfl
    have wl : (wordF l [123] S).1 ≤ l.length := by omega
    have gl := (ge_long l nameB (wordF l [123] S))
    have hwf : Wf l (wordF l [123] S) := (ge_word l [123] S).2.1 ⟨by omega, .inl h0⟩
    have base : (longF l nameB (wordF l [123] S)).2.1 < k → wordF m [123] S = wordF l [123] S ∧ longF m nameB (wordF l [123] S) = longF l nameB (wordF l [123] S) := fun q => by
      have := gl.1
      exact ⟨A.word (by omega), A.long wl q⟩
    split at hk
    · rename_i hs
      have a1 := (ge_word l seW (longF l nameB (wordF l [123] S)).2)
      have a2 := (ge_one l [32] (wordF l seW (longF l nameB (wordF l [123] S)).2))
      have a3 := (hge h (oneF l [32] (wordF l seW (longF l nameB (wordF l [123] S)).2)))
      have a1' := a1.1; have a2' := a2.1; have a3' := a3.1; have gl' := gl.1
      simp only at hk
      obtain ⟨b1, b2⟩ := base (by omega)
      have hlong : (wordF l seW (longF l nameB (wordF l [123] S)).2).1 ≥ (longF l nameB (wordF l [123] S)).2.1 + 3 := by
        have hs0 := next_live hs
        have : wordF l seW (longF l nameB (wordF l [123] S)).2 = wordF l [101, 108, 101, 99, 116, 44] (wordF l [44, 32, 115] (longF l nameB (wordF l [123] S)).2) := word_app l [44, 32, 115] [101, 108, 101, 99, 116, 44] _
        rw [this]
        have g1 := (ge_word l [101, 108, 101, 99, 116, 44] (wordF l [44, 32, 115] (longF l nameB (wordF l [123] S)).2)).1
        have : (wordF l [44, 32, 115] (longF l nameB (wordF l [123] S)).2) = ((longF l nameB (wordF l [123] S)).2.1 + 3, 0) := by
          generalize (longF l nameB (wordF l [123] S)).2 = T at hs hs0
          unfold nextF at hs
          simp only [Bool.and_eq_true, decide_eq_true_eq] at hs
          obtain ⟨t, ht⟩ := List.isPrefixOf_iff_prefix.1 hs.2
          have gx : ∀ i c, ([44, 32, 115] : List UInt8)[i]? = some c → l[T.1 + i]? = some c := fun i c hi => by
            rw [← List.getElem?_drop, ← ht, List.getElem?_append_left (List.getElem?_eq_some_iff.1 hi).1, hi]
          rw [word_yes (next_iff.2 ⟨hs0, gx 0 44 rfl⟩), word_yes (next_iff.2 ⟨rfl, gx 1 32 rfl⟩), word_yes (next_iff.2 ⟨rfl, gx 2 115 rfl⟩)]
          rfl
        rw [this] at g1 ⊢
        exact g1
      rw [b1, b2, A.next3 (by omega), if_pos hs, if_pos hs, A.word (by omega), A.one (by omega)]
      rw [Hc h _ one_live (((a1.trans a2).2.1 (gl.2.1 hwf)).1) (by omega) hk]
    · rename_i hs
      split at hk
      · rename_i hp
        have a1 := (ge_word l plW (longF l nameB (wordF l [123] S)).2)
        have a2 := (ge_one l [32] (wordF l plW (longF l nameB (wordF l [123] S)).2))
        have a3 := (hge true (oneF l [32] (wordF l plW (longF l nameB (wordF l [123] S)).2)))
        have a1' := a1.1; have a2' := a2.1; have a3' := a3.1; have gl' := gl.1
        simp only at hk
        obtain ⟨b1, b2⟩ := base (by omega)
        rw [b1, b2, A.next3' (next_live hp) (by simpa using hs) (by omega), if_neg hs, if_neg (by simp), A.next (by omega), if_pos hp, if_pos hp, A.word (by omega), A.one (by omega)]
        rw [Hc true _ one_live (((a1.trans a2).2.1 (gl.2.1 hwf)).1) (by omega) hk]
      · rename_i hp
        have a1 := (ge_word l [125] (longF l nameB (wordF l [123] S)).2)
        have a1' := a1.1; have gl' := gl.1
        simp only at hk
        obtain ⟨b1, b2⟩ := base (by omega)
        have n3 : nextF m [44, 32, 115] (longF l nameB (wordF l [123] S)).2 = false := by
          cases hc : nextF m [44, 32, 115] (longF l nameB (wordF l [123] S)).2 with
          | false => rfl
          | true => exact absurd ((A.next (by omega)).symm.trans (next_in hc)) hp
        rw [b1, b2, n3, if_neg hs, if_neg (by simp), A.next (by omega), if_neg hp, if_neg hp, A.word (by omega)]
  · rename_i hn
    rw [if_neg hn] at hk
    rw [A.next hlt]
    split
    · rename_i hn2
      rw [if_pos hn2] at hk
      simp only at hk ⊢
      cases h with
      | true => simp only [if_true] at *; rw [A.word hk]
      | false =>
        simp only [Bool.false_eq_true, if_false] at *
        rw [A.fail hlt, A.word hk]
    · rename_i hn2
      rw [if_neg hn2] at hk
      simp only at hk ⊢
      rw [A.text l.length m.length [] S (fun _ => by omega) (fun _ => by omega) hk]
theorem Ag.branch {pf pg : St → List Pt × St} {o : Nat} {S : St} (hge : ∀ S, Ge l S (pf S).2) (hS : S.1 ≤ l.length) (h0 : S.2 = 0)
    (Hp : ∀ T : St, T.1 ≤ l.length → (T.2 = 0 → S.1 + 1 ≤ T.1) → (pf T).2.1 < k → pg T = pf T) (hk : (branchG l pf o S).2.1 < k) : branchG m pg o S = branchG l pf o S := by
  unfold branchG at hk ⊢
  simp only at hk ⊢
  have a1 := ge_key l S
  have a2 := ge_word l [32] (keyF l S).2
  have a3 := ge_deep l o (wordF l [32] (keyF l S).2)
  have a4 := ge_word l [123] (deepF l o (wordF l [32] (keyF l S).2))
  have a5 := hge (wordF l [123] (deepF l o (wordF l [32] (keyF l S).2)))
  have a6 := ge_word l [125] (pf (wordF l [123] (deepF l o (wordF l [32] (keyF l S).2)))).2
  have b1 := a1.1; have b2 := a2.1; have b3 := a3.1; have b4 := a4.1; have b5 := a5.1; have b6 := a6.1
  have hwf := (((a1.trans a2).trans a3).trans a4).2.1 ⟨hS, .inl h0⟩
  rw [A.key hS (by omega), A.word (show (wordF l [32] (keyF l S).2).1 < k by omega), A.deep (by omega), A.word (show (wordF l [123] (deepF l o (wordF l [32] (keyF l S).2))).1 < k by omega)]
  rw [Hp _ hwf.1 (fun e => by have := word_adv e; omega) (by omega), A.word hk]
theorem Ag.both : ∀ f g,
    (∀ h o acc (S : St), S.1 ≤ l.length → (S.2 = 0 → l.length - S.1 < f) → (S.2 = 0 → m.length - S.1 < g) → (partsL l f h o acc S).2.1 < k → partsL m g h o acc S = partsL l f h o acc S) ∧
    (∀ h o acc (b : List UInt8 × St), b.2.1 ≤ l.length → (b.1 = [32] → b.2.2 = 0 ∧ l.length - b.2.1 < f) → (b.1 = [32] → m.length - b.2.1 < g) → (casesL l f h o acc b).2.1 < k → casesL m g h o acc b = casesL l f h o acc b)
  | f, g => by
    have h1 := A.hl; have h2 := A.hm
    refine ⟨fun h o acc S hS hf hg hk => ?_, fun h o acc b hb hf hg hk => ?_⟩
    · have hlt : S.1 < k := Nat.lt_of_le_of_lt (ge_parts l f h o acc S).1 hk
      by_cases h0 : S.2 = 0
      · have hf := hf h0
        have hg := hg h0
        obtain ⟨f', rfl⟩ : ∃ f', f = f' + 1 := ⟨f - 1, by omega⟩
        obtain ⟨g', rfl⟩ : ∃ g', g = g' + 1 := ⟨g - 1, by omega⟩
        obtain ⟨ih1, ih2⟩ := Ag.both f' g'
        rw [partsL] at hk ⊢
        rw [partsL, A.next hlt]
        by_cases hc : nextF l [125] S = false
        · rw [if_pos ⟨h0, by omega, hc⟩] at hk ⊢
          rw [if_pos ⟨h0, by omega, hc⟩]
          have gp := ge_part (fun h b => ge_cases l f' h o [] b) h S
          have gr := ge_parts l f' h o (acc ++ [(partG l (fun h b => casesL l f' h o [] b) h S).1]) (partG l (fun h b => casesL l f' h o [] b) h S).2
          have gr1 := gr.1
          have gp1 : S.1 ≤ (partG l (fun h b => casesL l f' h o [] b) h S).2.1 := gp.1
          have hwf : (partG l (fun h b => casesL l f' h o [] b) h S).2.1 ≤ l.length := (gp.2.1 ⟨hS, .inl h0⟩).1
          have key : partG m (fun h b => casesL m g' h o [] b) h S = partG l (fun h b => casesL l f' h o [] b) h S :=
            A.part (fun h b => ge_cases l f' h o [] b) h0 (by omega) (fun h b q0 q1 q2 q3 => ih2 h o [] b q1 (fun e => ⟨q0 e, by omega⟩) (fun _ => by omega) q3) (by omega) gp1
          rw [key]
          refine ih1 _ _ _ _ hwf (fun e => ?_) (fun e => ?_) hk
          · rcases part_adv (cf := fun h b => casesL l f' h o [] b) (fun h b => ge_cases l f' h o [] b) (h := h) h0 (by omega) hc with z | z
            · exact absurd e z
            · have z2 : S.1 + 1 ≤ (partG l (fun h b => casesL l f' h o [] b) h S).2.1 := z
              omega
          · rcases part_adv (cf := fun h b => casesL l f' h o [] b) (fun h b => ge_cases l f' h o [] b) (h := h) h0 (by omega) hc with z | z
            · exact absurd e z
            · have z2 : S.1 + 1 ≤ (partG l (fun h b => casesL l f' h o [] b) h S).2.1 := z
              omega
        · rw [if_neg (fun e => hc e.2.2), if_neg (fun e => hc e.2.2)]
      · have e : ∀ (l : List UInt8) f, partsL l f h o acc S = (acc, S) := fun l f => by
          cases f with
          | zero => rw [partsL]
          | succ f => rw [partsL, if_neg (fun e => h0 e.1)]
        rw [e, e]
    · by_cases hc : b.1 = [32]
      · obtain ⟨hb0, hf⟩ := hf hc
        have hg := hg hc
        have hlt : b.2.1 < k := Nat.lt_of_le_of_lt (ge_cases l f h o acc b).1 hk
        obtain ⟨f', rfl⟩ : ∃ f', f = f' + 1 := ⟨f - 1, by omega⟩
        obtain ⟨g', rfl⟩ : ∃ g', g = g' + 1 := ⟨g - 1, by omega⟩
        obtain ⟨ih1, ih2⟩ := Ag.both f' g'
        rw [casesL] at hk ⊢
        rw [casesL]
        rw [if_pos hc] at hk ⊢
        rw [if_pos hc]
        have gb := ge_branch (fun S => ge_parts l f' h (o + 1) [] S) o b.2
        have gb1 := gb.1
        have go := ge_one l [32, 125] (branchG l (fun S => partsL l f' h (o + 1) [] S) o b.2).2
        have gc := ge_cases l f' h o (acc ++ [(branchG l (fun S => partsL l f' h (o + 1) [] S) o b.2).1]) (oneF l [32, 125] (branchG l (fun S => partsL l f' h (o + 1) [] S) o b.2).2)
        have go1 := go.1; have gc1 := gc.1
        have hwf := (gb.trans go).2.1 ⟨hb, .inl hb0⟩
        rw [A.branch (pf := fun S => partsL l f' h (o + 1) [] S) (fun S => ge_parts l f' h (o + 1) [] S) hb hb0 (fun T q1 q2 q3 => ih1 h (o + 1) [] T q1 (fun e => by have := q2 e; omega) (fun e => by have := q2 e; omega) q3) (by omega)]
        rw [A.one (by omega)]
        refine ih2 _ _ _ _ hwf.1 (fun e => ?_) (fun e => ?_) hk
        · rcases one_cases l [32, 125] (branchG l (fun S => partsL l f' h (o + 1) [] S) o b.2).2 with z | ⟨d, z0, z1, z2, z3⟩
          · rw [z.2.1] at e; cases e
          · rw [z3]; simp only; have := get_lt z1; exact ⟨trivial, by omega⟩
        · rcases one_cases l [32, 125] (branchG l (fun S => partsL l f' h (o + 1) [] S) o b.2).2 with z | ⟨d, z0, z1, z2, z3⟩
          · rw [z.2.1] at e; cases e
          · rw [z3]; simp only; omega
      · have e : ∀ (l : List UInt8) f, casesL l f h o acc b = (acc, b.2) := fun l f => by
          cases f with
          | zero => rw [casesL]
          | succ f => rw [casesL, if_neg hc]
        rw [e, e]
end
end Go.Proofs.YtdnedbcmgkilaaaGreatDoor

end

/- What Parse tells, and where. -/
section

namespace Go.Proofs.YtdnedbcmgkilaaaGreatDoor

theorem right_cases {xs : List Pt} (h : dpPs xs ≤ 32) : rightE xs = 0 ∨ rightE xs = 2 ∨ rightE xs = 91 := by
  unfold rightE
  split
  · simp
  · rw [if_neg (by omega)]; split <;> simp
theorem read_wf (l : List UInt8) : Wf l (readF l).2 := (ge_parts l (l.length + 1) false 0 [] (0, 0)).2.1 ⟨Nat.zero_le _, .inl rfl⟩
theorem end_wf (l : List UInt8) : Wf l (endF l (readF l).2) := by
  unfold endF; split
  · exact (ge_fail l _).2.1 (read_wf l)
  · exact read_wf l
theorem end_fst (l : List UInt8) (S : St) : (endF l S).1 = S.1 := by
  unfold endF; split
  · exact fail_fst l S
  · rfl
theorem end_live {l : List UInt8} (h : (endF l (readF l).2).2 = 0) : (readF l).2.2 = 0 ∧ (readF l).2.1 = l.length := by
  have hw := (read_wf l).1
  unfold endF at h
  split at h
  · exact absurd h (fail_ne l _)
  · exact ⟨h, by omega⟩
/-- What is behind a fault matters nothing. -/
theorem end_same {l m : List UInt8} (A : Ag l m ((endF l (readF l).2).1 + 1)) : readF m = readF l ∧ endF m (readF m).2 = endF l (readF l).2 := by
  rw [end_fst] at A
  have h1 := A.hl; have h2 := A.hm
  have e : readF m = readF l := (A.both (l.length + 1) (m.length + 1)).1 false 0 [] (0, 0) (Nat.zero_le _) (fun _ => by simp) (fun _ => by simp) (Nat.lt_succ_self _)
  refine ⟨e, ?_⟩
  rw [e]
  unfold endF
  rw [if_pos (by omega), if_pos (by omega), A.fail (by omega)]
theorem parse_cases (l : List UInt8) :
    ((parseF l).2.1 = 0 ∧ (parseF l).2.2 = 0) ∨ parseF l = ([], 10, l.length) ∨
    (((parseF l).2.1 = 90 ∨ (parseF l).2.1 = 12) ∧ (parseF l).1 = [] ∧ (parseF l).2.2 < l.length ∧ ∀ m, Ag l m ((parseF l).2.2 + 1) → m.length ≤ 2000 → parseF m = parseF l) ∨
    parseF l = ([], 2, 0) ∨ parseF l = ([], 91, 0) := by
  by_cases h0 : 2000 < l.length
  · right; right; right; left; unfold parseF; rw [if_pos h0]
  · by_cases h1 : (endF l (readF l).2).2 ≠ 0
    · have hp : parseF l = ([], (endF l (readF l).2).2, (endF l (readF l).2).1) := by unfold parseF; rw [if_neg h0, if_pos h1]
      rcases (end_wf l).2 with h | ⟨h, k⟩ | ⟨h, k⟩
      · exact absurd h h1
      · right; left; rw [hp, h, k]
      · right; right; left
        rw [hp]
        refine ⟨h, rfl, k, fun m A hm => ?_⟩
        obtain ⟨e1, e2⟩ := end_same A
        unfold parseF
        rw [if_neg (by omega), e2, if_pos h1]
    · have h1 : (endF l (readF l).2).2 = 0 := by simpa using h1
      have hd := dp_read (end_live h1).1
      have hp : parseF l = if rightE (readF l).1 ≠ 0 then ([], rightE (readF l).1, 0) else ((readF l).1, 0, 0) := by
        conv => lhs; unfold parseF
        rw [if_neg h0, if_neg (by rw [h1]; simp)]
      rcases right_cases hd with h | h | h
      · left; rw [hp, h]; simp
      · right; right; right; left; rw [hp, h]; rfl
      · right; right; right; right; rw [hp, h]; rfl
end Go.Proofs.YtdnedbcmgkilaaaGreatDoor

end
