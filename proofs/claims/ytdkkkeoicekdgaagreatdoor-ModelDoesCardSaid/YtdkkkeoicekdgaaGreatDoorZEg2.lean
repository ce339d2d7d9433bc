/- The plain mathematics of package pattern: parts, their text, what may be, the reader as total functions. -/
import Derived.Test.YtdkkkeoicekdgaaGreatDoorChecked
import Derived.WalkSpells
import Derived.Lib.AppendIntMem
import Derived.Deep.AppendLies
import Derived.Deep.RegionHeld3

section

namespace Go.Proofs.YtdkkkeoicekdgaaGreatDoor
mutual
inductive Pt where
 | mk (k : Int) (t n : ByteArray) (cs : List Cs)
inductive Cs where
 | mk (key : ByteArray) (kids : List Pt)
end
namespace Pt
def k : Pt -> Int | .mk k _ _ _ => k
def t : Pt -> ByteArray | .mk _ t _ _ => t
def n : Pt -> ByteArray | .mk _ _ n _ => n
def cs : Pt -> List Cs | .mk _ _ _ cs => cs
end Pt
namespace Cs
def key : Cs -> ByteArray | .mk k _ => k
def kids : Cs -> List Pt | .mk _ l => l
end Cs
abbrev ba (l : List UInt8) : ByteArray := ⟨l.toArray⟩
def isLet (c : UInt8) : Bool := decide (97 <= c.toNat) && decide (c.toNat <= 122)
def isDig (c : UInt8) : Bool := decide (48 <= c.toNat) && decide (c.toNat <= 57)
def isWrd (c : UInt8) : Bool := isLet c || isDig c || c == 95
def nameB : List UInt8 -> Bool
 | [] => false
 | c :: r => decide (r.length <= 31) && isLet c && (c :: r).all isWrd
def nx (n : Nat) (c : UInt8) : Nat := n * 10 + (c.toNat - 48)
def numB : List UInt8 -> Bool
 | [] => false
 | c :: r => (c :: r).all isDig && (c != 48 || r.isEmpty) && decide (r.length <= 6) && decide ((c :: r).foldl nx 0 <= 1000000)
def pkeyB (s : List UInt8) : Bool :=
 s == [122, 101, 114, 111] || s == [111, 110, 101] || s == [116, 119, 111] || s == [102, 101, 119] || s == [109, 97, 110, 121] || s == [111, 116, 104, 101, 114] ||
  (match s with | 61 :: r => numB r | _ => false)
mutual
def cntP : Pt -> Nat
 | .mk _ _ _ cs => 1 + cntCs cs
def cntPs : List Pt -> Nat
 | [] => 0
 | x :: r => cntP x + cntPs r
def cntCs : List Cs -> Nat
 | [] => 0
 | x :: r => cntC x + cntCs r
def cntC : Cs -> Nat
 | .mk _ kids => cntPs kids
end
mutual
def dpP : Pt -> Nat
 | .mk _ _ _ cs => dpCs cs
def dpPs : List Pt -> Nat
 | [] => 0
 | x :: r => max (dpP x) (dpPs r)
def dpCs : List Cs -> Nat
 | [] => 0
 | x :: r => max (dpC x) (dpCs r)
def dpC : Cs -> Nat
 | .mk _ kids => dpPs kids + 1
end
mutual
def okP (h : Bool) : Pt -> Bool
 | .mk k t n cs =>
  if k = 1 then !t.data.toList.isEmpty && n.data.toList.isEmpty && cs.isEmpty
  else if k = 2 then t.data.toList.isEmpty && nameB n.data.toList && cs.isEmpty
  else if k = 3 then h && t.data.toList.isEmpty && n.data.toList.isEmpty && cs.isEmpty
  else if k = 4 then t.data.toList.isEmpty && nameB n.data.toList && !cs.isEmpty && decide ((cs.getLast?.map Cs.key) = some (ba [111, 116, 104, 101, 114])) && okCs pkeyB true [] cs
  else if k = 5 then t.data.toList.isEmpty && nameB n.data.toList && !cs.isEmpty && decide ((cs.getLast?.map Cs.key) = some (ba [111, 116, 104, 101, 114])) && okCs nameB h [] cs
  else false
def okPs (h : Bool) : Bool -> List Pt -> Bool
 | _, [] => true
 | b, x :: r => !(decide (x.k = 1) && b) && okP h x && okPs h (decide (x.k = 1)) r
def okCs (p : List UInt8 -> Bool) (h : Bool) : List (List UInt8) -> List Cs -> Bool
 | _, [] => true
 | seen, x :: r => !(decide (x.key.data.toList ∈ seen)) && p x.key.data.toList && okC h x && okCs p h (seen ++ [x.key.data.toList]) r
def okC (h : Bool) : Cs -> Bool
 | .mk _ kids => okPs h false kids
end
def z12 (xs : List Pt) : Nat := if 1000 < cntPs xs then 2 else if 32 < dpPs xs then 12 else if okPs false false xs then 0 else 91
abbrev plW : List UInt8 := [44, 32, 112, 108, 117, 114, 97, 108, 44]
abbrev seW : List UInt8 := [44, 32, 115, 101, 108, 101, 99, 116, 44]
abbrev St := Nat × Nat
def failF (l : List UInt8) (S : St) : St := if S.2 = 0 then (S.1, if S.1 = l.length then 10 else 90) else S
def oneF (l may : List UInt8) (S : St) : List UInt8 × St :=
 if S.2 = 0 then match l[S.1]? with
  | some c => if c ∈ may then ([c], (S.1 + 1, 0)) else ([], failF l S)
  | none => ([], failF l S)
 else ([], S)
def wordF (l : List UInt8) : List UInt8 -> St -> St
 | [], S => S
 | c :: r, S => wordF l r (oneF l [c] S).2
def nextF (l t : List UInt8) (S : St) : Bool := decide (S.2 = 0) && t.isPrefixOf (l.drop S.1)
def longN (p : List UInt8 -> Bool) (r : List UInt8) : Nat -> Nat -> Nat
 | 0, n => n
 | f + 1, n => if n < r.length /\ p (r.take (n + 1)) = true then longN p r f (n + 1) else n
def longF (l : List UInt8) (p : List UInt8 -> Bool) (S : St) : List UInt8 × St :=
 if S.2 = 0 then
  if longN p (l.drop S.1) l.length 0 = 0 then ([], failF l S)
  else ((l.drop S.1).take (longN p (l.drop S.1) l.length 0), (S.1 + longN p (l.drop S.1) l.length 0, 0))
 else ([], S)
def keyF (l : List UInt8) (S : St) : List UInt8 × St :=
 if nextF l [61] S then ([61] ++ (longF l numB (wordF l [61] S)).1, (longF l numB (wordF l [61] S)).2) else longF l nameB S
def quotF (l : List UInt8) (S : St) : List UInt8 × St :=
 if (oneF l [39, 123, 125, 35] (wordF l [39] S)).1 = [39] then oneF l [39, 123, 125, 35] (wordF l [39] S)
 else ((oneF l [39, 123, 125, 35] (wordF l [39] S)).1, wordF l [39] (oneF l [39, 123, 125, 35] (wordF l [39] S)).2)
def textL (l : List UInt8) : Nat -> List UInt8 -> St -> List UInt8 × St
 | 0, acc, S => (acc, S)
 | f + 1, acc, S =>
  if S.2 = 0 then match l[S.1]? with
   | none => (acc, S)
   | some c =>
    if c = 123 ∨ c = 125 ∨ c = 35 then (acc, S)
    else if c = 39 then textL l f (acc ++ (quotF l S).1) (quotF l S).2
    else textL l f (acc ++ [c]) (S.1 + 1, 0)
  else (acc, S)
def holeG (l : List UInt8) (cf : Bool -> List UInt8 × St -> List Cs × St) (h : Bool) (S : St) : Pt × St :=
 let a := longF l nameB (wordF l [123] S)
 if nextF l [44, 32, 115] a.2 then (.mk 5 (ba []) (ba a.1) (cf h (oneF l [32] (wordF l seW a.2))).1, (cf h (oneF l [32] (wordF l seW a.2))).2)
 else if nextF l [44] a.2 then (.mk 4 (ba []) (ba a.1) (cf true (oneF l [32] (wordF l plW a.2))).1, (cf true (oneF l [32] (wordF l plW a.2))).2)
 else (.mk 2 (ba []) (ba a.1) [], wordF l [125] a.2)
def partG (l : List UInt8) (cf : Bool -> List UInt8 × St -> List Cs × St) (h : Bool) (S : St) : Pt × St :=
 if nextF l [123] S then holeG l cf h S
 else if nextF l [35] S then (.mk 3 (ba []) (ba []) [], wordF l [35] (if h then S else failF l S))
 else (.mk 1 (ba (textL l l.length [] S).1) (ba []) [], (textL l l.length [] S).2)
def deepF (l : List UInt8) (o : Nat) (S : St) : St := if nextF l [123] S = true /\ o = 32 then (S.1, 12) else S
def z16 (l : List UInt8) (pf : St -> List Pt × St) (o : Nat) (S : St) : Cs × St :=
 let r := pf (wordF l [123] (deepF l o (wordF l [32] (keyF l S).2)))
 (.mk (ba (keyF l S).1) r.1, wordF l [125] r.2)
mutual
def z0c (l : List UInt8) : Nat -> Bool -> Nat -> List Pt -> St -> List Pt × St
 | 0, _, _, acc, S => (acc, S)
 | f + 1, h, o, acc, S =>
  if S.2 = 0 /\ S.1 < l.length /\ nextF l [125] S = false then
   z0c l f h o (acc ++ [(partG l (fun h b => z09 l f h o [] b) h S).1]) (partG l (fun h b => z09 l f h o [] b) h S).2
  else (acc, S)
def z09 (l : List UInt8) : Nat -> Bool -> Nat -> List Cs -> List UInt8 × St -> List Cs × St
 | 0, _, _, acc, b => (acc, b.2)
 | f + 1, h, o, acc, b =>
  if b.1 = [32] then
   z09 l f h o (acc ++ [(z16 l (fun S => z0c l f h (o + 1) [] S) o b.2).1]) (oneF l [32, 125] (z16 l (fun S => z0c l f h (o + 1) [] S) o b.2).2)
  else (acc, b.2)
end
def readF (l : List UInt8) : List Pt × St := z0c l (l.length + 1) false 0 [] (0, 0)
def endF (l : List UInt8) (S : St) : St := if S.1 < l.length then failF l S else S
def z0r (l : List UInt8) : List Pt × Nat × Nat :=
 if 2000 < l.length then ([], 2, 0)
 else if (endF l (readF l).2).2 ≠ 0 then ([], (endF l (readF l).2).2, (endF l (readF l).2).1)
 else if z12 (readF l).1 ≠ 0 then ([], z12 (readF l).1, 0)
 else ((readF l).1, 0, 0)
end Go.Proofs.YtdkkkeoicekdgaaGreatDoor

end

section

namespace Go.Proofs.YtdkkkeoicekdgaaGreatDoor
def Wf (l : List UInt8) (S : St) : Prop := S.1 <= l.length /\ (S.2 = 0 ∨ (S.2 = 10 /\ S.1 = l.length) ∨ ((S.2 = 90 ∨ S.2 = 12) /\ S.1 < l.length))
def Ge (l : List UInt8) (S S' : St) : Prop := S.1 <= S'.1 /\ (Wf l S -> Wf l S') /\ (S.2 ≠ 0 -> S' = S)
theorem Ge.refl (l : List UInt8) (S : St) : Ge l S S := ⟨Nat.le_refl _, id, fun _ => rfl⟩
theorem Ge.trans {l : List UInt8} {A B C : St} (h : Ge l A B) (k : Ge l B C) : Ge l A C :=
 ⟨Nat.le_trans h.1 k.1, fun x => k.2.1 (h.2.1 x), fun x => by have h1 := h.2.2 x; rw [h1] at k; exact k.2.2 x⟩
theorem Ge.live {l : List UInt8} {A B : St} (h : Ge l A B) (hB : B.2 = 0) : A.2 = 0 := by
 rcases Nat.eq_zero_or_pos A.2 with h0 | h0
 ·exact h0
 ·rw [h.2.2 (by omega)] at hB; exact hB
theorem z0z {l : List UInt8} {a : Nat} {c : UInt8} (h : l[a]? = some c) : a < l.length := (List.getElem?_eq_some_iff.1 h).1
theorem z1i {l : List UInt8} {S : St} (h : S.2 ≠ 0) : failF l S = S := by unfold failF; rw [if_neg h]
theorem z25 (l : List UInt8) (S : St) : (failF l S).1 = S.1 := by unfold failF; split <;> rfl
theorem z0t (l : List UInt8) (S : St) : (failF l S).2 ≠ 0 := by
 unfold failF; split
 ·simp only; split <;> omega
 ·assumption
theorem z1u (l : List UInt8) (S : St) : Ge l S (failF l S) := by
 refine ⟨by rw [z25]; exact Nat.le_refl _, fun h => ?_, fun h => z1i h⟩
 unfold failF
 split
 ·obtain ⟨h1, h2⟩ := h
  refine ⟨h1, ?_⟩;simp only
  split
  ·right; left; exact ⟨rfl, by assumption⟩
  ·right; right; exact ⟨.inl rfl, by omega⟩
 ·exact h
theorem z3z {l m : List UInt8} {S : St} (h : S.2 ≠ 0) : oneF l m S = ([], S) := by unfold oneF; rw [if_neg h]
theorem z1f (l m : List UInt8) (S : St) : Ge l S (oneF l m S).2 := by
 unfold oneF
 split
 ·rename_i h0
  split
  ·rename_i c hc
   split
   ·refine ⟨by simp, fun h => ⟨z0z hc, .inl rfl⟩, fun h => absurd h0 h⟩
   ·exact z1u l S
  ·exact z1u l S
 ·exact Ge.refl l S
theorem z40 (l m : List UInt8) (S : St) : ((oneF l m S).2.2 ≠ 0 /\ (oneF l m S).1 = [] /\ (oneF l m S).2.1 = S.1) ∨ ∃ c, S.2 = 0 /\ l[S.1]? = some c /\ c ∈ m /\ oneF l m S = ([c], (S.1 + 1, 0)) := by
 unfold oneF
 split
 ·rename_i h0
  split
  ·rename_i c hc
   split
   ·right; exact ⟨c, h0, hc, by assumption, rfl⟩
   ·left; exact ⟨z0t l S, rfl, z25 l S⟩
  ·left; exact ⟨z0t l S, rfl, z25 l S⟩
 ·left; exact ⟨by assumption, rfl, rfl⟩
theorem z06 (l : List UInt8) : ∀ (t : List UInt8) (S : St), Ge l S (wordF l t S)
 | [], S => Ge.refl l S
 | c :: r, S => by rw [wordF]; exact (z1f l [c] S).trans (z06 l r _)
theorem z0k (l t : List UInt8) {S : St} (h : S.2 ≠ 0) : wordF l t S = S := (z06 l t S).2.2 h
theorem z1h {l : List UInt8} {c : UInt8} {S : St} : nextF l [c] S = true ↔ S.2 = 0 /\ l[S.1]? = some c := by
 unfold nextF
 cases hd : l.drop S.1 with
 | nil =>
  have : l[S.1]? = none := by rw [List.getElem?_eq_none]; simpa using hd
  simp [this]
 | cons d r =>
  have : l[S.1]? = some d := by rw [<- Nat.add_zero S.1, <- List.getElem?_drop, hd]; rfl
  rw [this]; simp [List.isPrefixOf]; intro _; exact eq_comm
theorem next_in {l t : List UInt8} {c : UInt8} {S : St} (h : nextF l (c :: t) S = true) : nextF l [c] S = true := by
 unfold nextF at *
 cases hd : l.drop S.1 with
 | nil => rw [hd] at h; simp [List.isPrefixOf] at h
 | cons d r => rw [hd] at h; simp [List.isPrefixOf] at h ⊢; exact ⟨h.1, h.2.1⟩
theorem zgs {l : List UInt8} {c : UInt8} {S : St} (h : nextF l [c] S = true) : oneF l [c] S = ([c], (S.1 + 1, 0)) := by
 obtain ⟨h1, h2⟩ := z1h.1 h
 unfold oneF; rw [if_pos h1, h2]; simp
theorem one_no {l : List UInt8} {c : UInt8} {S : St} (h : nextF l [c] S = false) : (oneF l [c] S).2.2 ≠ 0 := by
 rcases z40 l [c] S with h1 | ⟨d, h0, h1, h2, -⟩
 ·exact h1.1
 ·rw [List.mem_singleton] at h2; subst h2; rw [z1h.2 ⟨h0, h1⟩] at h; cases h
theorem z3i {l r : List UInt8} {c : UInt8} {S : St} (h : nextF l [c] S = true) : wordF l (c :: r) S = wordF l r (S.1 + 1, 0) := by rw [wordF, zgs h]
theorem zfv {l r : List UInt8} {c : UInt8} {S : St} (h : nextF l [c] S = false) : (wordF l (c :: r) S).2 ≠ 0 := by
 rw [wordF, z0k _ _ (one_no h)]; exact one_no h
theorem z4d {l r : List UInt8} {c : UInt8} {S : St} (h : (wordF l (c :: r) S).2 = 0) : S.1 + 1 <= (wordF l (c :: r) S).1 := by
 cases hb : nextF l [c] S with
 | true => rw [z3i hb]; exact (z06 l r (S.1 + 1, 0)).1
 | false => exact absurd h (zfv hb)
theorem zcc {l m : List UInt8} {S : St} (h : (oneF l m S).2.2 = 0) : S.1 + 1 = (oneF l m S).2.1 := by
 rcases z40 l m S with h1 | ⟨d, h0, h1, h2, h3⟩
 ·exact absurd h h1.1
 ·rw [h3]
theorem z4j (p : List UInt8 -> Bool) (r : List UInt8) : ∀ (f n : Nat), n <= r.length -> n <= longN p r f n /\ longN p r f n <= r.length
 | 0, n, h => ⟨Nat.le_refl _, h⟩
 | f + 1, n, h => by
  rw [longN]
  split
  ·rename_i hh
   have := z4j p r f (n + 1) hh.1
   omega
  ·exact ⟨Nat.le_refl _, h⟩
theorem z41 (p : List UInt8 -> Bool) (r : List UInt8) : ∀ (f n j : Nat), n <= j -> j < longN p r f n -> p (r.take (j + 1)) = true
 | 0, n, j, h, k => by rw [longN] at k; omega
 | f + 1, n, j, h, k => by
  rw [longN] at k
  split at k
  ·rename_i hh
   by_cases hj : j = n
   ·subst hj; exact hh.2
   ·exact z41 p r f (n + 1) j (by omega) k
  ·omega
theorem z42 (p : List UInt8 -> Bool) (r : List UInt8) : ∀ (f n : Nat), r.length <= n + f -> longN p r f n < r.length -> p (r.take (longN p r f n + 1)) = false
 | 0, n, h, k => by rw [longN] at k; omega
 | f + 1, n, h, k => by
  rw [longN] at k ⊢
  split at k
  ·rename_i hh
   rw [if_pos hh];exact z42 p r f (n + 1) (by omega) k
  ·rename_i hh
   rw [if_neg hh]
   cases hp : p (r.take (n + 1)) with
   | false => rfl
   | true => exact absurd ⟨k, hp⟩ hh
theorem zdy {p : List UInt8 -> Bool} {r : List UInt8} {f n : Nat} (hf : r.length <= f) (hn : n <= r.length) (h1 : ∀ j, j < n -> p (r.take (j + 1)) = true) (h2 : n < r.length -> p (r.take (n + 1)) = false) : longN p r f 0 = n := by
 rcases Nat.lt_trichotomy (longN p r f 0) n with h | h | h
 ·have := z42 p r f 0 (by omega) (by omega)
  rw [h1 _ h] at this; cases this
 ·exact h
 ·have := z41 p r f 0 n (by omega) h
  have h3 := (z4j p r f 0 (by omega)).2
  rw [h2 (by omega)] at this; cases this
theorem z4i {l : List UInt8} {p : List UInt8 -> Bool} {S : St} (h : S.2 ≠ 0) : longF l p S = ([], S) := by unfold longF; rw [if_neg h]
theorem z3c (l : List UInt8) (p : List UInt8 -> Bool) (S : St) : Ge l S (longF l p S).2 := by
 unfold longF
 split
 ·rename_i h0
  split
  ·exact z1u l S
  ·refine ⟨by simp, fun h => ⟨?_, .inl rfl⟩, fun h => absurd h0 h⟩
   have h3 := (z4j p (l.drop S.1) l.length 0 (by omega)).2;have := h.1;rw [List.length_drop] at h3
   simp only; omega
 ·exact Ge.refl l S
theorem zay (l : List UInt8) (S : St) : Ge l S (keyF l S).2 := by
 unfold keyF
 split
 ·exact (z06 l _ _).trans (z3c l _ _)
 ·exact z3c l _ _
theorem zhq (l : List UInt8) (S : St) : Ge l S (quotF l S).2 := by
 unfold quotF
 split
 ·exact (z06 l _ _).trans (z1f l _ _)
 ·exact (z06 l _ _).trans ((z1f l _ _).trans (z06 l _ _))
theorem z4u (l : List UInt8) : ∀ (f : Nat) (acc : List UInt8) (S : St), Ge l S (textL l f acc S).2
 | 0, acc, S => Ge.refl l S
 | f + 1, acc, S => by
  rw [textL]
  split
  ·rename_i h0
   split
   ·exact Ge.refl l S
   ·rename_i c hc
    split
    ·exact Ge.refl l S
    ·split
     ·exact (zhq l S).trans (z4u l f _ _)
     ·have h1 : Ge l S (S.1 + 1, 0) := ⟨by simp, fun h => ⟨z0z hc, .inl rfl⟩, fun h => absurd h0 h⟩
      exact h1.trans (z4u l f _ _)
  ·exact Ge.refl l S
theorem zht (l : List UInt8) (o : Nat) (S : St) : Ge l S (deepF l o S) := by
 unfold deepF
 split
 ·rename_i h
  have h1 := z1h.1 h.1;exact ⟨Nat.le_refl _, fun hw => ⟨hw.1, .inr (.inr ⟨.inr rfl, z0z h1.2⟩)⟩, fun h2 => absurd h1.1 h2⟩
 ·exact Ge.refl l S
section
variable {l : List UInt8}
theorem zhs {cf : Bool -> List UInt8 × St -> List Cs × St} (hc : ∀ h b, Ge l b.2 (cf h b).2) (h : Bool) (S : St) : Ge l S (holeG l cf h S).2 := by
 unfold holeG
 simp only
 split
 ·exact (z06 l _ _).trans ((z3c l _ _).trans ((z06 l _ _).trans ((z1f l _ _).trans (hc _ _))))
 ·split
  ·exact (z06 l _ _).trans ((z3c l _ _).trans ((z06 l _ _).trans ((z1f l _ _).trans (hc _ _))))
  ·exact (z06 l _ _).trans ((z3c l _ _).trans (z06 l _ _))
theorem zhr {cf : Bool -> List UInt8 × St -> List Cs × St} (hc : ∀ h b, Ge l b.2 (cf h b).2) (h : Bool) (S : St) : Ge l S (partG l cf h S).2 := by
 unfold partG
 split
 ·exact zhs hc h S
 ·split
  ·split
   ·exact z06 l _ _
   ·exact (z1u l _).trans (z06 l _ _)
  ·exact z4u l _ _ _
theorem zaz {pf : St -> List Pt × St} (hp : ∀ S, Ge l S (pf S).2) (o : Nat) (S : St) : Ge l S (z16 l pf o S).2 := by
 unfold z16
 exact (zay l S).trans ((z06 l _ _).trans ((zht l o _).trans ((z06 l _ _).trans ((hp _).trans (z06 l _ _)))))
end
theorem zcr (l : List UInt8) : ∀ f, (∀ h o acc S, Ge l S (z0c l f h o acc S).2) /\ (∀ h o acc b, Ge l b.2 (z09 l f h o acc b).2)
 | 0 => ⟨fun h o acc S => by rw [z0c]; exact Ge.refl l S, fun h o acc b => by rw [z09]; exact Ge.refl l b.2⟩
 | f + 1 => by
  obtain ⟨a, c⟩ := zcr l f;refine ⟨fun h o acc S => ?_, fun h o acc b => ?_⟩
  ·rw [z0c]
   split
   ·exact (zhr (fun h b => c h o [] b) h S).trans (a _ _ _ _)
   ·exact Ge.refl l S
  ·rw [z09]
   split
   ·exact (zaz (fun S => a h (o + 1) [] S) o b.2).trans ((z1f l _ _).trans (c _ _ _ _))
   ·exact Ge.refl l b.2
theorem z2k (l : List UInt8) (f : Nat) (h : Bool) (o : Nat) (acc : List Pt) (S : St) : Ge l S (z0c l f h o acc S).2 := (zcr l f).1 h o acc S
theorem z3n (l : List UInt8) (f : Nat) (h : Bool) (o : Nat) (acc : List Cs) (b : List UInt8 × St) : Ge l b.2 (z09 l f h o acc b).2 := (zcr l f).2 h o acc b
theorem z6k {l : List UInt8} {S : St} (h : (quotF l S).2.2 = 0) : S.1 + 1 <= (quotF l S).2.1 := by
 have key : (wordF l [39] S).2 = 0 -> S.1 + 1 <= (wordF l [39] S).1 := z4d
 unfold quotF at *
 split at h
 ·rename_i h1
  rw [if_pos h1];have := key ((z1f l [39, 123, 125, 35] (wordF l [39] S)).live h);have h2 := (z1f l [39, 123, 125, 35] (wordF l [39] S)).1
  omega
 ·rename_i h1
  rw [if_neg h1];have h3 := (z06 l [39] (oneF l [39, 123, 125, 35] (wordF l [39] S)).2);have := key ((z1f l [39, 123, 125, 35] (wordF l [39] S)).live (h3.live h));have h2 := (z1f l [39, 123, 125, 35] (wordF l [39] S)).1;have := h3.1
  simp only at *
  omega
theorem z90 {l : List UInt8} {cf : Bool -> List UInt8 × St -> List Cs × St} (hc : ∀ h b, Ge l b.2 (cf h b).2) {h : Bool} {S : St} (h0 : S.2 = 0) (h1 : S.1 < l.length) (h2 : nextF l [125] S = false) : (partG l cf h S).2.2 ≠ 0 ∨ S.1 + 1 <= (partG l cf h S).2.1 := by
 rcases Nat.eq_zero_or_pos (partG l cf h S).2.2 with hl | hl
 ·right
  unfold partG at *
  split at hl
  ·rename_i hn
   rw [if_pos hn]
   unfold holeG
   simp only
   have hw : S.1 + 1 <= (wordF l [123] S).1 := by rw [z3i hn]; exact (z06 l [] (S.1 + 1, 0)).1
   have e1 := (z3c l nameB (wordF l [123] S)).1
   split
   ·have e2 := ((z06 l seW (longF l nameB (wordF l [123] S)).2).trans ((z1f l [32] _).trans (hc h _))).1
    show S.1 + 1 <= (cf h _).2.1
    omega
   ·split
    ·have e2 := ((z06 l plW (longF l nameB (wordF l [123] S)).2).trans ((z1f l [32] _).trans (hc true _))).1
     show S.1 + 1 <= (cf true _).2.1
     omega
    ·have e2 := (z06 l [125] (longF l nameB (wordF l [123] S)).2).1
     simp only at *
     omega
  ·rename_i hn
   rw [if_neg hn]
   split at hl
   ·rename_i hn2
    rw [if_pos hn2]
    cases h with
    | true => simp only [if_true] at *; rw [z3i hn2]; exact (z06 l [] (S.1 + 1, 0)).1
    | false =>
     simp only [Bool.false_eq_true, if_false] at *
     rw [z0k l _ (z0t l S)] at hl;exact absurd hl (z0t l S)
   ·rename_i hn2
    rw [if_neg hn2];have hx : l[S.1]? = some l[S.1] := List.getElem?_eq_getElem h1;have a : ∃ f, l.length = f + 1 := ⟨l.length - 1, by omega⟩;obtain ⟨f, hf⟩ := a;rw [hf] at hl ⊢;rw [textL, if_pos h0, hx] at hl ⊢;simp only at hl ⊢
    have n1 : ¬ (l[S.1] = 123 ∨ l[S.1] = 125 ∨ l[S.1] = 35) := by
     rintro (e | e | e)
     ·exact hn (z1h.2 ⟨h0, by rw [hx, e]⟩)
     ·rw [z1h.2 ⟨h0, by rw [hx, e]⟩] at h2; cases h2
     ·exact hn2 (z1h.2 ⟨h0, by rw [hx, e]⟩)
    rw [if_neg n1] at hl ⊢
    split at hl
    ·rename_i h39
     rw [if_pos h39];have g := z4u l f ([] ++ (quotF l S).1) (quotF l S).2;have := z6k (g.live hl);have := g.1
     omega
    ·rename_i h39
     rw [if_neg h39];exact (z4u l f _ (S.1 + 1, 0)).1
 ·left; omega
end Go.Proofs.YtdkkkeoicekdgaaGreatDoor

end

section

namespace Go.Proofs.YtdkkkeoicekdgaaGreatDoor
theorem zcw : ∀ (xs : List Pt) (x : Pt), dpPs (xs ++ [x]) = max (dpPs xs) (dpP x)
 | [], x => by simp [dpPs]
 | y :: r, x => by simp only [List.cons_append, dpPs]; rw [zcw r x]; omega
theorem z9k : ∀ (xs : List Cs) (x : Cs), dpCs (xs ++ [x]) = max (dpCs xs) (dpC x)
 | [], x => by simp [dpCs]
 | y :: r, x => by simp only [List.cons_append, dpCs]; rw [z9k r x]; omega
theorem zik (l : List UInt8) (S : St) : (wordF l [123] (deepF l 32 S)).2 ≠ 0 := by
 unfold deepF
 split
 ·rw [z0k l _ (by simp)]; simp
 ·rename_i h
  cases hb : nextF l [123] S with
  | true => exact absurd ⟨hb, rfl⟩ h
  | false => exact zfv hb
theorem zib (l : List UInt8) : ∀ f, (∀ h o acc S, dpPs acc + o <= 32 -> o <= 32 -> (z0c l f h o acc S).2.2 = 0 -> dpPs (z0c l f h o acc S).1 + o <= 32) /\ (∀ h o acc b, dpCs acc + o <= 32 -> o <= 32 -> (z09 l f h o acc b).2.2 = 0 -> dpCs (z09 l f h o acc b).1 + o <= 32)
 | 0 => ⟨fun h o acc S h1 _ _ => by rw [z0c]; exact h1, fun h o acc b h1 _ _ => by rw [z09]; exact h1⟩
 | f + 1 => by
  obtain ⟨c, a⟩ := zib l f;refine ⟨fun h o acc S h1 h2 h3 => ?_, fun h o acc b h1 h2 h3 => ?_⟩
  ·rw [z0c] at h3 ⊢
   split
   ·rename_i hc
    rw [if_pos hc] at h3;refine c _ _ _ _ ?_ h2 h3;have hl := (z2k l f h o _ _).live h3;rw [zcw]
    have : dpP (partG l (fun h b => z09 l f h o [] b) h S).1 + o <= 32 := by
     unfold partG at hl ⊢
     split at hl
     ·rename_i hn
      rw [if_pos hn]
      unfold holeG at hl ⊢
      simp only at hl ⊢
      split at hl
      ·rename_i hs
       rw [if_pos hs];exact a h o [] _ (by simp [dpCs]; exact h2) h2 hl
      ·rename_i hs
       rw [if_neg hs]
       split at hl
       ·rename_i hp
        rw [if_pos hp];exact a true o [] _ (by simp [dpCs]; exact h2) h2 hl
       ·rename_i hp
        rw [if_neg hp]
        simp [dpP, dpCs]; exact h2
     ·rename_i hn
      rw [if_neg hn]
      split
      ·simp [dpP, dpCs]; exact h2
      ·simp [dpP, dpCs]; exact h2
    omega
   ·exact h1
  ·rw [z09] at h3 ⊢
   split
   ·rename_i hc
    rw [if_pos hc] at h3;refine a _ _ _ _ ?_ h2 h3;have hl := (z1f l [32, 125] _).live ((z3n l f h o _ _).live h3);rw [z9k]
    unfold z16 at hl ⊢
    simp only at hl ⊢;have d := (z06 l [125] _).live hl
    have ho : o ≠ 32 := by
     rintro rfl;exact zik l _ ((z2k l f h (32 + 1) [] _).live d)
    have := c h (o + 1) [] _ (by simp [dpPs]; omega) (by omega) d;simp only [dpC]
    omega
   ·exact h1
theorem dp_read {l : List UInt8} (h : (readF l).2.2 = 0) : dpPs (readF l).1 <= 32 := by
 have := (zib l (l.length + 1)).1 false 0 [] (0, 0) (by simp [dpPs]) (by omega) h
 unfold readF; omega
theorem one_text {l m : List UInt8} {S : St} (h : (oneF l m S).2.2 = 0) : ∃ c ∈ m, (oneF l m S).1 = [c] /\ l.drop S.1 = c :: l.drop (oneF l m S).2.1 := by
 rcases z40 l m S with h1 | ⟨d, h0, h1, h2, h3⟩
 ·exact absurd h h1.1
 ·rw [h3]
  obtain ⟨hi, rfl⟩ := List.getElem?_eq_some_iff.1 h1;exact ⟨_, h2, rfl, List.drop_eq_getElem_cons hi⟩
theorem z9x {l : List UInt8} : ∀ {t : List UInt8} {S : St}, (wordF l t S).2 = 0 -> l.drop S.1 = t ++ l.drop (wordF l t S).1
 | [], S, _ => rfl
 | c :: r, S, h => by
  rw [wordF] at h ⊢;obtain ⟨d, hd, -, h1⟩ := one_text ((z06 l r _).live h)
  rw [List.mem_singleton] at hd; subst hd
  rw [h1, z9x h]; rfl
end Go.Proofs.YtdkkkeoicekdgaaGreatDoor

end

section

namespace Go.Proofs.YtdkkkeoicekdgaaGreatDoor
theorem zdn {l t : List UInt8} {S : St} {c : UInt8} (h : (oneF l t S).1 = [c]) : (oneF l t S).2.2 = 0 := by
 rcases z40 l t S with z | ⟨d, z0, z1, z2, z3⟩
 ·rw [z.2.1] at h; cases h
 ·rw [z3]
structure Ag (l m : List UInt8) (k : Nat) : Prop where
 hl : k <= l.length
 hm : k <= m.length
 eq : ∀ i, i < k -> m[i]? = l[i]?
section
variable {l m : List UInt8} {k : Nat} (A : Ag l m k)
include A
theorem Ag.fail {S : St} (h : S.1 < k) : failF m S = failF l S := by
 unfold failF
 have h1 := A.hl; have h2 := A.hm
 rw [if_neg (show ¬ S.1 = m.length by omega), if_neg (show ¬ S.1 = l.length by omega)]
theorem Ag.one {t : List UInt8} {S : St} (h : S.1 < k) : oneF m t S = oneF l t S := by
 unfold oneF
 rw [A.eq _ h, A.fail h]
theorem Ag.word : ∀ {t : List UInt8} {S : St}, (wordF l t S).1 < k -> wordF m t S = wordF l t S
 | [], S, _ => rfl
 | c :: r, S, h => by
  rw [wordF] at h ⊢;rw [wordF];have h1 := (z06 l r (oneF l [c] S).2).1;have h2 := (z1f l [c] S).1;rw [A.one (by omega)];exact Ag.word h
theorem Ag.next {c : UInt8} {S : St} (h : S.1 < k) : nextF m [c] S = nextF l [c] S := by
 have e := A.eq _ h
 cases hb : nextF l [c] S with
 | true => rw [z1h] at hb ⊢; rw [e]; exact hb
 | false =>
  cases hc : nextF m [c] S with
  | false => rfl
  | true => rw [z1h] at hc; rw [e] at hc; rw [z1h.2 hc] at hb; cases hb
theorem Ag.take {a n : Nat} (h : a + n <= k) : (m.drop a).take n = (l.drop a).take n := by
 apply List.ext_getElem?
 intro i;rw [List.getElem?_take, List.getElem?_take]
 split
 ·rw [List.getElem?_drop, List.getElem?_drop, A.eq _ (by omega)]
 ·rfl
theorem Ag.long {p : List UInt8 -> Bool} {S : St} (hS : S.1 <= l.length) (h : (longF l p S).2.1 < k) : longF m p S = longF l p S := by
 have h1 := A.hl; have h2 := A.hm
 by_cases h0 : S.2 = 0
 ·have hn : S.1 + longN p (l.drop S.1) l.length 0 < k := by
   unfold longF at h
   rw [if_pos h0] at h
   split at h
   ·rename_i e; rw [z25] at h; omega
   ·exact h
  have a := z4j p (l.drop S.1) l.length 0 (by omega)
  have hL : longN p (m.drop S.1) m.length 0 = longN p (l.drop S.1) l.length 0 := by
   refine zdy (by simp) (by rw [List.length_drop]; omega) (fun j hj => ?_) (fun hj => ?_)
   ·rw [A.take (by omega)]
    exact z41 p _ _ 0 j (by omega) hj
   ·rw [A.take (by omega)]
    exact z42 p _ _ 0 (by simp) (by rw [List.length_drop]; omega)
  unfold longF
  rw [if_pos h0, if_pos h0, hL, A.take (by omega)]
  split
  ·rw [A.fail (by omega)]
  ·rfl
 ·rw [z4i h0, z4i h0]
theorem Ag.key {S : St} (hS : S.1 <= l.length) (h : (keyF l S).2.1 < k) : keyF m S = keyF l S := by
 have h0 := (zay l S).1
 unfold keyF at h ⊢
 rw [A.next (show S.1 < k by unfold keyF at h0; split at h <;> simp_all <;> omega)]
 split
 ·rename_i hn
  rw [if_pos hn] at h;simp only at h;have h1 := (z3c l numB (wordF l [61] S)).1
  have hw : (wordF l [61] S).1 <= l.length := by
   have := z0z (z1h.1 hn).2
   rw [z3i hn]; exact this
  rw [A.word (by omega), A.long hw h]
 ·rename_i hn
  rw [if_neg hn] at h;exact A.long hS h
theorem Ag.quot {S : St} (h : (quotF l S).2.1 < k) : quotF m S = quotF l S := by
 have h1 := (z1f l [39, 123, 125, 35] (wordF l [39] S)).1;have h2 := (z06 l [39] (oneF l [39, 123, 125, 35] (wordF l [39] S)).2).1
 have h3 : (wordF l [39] S).1 < k := by
  unfold quotF at h
  split at h
  ·omega
  ·simp only at h; omega
 have e1 := A.word h3;have e2 := A.one (t := [39, 123, 125, 35]) h3
 unfold quotF at h ⊢
 rw [e1, e2]
 split
 ·rfl
 ·rename_i hh
  rw [if_neg hh] at h;rw [A.word h]
theorem Ag.text : ∀ (f g : Nat) (acc : List UInt8) (S : St), (S.2 = 0 -> l.length - S.1 <= f) -> (S.2 = 0 -> m.length - S.1 <= g) -> (textL l f acc S).2.1 < k -> textL m g acc S = textL l f acc S
 | f, g, acc, S, hf, hg, h => by
  have h1 := A.hl; have h2 := A.hm
  by_cases h0 : S.2 = 0
  ·have a : S.1 < k := Nat.lt_of_le_of_lt (z4u l f acc S).1 h
   have hf := hf h0;have hg := hg h0;obtain ⟨f', rfl⟩ : ∃ f', f = f' + 1 := ⟨f - 1, by omega⟩;obtain ⟨g', rfl⟩ : ∃ g', g = g' + 1 := ⟨g - 1, by omega⟩;rw [textL] at h ⊢;rw [textL];rw [if_pos h0] at h ⊢;rw [if_pos h0, A.eq _ a]
   split
   ·rfl
   ·rename_i c hc
    rw [hc] at h;simp only at h
    split
    ·rfl
    ·rename_i n1
     rw [if_neg n1] at h
     split
     ·rename_i n2
      rw [if_pos n2] at h;have g1 := z4u l f' (acc ++ (quotF l S).1) (quotF l S).2;have g2 := g1.1;rw [A.quot (by omega)];refine Ag.text f' g' _ _ (fun e => ?_) (fun e => ?_) h
      ·have := z6k e; omega
      ·have := z6k e; omega
     ·rename_i n2
      rw [if_neg n2] at h;exact Ag.text f' g' _ _ (fun _ => by simp only; omega) (fun _ => by simp only; omega) h
  ·have e : ∀ (l : List UInt8) f, textL l f acc S = (acc, S) := fun l f => by
    cases f with
    | zero => rw [textL]
    | succ f => rw [textL, if_neg h0]
   rw [e, e]
end
theorem zap {l : List UInt8} : ∀ {t : List UInt8} {S : St}, S.2 = 0 -> (wordF l t S).2 = 0 -> nextF l t S = true
 | t, S, h0, h => by
  unfold nextF
  simp only [Bool.and_eq_true, decide_eq_true_eq];refine ⟨h0, ?_⟩;rw [List.isPrefixOf_iff_prefix, z9x h];exact List.prefix_append _ _
theorem z6f (l : List UInt8) : ∀ (s t : List UInt8) (S : St), wordF l (s ++ t) S = wordF l t (wordF l s S)
 | [], t, S => rfl
 | c :: r, t, S => by rw [List.cons_append, wordF, wordF, z6f l r t]
section
variable {l m : List UInt8} {k : Nat} (A : Ag l m k)
include A
end
end Go.Proofs.YtdkkkeoicekdgaaGreatDoor

end

section

namespace Go.Proofs.YtdkkkeoicekdgaaGreatDoor
theorem zc2 (l : List UInt8) : Wf l (readF l).2 := (z2k l (l.length + 1) false 0 [] (0, 0)).2.1 ⟨Nat.zero_le _, .inl rfl⟩
theorem zeh {l : List UInt8} (h : (endF l (readF l).2).2 = 0) : (readF l).2.2 = 0 /\ (readF l).2.1 = l.length := by
 have hw := (zc2 l).1
 unfold endF at h
 split at h
 ·exact absurd h (z0t l _)
 ·exact ⟨h, by omega⟩
end Go.Proofs.YtdkkkeoicekdgaaGreatDoor

end

section

namespace Go.Proofs.YtdkkkeoicekdgaaGreatDoor
open Go.RowKit
theorem z3x {k : IntKind} {a b : Int} (h : a = b) : Ending.returned (.int k a) = .returned (.int k b) := by rw [h]
theorem z01 {a b : Bool} (h : a = b) : Ending.returned (.bool a) = .returned (.bool b) := by rw [h]
def Row (w : World) (b : Nat) (t : TypeId) (cs : List Value) : Prop := w.heap[b]? = some (.cells cs.toArray t (0, 0))
theorem Row.cell {w : World} {b : Nat} {t : TypeId} {cs : List Value} (h : Row w b t cs) {i : Nat} {v : Value} (hi : cs[i]? = some v) : w.cell? ⟨b, i, none⟩ = some v := by
 simp only [World.cell?, Row] at *
 simp [h, hi]
theorem Row.thaw {w : World} {b : Nat} {t : TypeId} {cs : List Value} (h : Row w b t cs) (i : Nat) : w.frozen? ⟨b, i, none⟩ = false := by
 simp only [World.frozen?, Row] at *
 simp [h]
theorem Row.set {w : World} {b : Nat} {t : TypeId} {cs : List Value} (h : Row w b t cs) (i : Nat) (v : Value) : Row (w.setCell ⟨b, i, none⟩ v) b t (cs.set i v) := by
 unfold Row at *
 simp [World.setCell, Array.getElem?_modify, h]
theorem Row.keep {w w' : World} {b : Nat} {t : TypeId} {cs : List Value} (h : Row w b t cs) (hk : w'.heap[b]? = w.heap[b]?) : Row w' b t cs := hk.trans h
theorem Row.lt {w : World} {b : Nat} {t : TypeId} {cs : List Value} (h : Row w b t cs) : b < w.heap.size := (Array.getElem?_eq_some_iff.1 h).1
theorem Row.below {w w' : World} {b : Nat} {t : TypeId} {cs : List Value} (h : Row w b t cs) (hb : Below w.heap.size w w') : Row w' b t cs := h.keep (hb.block b h.lt)
theorem z02 (w : World) (cs : Array Value) (t : TypeId) : Row (w.alloc (.cells cs t)) w.heap.size t cs.toList := by
 show (w.heap.push _)[w.heap.size]? = _
 simp
theorem Row.alloc {w : World} {b : Nat} {t : TypeId} {cs : List Value} (h : Row w b t cs) (o : Obj) : Row (w.alloc o) b t cs := h.keep (Below.heap_alloc _ _ _ h.lt)
structure But (g : Nat) (w w' : World) : Prop where
 os : w'.os = w.os
 tape : w'.tape = w.tape
 output : w'.output = w.output
 size : w'.heap.size = w.heap.size
 block : ∀ k, k ≠ g -> w'.heap[k]? = w.heap[k]?
theorem But.refl (g : Nat) (w : World) : But g w w := ⟨rfl, rfl, rfl, rfl, fun _ _ => rfl⟩
theorem But.set {g : Nat} {w w' : World} (h : But g w w') (i : Nat) (u : Value) : But g w (w'.setCell ⟨g, i, none⟩ u) :=
 ⟨h.os, h.tape, h.output, by simpa [World.setCell] using h.size, fun k hk => (Below.heap_setCell _ _ _ _ hk).trans (h.block k hk)⟩
theorem But.trans {g : Nat} {a b c : World} (h : But g a b) (k : But g b c) : But g a c :=
 ⟨k.os.trans h.os, k.tape.trans h.tape, k.output.trans h.output, k.size.trans h.size, fun i hi => (k.block i hi).trans (h.block i hi)⟩
theorem But.below {g B : Nat} {w w' : World} (h : But g w w') (hg : B <= g) : Below B w w' := ⟨h.os, h.tape, h.output, Nat.le_of_eq h.size.symm, fun k hk => h.block k (by omega)⟩
theorem But.row {g b : Nat} {w w' : World} (h : But g w w') {t : TypeId} {cs : List Value} (hr : Row w b t cs) (hb : b ≠ g) : Row w' b t cs := hr.keep (h.block b hb)
theorem z0e (g : Nat) : ∀ (vs : List Value) (o : Nat) (w : World), But g w (w.setCells g o vs)
 | [], _, w => But.refl g w
 | v :: r, o, w => by rw [World.setCells]; exact ((But.refl g w).set o v).trans (z0e g r (o + 1) _)
structure Same (w w' : World) : Prop where
 os : w'.os = w.os
 tape : w'.tape = w.tape
 output : w'.output = w.output
 heap : w'.heap = w.heap
theorem Same.refl (w : World) : Same w w := ⟨rfl, rfl, rfl, rfl⟩
theorem Same.drewN {w w' : World} (h : Same w w') (n : Nat) : Same w (w'.drewN n) := ⟨h.os, h.tape, h.output, h.heap⟩
theorem Same.row {w w' : World} (h : Same w w') {b : Nat} {t : TypeId} {cs : List Value} (hr : Row w b t cs) : Row w' b t cs := hr.keep (by rw [h.heap])
theorem Same.below {B : Nat} {w w' : World} (h : Same w w') : Below B w w' := ⟨h.os, h.tape, h.output, by rw [h.heap]; exact Nat.le_refl _, fun k _ => by rw [h.heap]⟩
theorem z03 (w : World) (o : Obj) : Below w.heap.size w (w.alloc o) := (Below.refl _ w).alloc (Nat.le_refl _) o
theorem z3s (w : World) (o1 o2 : Obj) : Below w.heap.size w ((w.alloc o1).alloc o2) := (z03 w o1).alloc (by simp) o2
theorem z4q (w : World) (o1 o2 o3 : Obj) : Below w.heap.size w (((w.alloc o1).alloc o2).alloc o3) := (z3s w o1 o2).alloc (by simp; omega) o3
theorem z0a {B : Nat} {a w : World} (h : Below B a w) (n : Nat) : Below B a (w.drewN n) := ⟨h.os, h.tape, h.output, h.size, h.block⟩
theorem z00 {w w1 w2 : World} (h1 : Below w.heap.size w w1) (h2 : Below w1.heap.size w1 w2) : Below w.heap.size w w2 := h1.trans (h2.mono h1.size)
theorem z0n {w w' : World} {base : Nat} {e : TypeId} {size : Nat} {v : Value} {n : Nat} {xs : List Value} (h : w.ownsRow base e size v n xs) (hb : Below w.heap.size w w') : w'.ownsRow base e size v n xs := by
 refine ⟨h.1, ?_⟩
 rcases h.2 with h0 | ⟨g, cap, cur, hv, hbs, hh, hr⟩
 ·exact .inl h0
 ·exact .inr ⟨g, cap, cur, hv, hbs, (hb.block g (Array.getElem?_eq_some_iff.1 hh).1).trans hh, hr⟩
theorem z24 {w w' : World} {base : Nat} {e : TypeId} {size : Nat} {v : Value} {n : Nat} {xs : List Value} {A : Nat} (h : w.ownsRow base e size v n xs) (hb : But A w w') (hA : A < base) : w'.ownsRow base e size v n xs := by
 refine ⟨h.1, ?_⟩
 rcases h.2 with h0 | ⟨g, cap, cur, hv, hbs, hh, hr⟩
 ·exact .inl h0
 ·exact .inr ⟨g, cap, cur, hv, hbs, (hb.block g (by omega)).trans hh, hr⟩
theorem z0j {w : World} {base : Nat} {v : Value} {e : TypeId} {k n : Nat} {xs : List Value} (h : w.ownsRow base e k v n xs) : ∃ a cap, v = .slice a n cap /\ n <= cap /\ cap <= 9223372036854775807 /\ (0 < n -> ∃ g, a = some ⟨g, 0, none⟩) := by
 rcases h.2 with ⟨rfl, rfl⟩ | ⟨g, cap, cur, rfl, -, -, hc, hm, -⟩
 ·exact ⟨none, 0, rfl, Nat.le_refl _, by omega, fun h => by omega⟩
 ·exact ⟨_, cap, rfl, hc, by unfold maxLen at hm; exact hm, fun _ => ⟨g, rfl⟩⟩
structure Fr (X : Nat -> Prop) (w w' : World) : Prop where
 os : w'.os = w.os
 tape : w'.tape = w.tape
 output : w'.output = w.output
 size : w.heap.size <= w'.heap.size
 block : ∀ k, k < w.heap.size -> ¬ X k -> w'.heap[k]? = w.heap[k]?
section
variable {X Y : Nat -> Prop} {a w w' : World}
theorem Fr.refl (X : Nat -> Prop) (w : World) : Fr X w w := ⟨rfl, rfl, rfl, Nat.le_refl _, fun _ _ _ => rfl⟩
theorem Fr.trans (h : Fr X a w) (k : Fr X w w') : Fr X a w' :=
 ⟨k.os.trans h.os, k.tape.trans h.tape, k.output.trans h.output, Nat.le_trans h.size k.size, fun i hi hx => (k.block i (Nat.lt_of_lt_of_le hi h.size) hx).trans (h.block i hi hx)⟩
theorem Fr.alloc (h : Fr X a w) (o : Obj) : Fr X a (w.alloc o) :=
 h.trans ⟨rfl, rfl, rfl, by simp, fun k hk _ => Below.heap_alloc _ _ _ hk⟩
theorem Fr.setCell (h : Fr X a w) {p : Addr} (hp : a.heap.size <= p.block ∨ X p.block) (u : Value) : Fr X a (w.setCell p u) :=
 ⟨h.os, h.tape, h.output, by simpa [World.setCell] using h.size, fun k hk hx => (Below.heap_setCell _ _ _ _ (fun e => by subst e; rcases hp with hp | hp; omega; exact hx hp)).trans (h.block k hk hx)⟩
theorem Fr.drew (h : Fr X a w) : Fr X a w.drew := ⟨h.os, h.tape, h.output, h.size, h.block⟩
theorem Fr.of_below (hb : Below w.heap.size w w') : Fr X w w' := ⟨hb.os, hb.tape, hb.output, hb.size, fun k hk _ => hb.block k hk⟩
theorem Fr.grown (h : Fr X a w) {row : Option Nat} (hg : w.grownBy w' row) (hr : ∀ g, row = some g -> a.heap.size <= g ∨ X g) : Fr X a w' :=
 ⟨hg.os.trans h.os, hg.tape.trans h.tape, hg.output.trans h.output, Nat.le_trans h.size hg.size, fun k hk hx => (hg.block k (Nat.lt_of_lt_of_le hk h.size) (fun e => by rcases hr k e.symm with h1 | h1; omega; exact hx h1)).trans (h.block k hk hx)⟩
end
theorem z0d {w w' : World} {base : Nat} {e : TypeId} {size : Nat} {v : Value} {n : Nat} {xs : List Value} (h : w.ownsRow base e size v n xs) (hk : ∀ g, v.ownBlock = some g -> w'.heap[g]? = w.heap[g]?) : w'.ownsRow base e size v n xs := by
 refine ⟨h.1, ?_⟩
 rcases h.2 with h0 | ⟨g, cap, cur, hv, hb, hh, hr⟩
 ·exact .inl h0
 ·exact .inr ⟨g, cap, cur, hv, hb, (hk g (by rw [hv]; rfl)).trans hh, hr⟩
theorem Fr.of_same {X : Nat -> Prop} {w w' : World} (h : Same w w') : Fr X w w' := ⟨h.os, h.tape, h.output, by rw [h.heap]; exact Nat.le_refl _, fun k _ _ => by rw [h.heap]⟩
theorem Fr.to_below {g : Nat} {W w w' : World} (hb : Below W.heap.size W w) (h : Fr (· = g) w w') (hg : W.heap.size <= g) : Below W.heap.size W w' :=
 ⟨h.os.trans hb.os, h.tape.trans hb.tape, h.output.trans hb.output, Nat.le_trans hb.size h.size, fun k hk => (h.block k (Nat.lt_of_lt_of_le hk hb.size) (by omega)).trans (hb.block k hk)⟩
def At {α : Type} (k : Nat) (C : α -> List Value -> Prop) (w : World) (b o : Nat) (x : α) : Prop := ∃ cs, cs.length = k /\ C x cs /\ ∀ j u, cs[j]? = some u -> w.cell? ⟨b, o + j, none⟩ = some u
def Sl {α : Type} (k : Nat) (C : α -> List Value -> Prop) (w : World) (S : Nat -> Prop) (v : Value) (xs : List α) : Prop :=
 ∃ a cap, v = .slice a xs.length cap /\ xs.length <= cap /\ cap <= 9223372036854775807 /\ (xs ≠ [] -> ∃ b off, a = some ⟨b, off, none⟩ /\ S b /\ ∀ (j : Nat) (x : α), xs[j]? = some x -> At k C w b (off + j * k) x)
theorem At.keep {α : Type} {k : Nat} {C C' : α -> List Value -> Prop} {w w' : World} {b o : Nat} {x : α} (h : At k C w b o x) (hk : w'.heap[b]? = w.heap[b]?) (hC : ∀ x cs, C x cs -> C' x cs) : At k C' w' b o x := by
 obtain ⟨cs, hl, hx, hc⟩ := h;exact ⟨cs, hl, hC _ _ hx, fun j u hu => (World.cell?_of_block (a := ⟨b, o + j, none⟩) hk).trans (hc j u hu)⟩
theorem Sl.keep {α : Type} {k : Nat} {C C' : α -> List Value -> Prop} {w w' : World} {S S' : Nat -> Prop} {v : Value} {xs : List α} (h : Sl k C w S v xs) (hk : ∀ b, S b -> w'.heap[b]? = w.heap[b]?) (hS : ∀ b, S b -> S' b) (hC : ∀ x cs, C x cs -> C' x cs) : Sl k C' w' S' v xs := by
 obtain ⟨a, c, hv, hl, hm, hx⟩ := h;refine ⟨a, c, hv, hl, hm, fun hne => ?_⟩;obtain ⟨b, d, ha, hb, f⟩ := hx hne;exact ⟨b, d, ha, hS b hb, fun j x hj => (f j x hj).keep (hk b hb) hC⟩
def Cat {α : Type} (k : Nat) (C : α -> List Value -> Prop) : List α -> List Value -> Prop
 | [], vs => vs = []
 | x :: r, vs => ∃ cs rest, vs = cs ++ rest /\ cs.length = k /\ C x cs /\ Cat k C r rest
theorem Cat.mono {α : Type} {k : Nat} {C C' : α -> List Value -> Prop} (hC : ∀ x cs, C x cs -> C' x cs) : ∀ {xs : List α} {vs : List Value}, Cat k C xs vs -> Cat k C' xs vs
 | [], _, h => h
 | x :: r, vs, h => by
  obtain ⟨cs, a, hv, hl, hx, hr⟩ := h;exact ⟨cs, a, hv, hl, hC _ _ hx, Cat.mono hC hr⟩
theorem Cat.snoc {α : Type} {k : Nat} {C : α -> List Value -> Prop} {x : α} {cs : List Value} (hl : cs.length = k) (hx : C x cs) : ∀ {xs : List α} {vs : List Value}, Cat k C xs vs -> Cat k C (xs ++ [x]) (vs ++ cs)
 | [], vs, h => by
  obtain rfl : vs = [] := h;exact ⟨cs, [], by simp, hl, hx, rfl⟩
 | y :: r, vs, h => by
  obtain ⟨ds, a, rfl, hd, hy, hr⟩ := h;exact ⟨ds, a ++ cs, by simp, hd, hy, Cat.snoc hl hx hr⟩
theorem Cat.get {α : Type} {k : Nat} {C : α -> List Value -> Prop} : ∀ {xs : List α} {vs : List Value}, Cat k C xs vs -> ∀ (j : Nat) (x : α), xs[j]? = some x -> ∃ cs, cs.length = k /\ C x cs /\ ∀ i u, cs[i]? = some u -> vs[j * k + i]? = some u
 | [], _, _, j, x, hj => by simp at hj
 | y :: r, vs, h, 0, x, hj => by
  obtain ⟨cs, a, rfl, hl, hx, hr⟩ := h
  obtain rfl : y = x := by simpa using hj
  exact ⟨cs, hl, hx, fun i u hu => by
   rw [Nat.zero_mul, Nat.zero_add, List.getElem?_append_left (by have := (List.getElem?_eq_some_iff.1 hu).1; omega)]; exact hu⟩
 | y :: r, vs, h, j + 1, x, hj => by
  obtain ⟨cs, a, rfl, hl, hx, hr⟩ := h;obtain ⟨ds, hd, b, hc⟩ := Cat.get hr j x (by simpa using hj);refine ⟨ds, hd, b, fun i u hu => ?_⟩;rw [Nat.succ_mul, List.getElem?_append_right (by omega), show j * k + k + i - cs.length = j * k + i by omega];exact hc i u hu
theorem z5v {w : World} {base k n : Nat} {e : TypeId} {v : Value} {vs : List Value} (h : w.ownsRow base e k v n vs) {b off : Nat} {cap m : Nat} (hv : v = .slice (some ⟨b, off, none⟩) m cap) : off = 0 /\ (∃ cs z, w.heap[b]? = some (.cells cs e z)) /\ ∀ i u, vs[i]? = some u -> w.cell? ⟨b, i, none⟩ = some u := by
 rcases h.2 with ⟨rfl, h0⟩ | ⟨g, cap', cur, rfl, hb, hh, hc, -, hs, ht⟩
 ·cases hv
 ·injection hv with hv
  injection hv with hv
  injection hv with h1 h2
  subst h1;refine ⟨h2.symm, ⟨_, _, hh⟩, fun i u hu => ?_⟩;have a := (List.getElem?_eq_some_iff.1 hu).1;have := h.1;rw [<- ht, List.getElem?_take, if_pos (by omega), Array.getElem?_toList] at hu;simp only [World.cell?, hh, hu]
  simp
theorem Sl.of_owns {α : Type} {k : Nat} {C : α -> List Value -> Prop} {w : World} {base : Nat} {e : TypeId} {v : Value} {xs : List α} {vs : List Value} (h : w.ownsRow base e k v xs.length vs) (hc : Cat k C xs vs) {S : Nat -> Prop} (hS : ∀ b cs z, w.heap[b]? = some (.cells cs e z) -> S b) : Sl k C w S v xs := by
 obtain ⟨a, d, hv, hl, hm, hx⟩ := z0j h;refine ⟨a, d, hv, hl, hm, fun hne => ?_⟩;obtain ⟨g, rfl⟩ := hx (List.length_pos_iff.2 hne);obtain ⟨-, ⟨cs, z, hh⟩, c⟩ := z5v h hv;refine ⟨g, 0, rfl, hS _ _ _ hh, fun j x hj => ?_⟩;obtain ⟨ds, hd, f, l⟩ := hc.get j x hj;exact ⟨ds, hd, f, fun i u hu => by rw [Nat.zero_add]; exact c _ _ (l i u hu)⟩
theorem zdk (w : World) (cs : Array Value) (e : TypeId) (base n : Nat) (k : Nat) (hs : cs.size = n * k) (hb : base <= w.heap.size) (hn : n <= 9223372036854775807) : (w.alloc (.cells cs e)).ownsRow base e k (.slice (some ⟨w.heap.size, 0, none⟩) n n) n cs.toList :=
 ⟨by simpa using hs, .inr ⟨w.heap.size, n, cs, rfl, hb, heap_alloc_new w _, Nat.le_refl _, by unfold maxLen; exact hn, hs, by rw [List.take_of_length_le]; simp [hs]⟩⟩
theorem z1v (w : World) (cs : Array Value) (t : TypeId) {B : Nat} (hB : w.heap.size = B) : ∀ j v, cs.toList[j]? = some v -> (w.alloc (.cells cs t)).cell? (Addr.add ⟨B, 0, none⟩ j) = some v := fun j v hv => by
 subst hB;rw [Addr.add_mid, Nat.zero_add];exact (z02 w cs t).cell hv
theorem zhi : (Tryz.prog.info? 263).map (fun i => (i.zero, i.size, i.bytes)) = some (some (.agg #[.int .i64 0, .string ByteArray.empty, .string ByteArray.empty, .slice none 0 0]), 4, 64) := by kernel_rfl
theorem info44 : (Tryz.prog.info? 284).map (fun i => (i.zero, i.size, i.bytes)) = some (some (.agg #[.string ByteArray.empty, .slice none 0 0]), 2, 40) := by kernel_rfl
abbrev BA := ByteArray
def CP (w : World) (S : Nat -> Prop) : Nat -> Pt -> List Value -> Prop
 | 0, _, _ => False
 | n + 1, x, cs => ∃ v, cs = [.int .i64 x.k, .string x.t, .string x.n, v] /\ Sl 2 (fun (c : Cs) ds => ∃ u, ds = [.string c.key, u] /\ Sl 4 (CP w S n) w S u c.kids) w S v x.cs
def CC (w : World) (S : Nat -> Prop) (n : Nat) (c : Cs) (ds : List Value) : Prop := ∃ u, ds = [.string c.key, u] /\ Sl 4 (CP w S n) w S u c.kids
abbrev SlP (w : World) (S : Nat -> Prop) (n : Nat) (v : Value) (xs : List Pt) : Prop := Sl 4 (CP w S n) w S v xs
abbrev SlC (w : World) (S : Nat -> Prop) (n : Nat) (v : Value) (xs : List Cs) : Prop := Sl 2 (CC w S n) w S v xs
theorem CP.out {w : World} {S : Nat -> Prop} {n : Nat} {x : Pt} {cs : List Value} (h : CP w S n x cs) : ∃ m v, n = m + 1 /\ cs = [.int .i64 x.k, .string x.t, .string x.n, v] /\ SlC w S m v x.cs := by
 cases n with
 | zero => exact h.elim
 | succ m => obtain ⟨v, h1, h2⟩ := h; exact ⟨m, v, rfl, h1, h2⟩
theorem CP.mk {w : World} {S : Nat -> Prop} {n : Nat} {k : Int} {t nm : BA} {cs : List Cs} {v : Value} (h : SlC w S n v cs) : CP w S (n + 1) (.mk k t nm cs) [.int .i64 k, .string t, .string nm, v] := ⟨v, rfl, h⟩
theorem CC.mk {w : World} {S : Nat -> Prop} {n : Nat} {key : BA} {kids : List Pt} {v : Value} (h : SlP w S n v kids) : CC w S n (.mk key kids) [.string key, v] := ⟨v, rfl, h⟩
theorem CP.keep {w w' : World} {S S' : Nat -> Prop} (hk : ∀ b, S b -> w'.heap[b]? = w.heap[b]?) (hS : ∀ b, S b -> S' b) : ∀ {n : Nat} {x : Pt} {cs : List Value}, CP w S n x cs -> CP w' S' n x cs
 | 0, _, _, h => h.elim
 | n + 1, x, cs, h => by
  obtain ⟨v, h1, h2⟩ := h;refine ⟨v, h1, Sl.keep h2 hk hS ?_⟩;rintro c ds ⟨u, hu, hs⟩;exact ⟨u, hu, Sl.keep hs hk hS (fun _ _ => CP.keep hk hS)⟩
theorem CP.more {w : World} {S : Nat -> Prop} : ∀ {n : Nat} {x : Pt} {cs : List Value}, CP w S n x cs -> CP w S (n + 1) x cs
 | 0, _, _, h => h.elim
 | n + 1, x, cs, h => by
  obtain ⟨v, h1, h2⟩ := h;refine ⟨v, h1, Sl.keep h2 (fun _ _ => rfl) (fun _ h => h) ?_⟩;rintro c ds ⟨u, hu, hs⟩;exact ⟨u, hu, Sl.keep hs (fun _ _ => rfl) (fun _ h => h) (fun _ _ => CP.more)⟩
theorem CP.le {w : World} {S : Nat -> Prop} {n m : Nat} {x : Pt} {cs : List Value} (h : CP w S n x cs) (hnm : n <= m) : CP w S m x cs := by
 obtain ⟨d, rfl⟩ := Nat.exists_eq_add_of_le hnm
 induction d with
 | zero => exact h
 | succ d ih => exact CP.more (ih (by omega))
theorem SlP.keep {w w' : World} {S S' : Nat -> Prop} {n : Nat} {v : Value} {xs : List Pt} (h : SlP w S n v xs) (hk : ∀ b, S b -> w'.heap[b]? = w.heap[b]?) (hS : ∀ b, S b -> S' b) : SlP w' S' n v xs := Sl.keep h hk hS (fun _ _ => CP.keep hk hS)
theorem SlP.le {w : World} {S : Nat -> Prop} {n m : Nat} {v : Value} {xs : List Pt} (h : SlP w S n v xs) (hnm : n <= m) : SlP w S m v xs := Sl.keep h (fun _ _ => rfl) (fun _ h => h) (fun _ _ h => h.le hnm)
theorem CC.keep {w w' : World} {S S' : Nat -> Prop} {n : Nat} {c : Cs} {ds : List Value} (h : CC w S n c ds) (hk : ∀ b, S b -> w'.heap[b]? = w.heap[b]?) (hS : ∀ b, S b -> S' b) : CC w' S' n c ds := by
 obtain ⟨u, hu, h⟩ := h;exact ⟨u, hu, SlP.keep h hk hS⟩
theorem CC.le {w : World} {S : Nat -> Prop} {n m : Nat} {c : Cs} {ds : List Value} (h : CC w S n c ds) (hnm : n <= m) : CC w S m c ds := by
 obtain ⟨u, hu, h⟩ := h;exact ⟨u, hu, SlP.le h hnm⟩
theorem SlC.keep {w w' : World} {S S' : Nat -> Prop} {n : Nat} {v : Value} {xs : List Cs} (h : SlC w S n v xs) (hk : ∀ b, S b -> w'.heap[b]? = w.heap[b]?) (hS : ∀ b, S b -> S' b) : SlC w' S' n v xs := Sl.keep h hk hS (fun _ _ h => h.keep hk hS)
theorem SlC.le {w : World} {S : Nat -> Prop} {n m : Nat} {v : Value} {xs : List Cs} (h : SlC w S n v xs) (hnm : n <= m) : SlC w S m v xs := Sl.keep h (fun _ _ => rfl) (fun _ h => h) (fun _ _ h => h.le hnm)
theorem Sl.nil {α : Type} (k : Nat) (C : α -> List Value -> Prop) (w : World) (S : Nat -> Prop) : Sl k C w S (.slice none 0 0) [] := ⟨none, 0, rfl, Nat.le_refl _, by omega, fun h => absurd rfl h⟩
abbrev Old (w : World) (b : Nat) : Prop := b < w.heap.size
abbrev Fsh (B : Nat) (w : World) (b : Nat) : Prop := B <= b /\ b < w.heap.size
abbrev Oth (B : Nat) (v : Value) (w : World) (b : Nat) : Prop := B <= b /\ b < w.heap.size /\ v.ownBlock ≠ some b
structure Gw {α : Type} (e k : Nat) (C : World -> (Nat -> Prop) -> α -> List Value -> Prop) (B : Nat) (w : World) (v : Value) (xs : List α) (vs : List Value) : Prop where
 own : w.ownsRow B e k v xs.length vs
 cat : Cat k (C w (Oth B v w)) xs vs
def Kp {α : Type} (C : World -> (Nat -> Prop) -> α -> List Value -> Prop) : Prop := ∀ {w w' : World} {S S' : Nat -> Prop} {x : α} {cs : List Value}, C w S x cs -> (∀ b, S b -> w'.heap[b]? = w.heap[b]?) -> (∀ b, S b -> S' b) -> C w' S' x cs
abbrev CPn (n : Nat) (w : World) (S : Nat -> Prop) (x : Pt) (cs : List Value) : Prop := CP w S n x cs
abbrev CCn (n : Nat) (w : World) (S : Nat -> Prop) (x : Cs) (cs : List Value) : Prop := CC w S n x cs
theorem kpP (n : Nat) : Kp (CPn n) := fun h hk hS => CP.keep hk hS h
theorem kpC (n : Nat) : Kp (CCn n) := fun h hk hS => CC.keep h hk hS
section
variable {α : Type} {e k : Nat} {C : World -> (Nat -> Prop) -> α -> List Value -> Prop} {B : Nat} {w w' : World} {v : Value} {xs : List α} {vs : List Value}
theorem Gw.nil (e k : Nat) (C : World -> (Nat -> Prop) -> α -> List Value -> Prop) (B : Nat) (w : World) : Gw e k C B w (.slice none 0 0) [] [] := ⟨World.ownsRow_nil _ _ _ _, rfl⟩
theorem Gw.fr (h : Gw e k C B w v xs vs) (hC : Kp C) {X : Nat -> Prop} (hf : Fr X w w') (hX : ∀ b, B <= b -> b < w.heap.size -> ¬ X b) : Gw e k C B w' v xs vs :=
 ⟨z0d h.own (fun g hg => hf.block g (h.own.lt g hg).2 (hX g (h.own.lt g hg).1 (h.own.lt g hg).2)), h.cat.mono (fun _ _ hx => hC hx (fun b hb => hf.block b hb.2.1 (hX b hb.1 hb.2.1)) (fun _ hb => ⟨hb.1, Nat.lt_of_lt_of_le hb.2.1 hf.size, hb.2.2⟩))⟩
theorem Gw.done (h : Gw e k C B w v xs vs) (hC : Kp C) : Sl k (C w (Fsh B w)) w (Fsh B w) v xs := by
 have c := h.own;obtain ⟨a, l, hv, hl, hm, hx⟩ := z0j c;refine ⟨a, l, hv, hl, hm, fun hne => ?_⟩;obtain ⟨g, rfl⟩ := hx (List.length_pos_iff.2 hne);obtain ⟨-, -, d⟩ := z5v c hv;have f := c.lt g (by rw [hv]; rfl);refine ⟨g, 0, rfl, ⟨f.1, f.2⟩, fun j x hj => ?_⟩;obtain ⟨ds, hd, m, n⟩ := h.cat.get j x hj;exact ⟨ds, hd, hC m (fun _ _ => rfl) (fun b hb => ⟨hb.1, hb.2.1⟩), fun i u hu => by rw [Nat.zero_add]; exact d _ _ (n i u hu)⟩
theorem Gw.push {w9 : World} {o : Obj} {x : α} {cs : List Value} {g c n : Nat} {B2 : Nat} (h : Gw e k C B w v xs vs) (hC : Kp C) (hn : n = xs.length) (hx : C w (Fsh B2 w) x cs) (hB : B <= B2) (hv : ∀ b, v.ownBlock = some b -> b < B2) (hk : cs.length = k)
  (hg : (w.alloc o).grownBy w9 v.ownBlock) (hown : w9.ownsRow B e k (.slice (some ⟨g, 0, none⟩) (n + 1) c) (n + 1) (vs ++ cs)) (hgl : v.ownBlock = some g ∨ w.heap.size <= g) :
  Gw e k C B w9 (.slice (some ⟨g, 0, none⟩) (n + 1) c) (xs ++ [x]) (vs ++ cs) := by
 have f : w.heap.size <= w9.heap.size := by have := hg.size; rw [World.size_alloc] at this; omega
 have d : ∀ b, b < w.heap.size -> v.ownBlock ≠ some b -> w9.heap[b]? = w.heap[b]? := fun b hb a =>
  (hg.block b (by rw [World.size_alloc]; omega) (fun e => a e.symm)).trans (Below.heap_alloc _ _ _ hb)
 have a : ∀ b, b < w.heap.size -> v.ownBlock ≠ some b -> (Value.slice (some ⟨g, 0, none⟩) (n + 1) c).ownBlock ≠ some b := fun b hb hq e => by
  have e2 : g = b := Option.some.inj e;subst e2
  rcases hgl with z | z
  ·exact hq z
  ·omega
 refine ⟨by rw [List.length_append, <- hn]; exact hown, Cat.snoc hk ?_ (h.cat.mono (fun _ _ hy => hC hy (fun b hb => d b hb.2.1 hb.2.2) (fun b hb => ⟨hb.1, by omega, a b hb.2.1 hb.2.2⟩)))⟩
 have hq : ∀ b, Fsh B2 w b -> v.ownBlock ≠ some b := fun b hb e => by have := hv b e; omega
 exact hC hx (fun b hb => d b hb.2 (hq b hb)) (fun b hb => ⟨by omega, by omega, a b hb.2 (hq b hb)⟩)
end
theorem Gw.leP {n m : Nat} {B : Nat} {w : World} {v : Value} {xs : List Pt} {vs : List Value} (h : Gw 263 4 (CPn n) B w v xs vs) (hnm : n <= m) : Gw 263 4 (CPn m) B w v xs vs := ⟨h.own, h.cat.mono (fun _ _ hx => CP.le hx hnm)⟩
theorem Gw.leC {n m : Nat} {B : Nat} {w : World} {v : Value} {xs : List Cs} {vs : List Value} (h : Gw 284 2 (CCn n) B w v xs vs) (hnm : n <= m) : Gw 284 2 (CCn m) B w v xs vs := ⟨h.own, h.cat.mono (fun _ _ hx => CC.le hx hnm)⟩
theorem z3f (s : BA) (k : Nat) (h : k < s.size) : s.data.toList[k]? = some s[k] := by rw [Array.getElem?_toList, Array.getElem?_eq_getElem (show k < s.data.size from h)]; rfl
theorem get_no (s : BA) (k : Nat) (h : ¬ k < s.size) : s.data.toList[k]? = none := by rw [List.getElem?_eq_none]; simp; omega
theorem z08 (s : BA) : s.data.toList.length = s.size := by simp
theorem zi5 (c : UInt8) (r : List UInt8) : ByteArray.extract ⟨(c :: r).toArray⟩ 0 1 = ⟨#[c]⟩ := by
 apply ByteArray.ext
 simp [ByteArray.data_extract]
theorem za6 (c : UInt8) (r : List UInt8) : ByteArray.size ⟨(c :: r).toArray⟩ = r.length + 1 := by simp [ByteArray.size]
theorem drop_at {l : List UInt8} {k : Nat} {c : UInt8} (h : l[k]? = some c) : l.drop k = c :: l.drop (k + 1) := by
 obtain ⟨hi, rfl⟩ := List.getElem?_eq_some_iff.1 h;exact List.drop_eq_getElem_cons hi
theorem zct (t : BA) (k : Nat) (h : k < t.size) : (ByteArray.extract t k (k + 1)).data.toList = [t[k]] := by
 have h1 := z3f t k h
 have h2 : (ByteArray.extract t k (k + 1)).data.toList = (t.data.toList.drop k).take (k + 1 - k) := by simp [ByteArray.data_extract]
 rw [h2, show k + 1 - k = 1 by omega, List.take_one, List.head?_drop, h1]; rfl
theorem Row.c0 {w : World} {b : Nat} {t : TypeId} {x : Value} {l : List Value} (h : Row w b t (x :: l)) : w.cell? ⟨b, 0, none⟩ = some x := h.cell (i := 0) rfl
theorem Row.c1 {w : World} {b : Nat} {t : TypeId} {x y : Value} {l : List Value} (h : Row w b t (x :: y :: l)) : w.cell? ⟨b, 1, none⟩ = some y := h.cell (i := 1) rfl
theorem Row.c2 {w : World} {b : Nat} {t : TypeId} {x y z : Value} {l : List Value} (h : Row w b t (x :: y :: z :: l)) : w.cell? ⟨b, 2, none⟩ = some z := h.cell (i := 2) rfl
theorem Row.c3 {w : World} {b : Nat} {t : TypeId} {x y z u : Value} {l : List Value} (h : Row w b t (x :: y :: z :: u :: l)) : w.cell? ⟨b, 3, none⟩ = some u := h.cell (i := 3) rfl
theorem nmd {α : Sort _} (x : α) : ∃ y, Hid (y = x) := ⟨_, Lib.hid rfl⟩
end Go.Proofs.YtdkkkeoicekdgaaGreatDoor

end

section

namespace Go.Proofs.YtdkkkeoicekdgaaGreatDoor
section
variable {P : Program} {ops : Array Oper} {Q : Exit -> Act -> World -> Prop} {md : Region.Mode} {S : World -> Prop}
theorem wT (i : Nat) (oi : Oper) {v : Value} {fuel : Nat} {listed : Array Bool} {a : Act} {w : World} (hy : YieldsIf P ops S oi v a)
  (h : wpAnyH P md ops Q S fuel (listed.setIfInBounds i true) (a.put oi.dst v) w) (hi : ops[i]? = some oi := by rfl)
  (hs : Region.noSelect ops = true := by kernel_rfl) (hf : Region.free md ops listed i = true := by kernel_rfl) (hr : (Region.ready md ops listed).contains i = true := by kernel_rfl)
  (hQ : ∀ c a w, Q (.panic c) (a.put oi.dst v) w -> Q (.panic c) a w := by exact fun _ _ _ h => h) (hS : S w := by assumption) : wpAnyH P md ops Q S (fuel + 1) listed a w := wpAnyH_take hi hs hf hr hQ hy hS h
theorem wR (i : Nat) (o : Oper) {fuel : Nat} {listed : Array Bool} {a : Act} {w : World}
  (h : ∀ K' : Act -> World -> Prop, Shut (∀ a w, S w -> (S w -> wpAnyH P md ops Q S fuel (listed.setIfInBounds i true) a w) -> K' a w) -> if Region.wanted o (yielded ops a.tmps) = true then Oper.wp P o a w K' Q else K' (a.put o.dst undef) w)
  (hr : Region.ready md ops listed = [i] := by kernel_rfl) (ho : ops[i]? = some o := by rfl) : wpAnyH P md ops Q S (fuel + 1) listed a w := wpAnyH_ready hr (by simp) (AllReadyH.cons ho h AllReadyH.nil)
theorem wA (rs : List Nat) {fuel : Nat} {listed : Array Bool} {a : Act} {w : World} (h : AllReadyH P md ops Q S fuel listed a w rs) (hr : Region.ready md ops listed = rs := by kernel_rfl) (hn : rs ≠ [] := by simp) : wpAnyH P md ops Q S (fuel + 1) listed a w := wpAnyH_ready hr hn h
theorem cR (o : Oper) {fuel : Nat} {listed : Array Bool} {a : Act} {w : World} {i : Nat} {rs : List Nat}
  (h : ∀ K' : Act -> World -> Prop, Shut (∀ a w, S w -> (S w -> wpAnyH P md ops Q S fuel (listed.setIfInBounds i true) a w) -> K' a w) -> if Region.wanted o (yielded ops a.tmps) = true then Oper.wp P o a w K' Q else K' (a.put o.dst undef) w)
  (hs : AllReadyH P md ops Q S fuel listed a w rs) (ho : ops[i]? = some o := by rfl) : AllReadyH P md ops Q S fuel listed a w (i :: rs) := AllReadyH.cons ho h hs
end
theorem la {α : Type} (l : List α) (i : Nat) (a : α) : l.toArray.setIfInBounds i a = (l.set i a).toArray := List.setIfInBounds_toArray ..
theorem lb {α : Type} {x a : α} {l : List α} : (x :: l).set 0 a = a :: l := List.set_cons_zero
theorem lc {α : Type} {x a : α} {l : List α} {i : Nat} : (x :: l).set (i + 1) a = x :: l.set i a := List.set_cons_succ
end Go.Proofs.YtdkkkeoicekdgaaGreatDoor

end

section

namespace Go.Proofs.YtdkkkeoicekdgaaGreatDoor
def subs : List Pt -> Nat
 | [] => 0
 | x :: r => cntCs x.cs + subs r
theorem z9m (x : Pt) : cntP x = 1 + cntCs x.cs := by cases x; rw [cntP]; rfl
theorem zir (x : Cs) : cntC x = cntPs x.kids := by cases x; rw [cntC]; rfl
theorem dpP_eq (x : Pt) : dpP x = dpCs x.cs := by cases x; rw [dpP]; rfl
theorem dpC_eq (x : Cs) : dpC x = dpPs x.kids + 1 := by cases x; rw [dpC]; rfl
theorem z1y : ∀ xs : List Pt, cntPs xs = xs.length + subs xs
 | [] => by rw [cntPs, subs]; rfl
 | x :: r => by rw [cntPs, z9m, subs, z1y r, List.length_cons]; omega
theorem z6w : ∀ (xs : List Pt) (x : Pt), subs (xs ++ [x]) = subs xs + cntCs x.cs
 | [], x => by simp [subs]
 | y :: r, x => by show subs (y :: (r ++ [x])) = _; rw [subs, subs, z6w r x]; omega
theorem z5z : ∀ (xs : List Cs) (x : Cs), cntCs (xs ++ [x]) = cntCs xs + cntC x
 | [], x => by simp [cntCs]
 | y :: r, x => by show cntCs (y :: (r ++ [x])) = _; rw [cntCs, cntCs, z5z r x]; omega
theorem take_one {α : Type} {xs : List α} {k : Nat} {x : α} (h : xs[k]? = some x) : xs.take (k + 1) = xs.take k ++ [x] := by
 obtain ⟨a, hx⟩ := List.getElem?_eq_some_iff.1 h;rw [List.take_succ_eq_append_getElem a, hx]
theorem z9i {α : Type} {xs : List α} {k : Nat} {x : α} (h : xs[k]? = some x) : xs.drop k = x :: xs.drop (k + 1) := by
 obtain ⟨a, hx⟩ := List.getElem?_eq_some_iff.1 h;rw [List.drop_eq_getElem_cons a, hx]
theorem za0 {xs : List Pt} {k : Nat} {x : Pt} (h : xs[k]? = some x) : subs (xs.take (k + 1)) = subs (xs.take k) + cntCs x.cs := by rw [take_one h, z6w]
theorem z5y {xs : List Cs} {k : Nat} {x : Cs} (h : xs[k]? = some x) : cntCs (xs.take (k + 1)) = cntCs (xs.take k) + cntPs x.kids := by rw [take_one h, z5z, zir]
theorem zb8 {xs : List Pt} {k : Nat} {x : Pt} (h : xs[k]? = some x) : dpPs (xs.take (k + 1)) = max (dpPs (xs.take k)) (dpCs x.cs) := by rw [take_one h, zcw, dpP_eq]
theorem zb9 {xs : List Cs} {k : Nat} {x : Cs} (h : xs[k]? = some x) : dpCs (xs.take (k + 1)) = max (dpCs (xs.take k)) (dpPs x.kids + 1) := by rw [take_one h, z9k, dpC_eq]
theorem zbo : ∀ (xs : List Pt) (k : Nat), subs (xs.take k) <= subs xs
 | [], k => by simp
 | _ :: _, 0 => by simp [subs]
 | x :: r, k + 1 => by rw [List.take_succ_cons, subs, subs]; have := zbo r k; omega
theorem zet : ∀ (xs : List Cs) (k : Nat), cntCs (xs.take k) <= cntCs xs
 | [], k => by simp
 | _ :: _, 0 => by simp [cntCs]
 | x :: r, k + 1 => by rw [List.take_succ_cons, cntCs, cntCs]; have := zet r k; omega
theorem subs_at {xs : List Pt} {k : Nat} {x : Pt} (h : xs[k]? = some x) : subs (xs.take k) + cntCs x.cs <= subs xs := by
 have := zbo xs (k + 1); rw [za0 h] at this; exact this
theorem zhb {xs : List Cs} {k : Nat} {x : Cs} (h : xs[k]? = some x) : cntCs (xs.take k) + cntPs x.kids <= cntCs xs := by
 have := zet xs (k + 1); rw [z5y h] at this; exact this
theorem zcl (xs : List Pt) : xs.length <= cntPs xs := by rw [z1y]; omega
def Vi (c d br N dp C D : Nat) : Prop := c <= C /\ C <= c + N /\ (C <= 1000 -> C = c + N /\ D = max d (br + dp))
theorem Vi.step {c d br N dp C D N' dp' C' D' : Nat} (h : Vi c d br N dp C D) (hC : C <= 1000) (k : Vi C D (br + 1) N' dp' C' D') : Vi c d br (N + N') (max dp (dp' + 1)) C' D' := by
 obtain ⟨h1, h2, h3⟩ := h;obtain ⟨k1, k2, k3⟩ := k;obtain ⟨h4, h5⟩ := h3 hC;refine ⟨by omega, by omega, fun hC' => ?_⟩;obtain ⟨k4, k5⟩ := k3 hC';exact ⟨by omega, by omega⟩
theorem Vi.over {c d br N dp C D N' dp' : Nat} (h : Vi c d br N dp C D) (hC : 1000 < C) (hN : N <= N') : Vi c d br N' dp' C D := by
 obtain ⟨h1, h2, h3⟩ := h;exact ⟨h1, by omega, fun h => by omega⟩
theorem z8h (xs : List Pt) (x : Pt) : cntPs (xs ++ [x]) = cntPs xs + cntP x := by
 rw [z1y, z1y, z6w, z9m, List.length_append, List.length_singleton]; omega
theorem zes (l : List UInt8) : ∀ f, (∀ h o acc S, (z0c l f h o acc S).2.2 = 0 -> cntPs (z0c l f h o acc S).1 + S.1 <= cntPs acc + (z0c l f h o acc S).2.1) /\ (∀ h o acc b, (z09 l f h o acc b).2.2 = 0 -> cntCs (z09 l f h o acc b).1 + b.2.1 <= cntCs acc + (z09 l f h o acc b).2.1)
 | 0 => ⟨fun h o acc S _ => by rw [z0c]; exact Nat.le_refl _, fun h o acc b _ => by rw [z09]; exact Nat.le_refl _⟩
 | f + 1 => by
  obtain ⟨d, c⟩ := zes l f;refine ⟨fun h o acc S h3 => ?_, fun h o acc b h3 => ?_⟩
  ·rw [z0c] at h3 ⊢
   split
   ·rename_i hc
    rw [if_pos hc] at h3;have hl := (z2k l f h o _ _).live h3;have e1 := d _ _ _ _ h3;rw [z8h] at e1
    have e2 : cntP (partG l (fun h b => z09 l f h o [] b) h S).1 + S.1 <= (partG l (fun h b => z09 l f h o [] b) h S).2.1 := by
     have a := z90 (cf := fun h b => z09 l f h o [] b) (fun h b => z3n l f h o [] b) (h := h) hc.1 hc.2.1 hc.2.2;rw [z9m]
     unfold partG at hl a ⊢
     split at hl
     ·rename_i hn
      rw [if_pos hn] at a ⊢
      have hw : S.1 + 1 <= (wordF l [123] S).1 := by rw [z3i hn]; exact (z06 l [] (S.1 + 1, 0)).1
      have g1 := (z3c l nameB (wordF l [123] S)).1
      unfold holeG at hl a ⊢
      simp only at hl a ⊢
      split at hl
      ·rename_i hs
       rw [if_pos hs];have := c h o [] _ hl;have g2 := ((z06 l seW (longF l nameB (wordF l [123] S)).2).trans (z1f l [32] _)).1;simp only [cntCs, Pt.cs] at this ⊢
       omega
      ·rename_i hs
       rw [if_neg hs] at a ⊢
       split at hl
       ·rename_i hp
        rw [if_pos hp];have := c true o [] _ hl;have g2 := ((z06 l plW (longF l nameB (wordF l [123] S)).2).trans (z1f l [32] _)).1;simp only [cntCs, Pt.cs] at this ⊢
        omega
       ·rename_i hp
        rw [if_neg hp] at a ⊢
        simp only [cntCs, Pt.cs] at *
        omega
     ·rename_i hn
      rw [if_neg hn] at a ⊢
      split at hl
      ·rename_i hn2
       rw [if_pos hn2] at a ⊢
       simp only [cntCs, Pt.cs] at *
       omega
      ·rename_i hn2
       rw [if_neg hn2] at a ⊢
       simp only [cntCs, Pt.cs] at *
       omega
    omega
   ·exact Nat.le_refl _
  ·rw [z09] at h3 ⊢
   split
   ·rename_i hc
    rw [if_pos hc] at h3;have g := (z3n l f h o _ _).live h3;have hl := (z1f l [32, 125] _).live g;have e1 := c _ _ _ _ h3;rw [z5z, zir] at e1;have g1 := (z1f l [32, 125] (z16 l (fun S => z0c l f h (o + 1) [] S) o b.2).2).1
    have e2 : cntPs (z16 l (fun S => z0c l f h (o + 1) [] S) o b.2).1.kids + b.2.1 <= (z16 l (fun S => z0c l f h (o + 1) [] S) o b.2).2.1 := by
     unfold z16 at hl ⊢
     simp only at hl ⊢;have i := (z06 l [125] _).live hl;have := d h (o + 1) [] _ i;have g2 := ((zay l b.2).trans ((z06 l [32] _).trans ((zht l o _).trans (z06 l [123] _)))).1;have g3 := (z06 l [125] (z0c l f h (o + 1) [] (wordF l [123] (deepF l o (wordF l [32] (keyF l b.2).2)))).2).1;simp only [cntPs, Cs.kids] at this ⊢
     omega
    omega
   ·exact Nat.le_refl _
theorem zer {l : List UInt8} (h : (readF l).2.2 = 0) : cntPs (readF l).1 <= l.length := by
 have h1 := (zes l (l.length + 1)).1 false 0 [] (0, 0) h;have h2 := (zc2 l).1;simp only [cntPs] at h1
 unfold readF at h2 ⊢
 omega

def nowF (l : List UInt8) (S : St) : Option UInt8 := if S.2 = 0 then l[S.1]? else none
def runL (l : List UInt8) (w : UInt8 -> Bool) (p : List UInt8 -> Bool) : Nat -> List UInt8 -> St -> List UInt8 × St
  | 0, acc, S => (acc, S)
  | f + 1, acc, S => match nowF l S with
    | some c => if w c then (if p (acc ++ [c]) then runL l w p f (acc ++ [c]) (S.1 + 1, 0) else ([], failF l S)) else (acc, S)
    | none => (acc, S)
def isNow (l : List UInt8) (w : UInt8 -> Bool) (S : St) : Bool := match nowF l S with | some c => w c | none => false
def dName (l : List UInt8) (S : St) : List UInt8 × St := runL l isWrd nameB 33 [] (if isNow l isLet S then S else failF l S)
def dDig (l : List UInt8) (S : St) : List UInt8 × St := runL l isDig numB 33 [] S
def dKey (l : List UInt8) (S : St) : List UInt8 × St :=
  if nowF l S = some 61 then
    (if isNow l isDig (S.1 + 1, 0) then (if (dDig l (S.1 + 1, 0)).2.2 = 0 then 61 :: (dDig l (S.1 + 1, 0)).1 else [], (dDig l (S.1 + 1, 0)).2)
     else ([61], failF l (S.1 + 1, 0)))
  else dName l S
theorem z0b {l : List UInt8} {S : St} {c : UInt8} (h : nowF l S = some c) : S.2 = 0 /\ l[S.1]? = some c := by
  unfold nowF at h; split at h
  · rename_i h0; exact ⟨h0, h⟩
  · cases h
theorem z2x {l : List UInt8} {S : St} {c : UInt8} (h0 : S.2 = 0) (h : l[S.1]? = some c) : nowF l S = some c := by unfold nowF; rw [if_pos h0, h]
theorem z11 {l : List UInt8} {S : St} (h : S.2 ≠ 0) : nowF l S = none := by unfold nowF; rw [if_neg h]
theorem z1t {l : List UInt8} {S : St} {c : UInt8} : nextF l [c] S = true ↔ nowF l S = some c := by
  rw [z1h]
  constructor
  · intro h; exact z2x h.1 h.2
  · intro h; exact z0b h
theorem z2h {l : List UInt8} {S : St} {c : UInt8} (h : nowF l S ≠ some c) : nextF l [c] S = false := by
  cases hn : nextF l [c] S with
  | false => rfl
  | true => exact absurd (z1t.1 hn) h
theorem z27 {l r : List UInt8} {S : St} {c : UInt8} (h : nowF l S ≠ some c) : wordF l (c :: r) S = failF l S := by
  by_cases h0 : S.2 = 0
  · rw [wordF]
    have : (oneF l [c] S).2 = failF l S := by
      unfold oneF
      rw [if_pos h0]
      cases hx : l[S.1]? with
      | none => rfl
      | some d =>
        simp only;rw [if_neg];intro hd
        obtain rfl : d = c := by simpa using hd
        exact h (z2x h0 hx)
    rw [this, z0k l r (z0t l S)]
  · rw [z0k l _ h0, z1i h0]
theorem z5r {l r : List UInt8} {S : St} {c : UInt8} (h : nowF l S = some c) : wordF l (c :: r) S = wordF l r (S.1 + 1, 0) := z3i (z1t.2 h)
theorem z59 {l : List UInt8} {w : UInt8 -> Bool} {p : List UInt8 -> Bool} {f : Nat} {acc : List UInt8} {S : St} (h : S.2 ≠ 0) : runL l w p f acc S = (acc, S) := by
  cases f with
  | zero => rw [runL]
  | succ f => rw [runL, z11 h]
def Gd (l : List UInt8) (D P : List UInt8 × St) : Prop :=
  (D.2 = P.2 /\ (D.2.2 = 0 -> D.1 = P.1)) ∨ (P.2.2 = 0 /\ D.2 = failF l P.2 /\ ∃ c, l[P.2.1]? = some c /\ isWrd c = true)
theorem run_at {l : List UInt8} {w : UInt8 -> Bool} {p : List UInt8 -> Bool} (hw : ∀ acc c, p (acc ++ [c]) = true -> w c = true) {a n : Nat} (hn : longN p (l.drop a) l.length 0 = n) :
    ∀ (d k f : Nat), k + d = n -> d < f -> runL l w p f ((l.drop a).take k) (a + k, 0) = if isNow l w (a + n, 0) then ([], failF l (a + n, 0)) else ((l.drop a).take n, (a + n, 0))
  | d, k, 0, _, hf => by omega
  | d, k, f + 1, hk, hf => by
    have m := (z4j p (l.drop a) l.length 0 (Nat.zero_le _)).2;rw [hn] at m
    have o : (l.drop a).length = l.length - a := by simp
    have b : ∀ c, (l.drop a)[k]? = some c -> (l.drop a).take k ++ [c] = (l.drop a).take (k + 1) := fun c hc => by
      obtain ⟨g, hx⟩ := List.getElem?_eq_some_iff.1 hc;rw [List.take_succ_eq_append_getElem g, hx]
    have h : (l.drop a)[k]? = l[a + k]? := by simp
    rw [runL]
    by_cases hkn : k < n
    · have g : k < (l.drop a).length := by omega
      obtain ⟨c, hc⟩ : ∃ c, (l.drop a)[k]? = some c := ⟨_, List.getElem?_eq_getElem g⟩;have hp := z41 p (l.drop a) l.length 0 k (Nat.zero_le _) (by rw [hn]; exact hkn);rw [<- b c hc] at hp;rw [z2x (S := (a + k, 0)) rfl (by rw [<- h]; exact hc)];simp only;rw [if_pos (hw _ _ hp), if_pos hp, b c hc];exact run_at hw hn (d - 1) (k + 1) f (by omega) (by omega)
    · obtain rfl : k = n := by omega
      cases hc : (l.drop a)[k]? with
      | none =>
        have i : nowF l (a + k, 0) = none := by unfold nowF; rw [if_pos rfl, <- h, hc]
        rw [i];simp only [isNow, i, Bool.false_eq_true, if_false]
      | some c =>
        have j : nowF l (a + k, 0) = some c := z2x rfl (by rw [<- h]; exact hc);rw [j];simp only [isNow, j]
        by_cases hwc : w c = true
        · have g := (List.getElem?_eq_some_iff.1 hc).1
          have hp : p ((l.drop a).take (k + 1)) = false := by
            have := z42 p (l.drop a) l.length 0 (by omega) (by rw [hn]; exact g)
            rw [hn] at this; exact this
          rw [<- b c hc] at hp;rw [if_pos hwc, if_neg (by rw [hp]; simp), if_pos hwc]
        · rw [if_neg hwc, if_neg hwc]
theorem zdx {l : List UInt8} {w : UInt8 -> Bool} {p : List UInt8 -> Bool} {q : UInt8 -> Bool} (hw : ∀ acc c, p (acc ++ [c]) = true -> w c = true) (hq : ∀ c, p [c] = q c) (hqw : ∀ c, w c = true -> isWrd c = true) (hb : ∀ t, p t = true -> t.length < 33) (S : St) :
    Gd l (runL l w p 33 [] (if isNow l q S then S else failF l S)) (longF l p S) := by
  by_cases h0 : S.2 = 0
  · obtain ⟨a, s⟩ := S
    simp only at h0;subst h0
    by_cases hn : isNow l q (a, 0) = true
    · rw [if_pos hn]
      obtain ⟨n, hN⟩ : ∃ n, longN p (l.drop a) l.length 0 = n := ⟨_, rfl⟩
      obtain ⟨c, hc, f⟩ : ∃ c, nowF l (a, 0) = some c /\ q c = true := by
        unfold isNow at hn
        cases hx : nowF l (a, 0) with
        | none => rw [hx] at hn; cases hn
        | some c => rw [hx] at hn; exact ⟨c, rfl, hn⟩
      have hx := (z0b hc).2
      have g : l.drop a = c :: l.drop (a + 1) := by
        obtain ⟨b, he⟩ := List.getElem?_eq_some_iff.1 hx;rw [List.drop_eq_getElem_cons b, he]
      have i := z4j p (l.drop a) l.length 0 (Nat.zero_le _);rw [hN] at i
      have k : n ≠ 0 := by
        intro e;have := z42 p (l.drop a) l.length 0 (by simp) (by rw [hN, e, g]; simp);rw [hN, e, g] at this;simp only [Nat.zero_add, List.take_succ_cons, List.take_zero] at this;rw [hq c, f] at this
        cases this
      have m : n < 33 := by
        have := z41 p (l.drop a) l.length 0 (n - 1) (Nat.zero_le _) (by rw [hN]; omega);have h2 := hb _ this;rw [List.length_take] at h2
        omega
      have hR := run_at (l := l) (w := w) (p := p) hw hN n 0 33 (by omega) m;simp only [List.take_zero, Nat.add_zero] at hR;rw [hR]
      have hP : longF l p (a, 0) = ((l.drop a).take n, (a + n, 0)) := by unfold longF; rw [if_pos rfl]; simp only; rw [hN, if_neg k]
      rw [hP]
      by_cases he : isNow l w (a + n, 0) = true
      · rw [if_pos he]
        right
        refine ⟨rfl, rfl, ?_⟩
        unfold isNow at he
        cases hx : nowF l (a + n, 0) with
        | none => rw [hx] at he; cases he
        | some d => rw [hx] at he; exact ⟨d, (z0b hx).2, hqw d he⟩
      · rw [if_neg he]
        exact .inl ⟨rfl, fun _ => rfl⟩
    · rw [if_neg hn, z59 (z0t l _)]
      have hN : longN p (l.drop a) l.length 0 = 0 := by
        refine zdy (by simp) (Nat.zero_le _) (fun j hj => by omega) (fun b => ?_)
        obtain ⟨c, r, h⟩ : ∃ c r, l.drop a = c :: r := by
          cases hd : l.drop a with
          | nil => rw [hd] at b; simp at b
          | cons c r => exact ⟨c, r, rfl⟩
        rw [h];simp only [Nat.zero_add, List.take_succ_cons, List.take_zero];rw [hq c]
        have hx : l[a]? = some c := by
          have : (l.drop a)[0]? = some c := by rw [h]; rfl
          simpa using this
        cases f : q c with
        | false => rfl
        | true => exact absurd (by unfold isNow; rw [z2x (S := (a, 0)) rfl hx]; exact f) hn
      have hP : longF l p (a, 0) = ([], failF l (a, 0)) := by unfold longF; rw [if_pos rfl]; simp only; rw [hN, if_pos rfl]
      rw [hP];exact .inl ⟨rfl, fun _ => rfl⟩
  · have hn : isNow l q S = false := by unfold isNow; rw [z11 h0]
    rw [hn, z4i h0];simp only [Bool.false_eq_true, if_false];rw [z1i h0, z59 h0];exact .inl ⟨rfl, fun _ => rfl⟩
theorem dig_wrd (c : UInt8) (h : isDig c = true) : isWrd c = true := by unfold isWrd; simp [h]
theorem zds (l : List UInt8) (S : St) : Gd l (dName l S) (longF l nameB S) := by
  refine zdx (q := isLet) (fun acc c h => ?_) (fun c => ?_) (fun c h => h) (fun t h => ?_) S
  · cases acc with
    | nil => simp only [List.nil_append, nameB, List.all_cons, Bool.and_eq_true] at h; exact h.2.1
    | cons d r =>
      simp only [List.cons_append, nameB, List.all_cons, List.all_append, Bool.and_eq_true] at h;exact h.2.2.2.1
  · simp only [nameB, List.all_cons, List.all_nil, List.length_nil]
    by_cases hl : isLet c = true
    · have : isWrd c = true := by unfold isWrd; simp [hl]
      simp [hl, this]
    · simp [hl]
  · cases t with
    | nil => simp [nameB] at h
    | cons d r => simp only [nameB, Bool.and_eq_true, decide_eq_true_eq] at h; simp only [List.length_cons]; omega
theorem dig_doc (l : List UInt8) (S : St) : Gd l (runL l isDig numB 33 [] (if isNow l isDig S then S else failF l S)) (longF l numB S) := by
  refine zdx (q := isDig) (fun acc c h => ?_) (fun c => ?_) (fun c h => dig_wrd c h) (fun t h => ?_) S
  · cases acc with
    | nil => simp only [List.nil_append, numB, List.all_cons, Bool.and_eq_true] at h; exact h.1.1.1.1
    | cons d r =>
      simp only [List.cons_append, numB, List.all_cons, List.all_append, Bool.and_eq_true] at h;exact h.1.1.1.2.2.1
  · simp only [numB, List.all_cons, List.all_nil, List.length_nil, List.isEmpty_nil, Bool.or_true, Bool.and_true, List.foldl_cons, List.foldl_nil]
    have hc := c.toNat_lt
    have : nx 0 c <= 1000000 := by unfold nx; omega
    simp [this]
  · cases t with
    | nil => simp [numB] at h
    | cons d r => simp only [numB, Bool.and_eq_true, decide_eq_true_eq] at h; simp only [List.length_cons]; omega
theorem key_doc (l : List UInt8) (S : St) : Gd l (dKey l S) (keyF l S) := by
  unfold dKey keyF
  by_cases h : nowF l S = some 61
  · rw [if_pos h, if_pos (z1t.2 h), z5r h]
    show Gd l _ ([61] ++ (longF l numB (wordF l [] (S.1 + 1, 0))).1, (longF l numB (wordF l [] (S.1 + 1, 0))).2)
    rw [wordF];have hd := dig_doc l (S.1 + 1, 0)
    by_cases hn : isNow l isDig (S.1 + 1, 0) = true
    · rw [if_pos hn] at hd ⊢
      unfold dDig
      rcases hd with ⟨h1, h2⟩ | ⟨h1, h2, h3⟩
      · exact .inl ⟨h1, fun h4 => by simp only at h4 ⊢; rw [if_pos h4, h2 h4]; rfl⟩
      · exact .inr ⟨h1, h2, h3⟩
    · rw [if_neg hn] at hd ⊢
      rw [z59 (z0t l _)] at hd
      rcases hd with ⟨h1, h2⟩ | ⟨h1, h2, h3⟩
      · exact .inl ⟨h1, fun h4 => absurd h4 (z0t l _)⟩
      · exact .inr ⟨h1, h2, h3⟩
  · rw [if_neg h, if_neg (by rw [z2h h]; simp)]
    exact zds l S
theorem Gd.word {l : List UInt8} {D P : List UInt8 × St} (h : Gd l D P) {c : UInt8} {r : List UInt8} (hc : isWrd c = false) : wordF l (c :: r) D.2 = wordF l (c :: r) P.2 := by
  rcases h with ⟨h, -⟩ | ⟨h1, h2, d, h3, h4⟩
  · rw [h]
  · rw [h2, z0k l _ (z0t l _), z27]
    intro e;have := (z0b e).2;rw [h3] at this;obtain rfl := Option.some.inj this
    rw [hc] at h4; cases h4
theorem Gd.val {l : List UInt8} {D P : List UInt8 × St} (h : Gd l D P) {c : UInt8} {r : List UInt8} (hw : (wordF l (c :: r) P.2).2 = 0) (hc : isWrd c = false) : D.1 = P.1 /\ D.2 = P.2 := by
  rcases h with ⟨h, h'⟩ | ⟨h1, h2, d, h3, h4⟩
  · refine ⟨h' ?_, h⟩
    rw [h]; exact (z06 l _ _).live hw
  · rw [z27] at hw
    · exact absurd hw (z0t l _)
    · intro e
      have := (z0b e).2;rw [h3] at this;obtain rfl := Option.some.inj this
      rw [hc] at h4; cases h4

def addF (acc : List Pt) (c : UInt8) : List Pt := match acc.getLast? with
 | some x => if x.k = 1 then acc.dropLast ++ [.mk x.k (ba (x.t.data.toList ++ [c])) x.n x.cs] else acc ++ [.mk 1 (ba [c]) (ba []) []]
 | none => acc ++ [.mk 1 (ba [c]) (ba []) []]
abbrev seT : List UInt8 := [115, 101, 108, 101, 99, 116, 44]
abbrev plT : List UInt8 := [112, 108, 117, 114, 97, 108, 44]
def z1g (l : List UInt8) (cf : Bool -> St -> List Cs × St) (h : Bool) (S : St) : Pt × St :=
 let N := dName l (S.1 + 1, 0)
 if nowF l N.2 = some 125 then (.mk 2 (ba []) (ba N.1) [], (N.2.1 + 1, 0))
 else if nowF l (wordF l [44, 32] N.2) = some 115 then (.mk 5 (ba []) (ba N.1) (cf h (wordF l seT (wordF l [44, 32] N.2))).1, (cf h (wordF l seT (wordF l [44, 32] N.2))).2)
 else (.mk 4 (ba []) (ba N.1) (cf true (wordF l plT (wordF l [44, 32] N.2))).1, (cf true (wordF l plT (wordF l [44, 32] N.2))).2)
def isSp (d : UInt8) : Prop := d = 39 ∨ d = 123 ∨ d = 125 ∨ d = 35
instance (d : UInt8) : Decidable (isSp d) := by unfold isSp; infer_instance
mutual
def z05 (l : List UInt8) : Nat -> Nat -> Bool -> List Pt -> St -> List Pt × St
 | 0, _, _, acc, S => (acc, S)
 | f + 1, o, h, acc, S => match nowF l S with
  | none => (acc, S)
  | some c =>
   if c = 125 /\ 0 < o then (acc, S)
   else if c = 125 ∨ (c = 35 /\ h = false) then (acc, failF l S)
   else if c = 123 then z05 l f o h (acc ++ [(z1g l (fun h S => z0f l f o h [] S) h S).1]) (z1g l (fun h S => z0f l f o h [] S) h S).2
   else if c = 35 then z05 l f o h (acc ++ [.mk 3 (ba []) (ba []) []]) (S.1 + 1, 0)
   else if c = 39 then
    (match nowF l (S.1 + 1, 0) with
    | some d => if isSp d then z05 l f o h (addF acc d) (if d = 39 then (S.1 + 2, 0) else wordF l [39] (S.1 + 2, 0)) else (acc, failF l (S.1 + 1, 0))
    | none => (acc, failF l (S.1 + 1, 0)))
   else z05 l f o h (addF acc c) (S.1 + 1, 0)
def z0f (l : List UInt8) : Nat -> Nat -> Bool -> List Cs -> St -> List Cs × St
 | 0, _, _, acc, S => (acc, S)
 | f + 1, o, h, acc, S =>
  if S.2 = 0 then
   let K := dKey l (wordF l [32] S)
   let R := wordF l [32] K.2
   if nowF l R = some 123 /\ 32 <= o then (acc, (R.1, 12))
   else
    let P := z05 l f (o + 1) h [] (wordF l [123] R)
    let E := wordF l [125] P.2
    if nowF l E = some 125 then (acc ++ [.mk (ba K.1) P.1], (E.1 + 1, 0)) else z0f l f o h (acc ++ [.mk (ba K.1) P.1]) E
  else (acc, S)
end
theorem z49 {l : List UInt8} {f o : Nat} {h : Bool} {acc : List Pt} {S : St} (h0 : S.2 ≠ 0) : z05 l f o h acc S = (acc, S) := by
 cases f with
 | zero => rw [z05]
 | succ f => rw [z05, z11 h0]
theorem z2a {l : List UInt8} {f o : Nat} {h : Bool} {acc : List Cs} {S : St} (h0 : S.2 ≠ 0) : z0f l f o h acc S = (acc, S) := by
 cases f with
 | zero => rw [z0f]
 | succ f => rw [z0f, if_neg h0]
theorem z2w {l : List UInt8} {f o : Nat} {h : Bool} {acc : List Pt} {S : St} (h0 : S.2 ≠ 0) : z0c l f h o acc S = (acc, S) := by
 cases f with
 | zero => rw [z0c]
 | succ f => rw [z0c, if_neg (fun e => h0 e.1)]
theorem z4a {l : List UInt8} {f o : Nat} {h : Bool} {acc : List Cs} {b : List UInt8 × St} (hb : b.1 ≠ [32]) : z09 l f h o acc b = (acc, b.2) := by
 cases f with
 | zero => rw [z09]
 | succ f => rw [z09, if_neg hb]
abbrev tx (t : List UInt8) : Pt := .mk 1 (ba t) (ba []) []
theorem add_tx (acc : List Pt) (t : List UInt8) (c : UInt8) : addF (acc ++ [tx t]) c = acc ++ [tx (t ++ [c])] := by
 unfold addF; simp [Pt.k, Pt.t, Pt.n, Pt.cs]
theorem zd2 {acc : List Pt} (h : ∀ x, acc.getLast? = some x -> x.k ≠ 1) (c : UInt8) : addF acc c = acc ++ [tx [c]] := by
 unfold addF
 cases hl : acc.getLast? with
 | none => rfl
 | some x => simp only; rw [if_neg (h x hl)]
def Stop (l : List UInt8) (S : St) : Prop := S.2 = 0 -> ∀ c, l[S.1]? = some c -> c = 123 ∨ c = 125 ∨ c = 35
theorem z0u {l : List UInt8} {S : St} {c : UInt8} (h : nowF l S = some c) : Wf l (S.1 + 1, 0) := ⟨z0z (z0b h).2, .inl rfl⟩
theorem z57 {l : List UInt8} {f : Nat} {acc : List UInt8} {S : St} (h : nowF l S = none) : textL l f acc S = (acc, S) := by
 cases f with
 | zero => rw [textL]
 | succ f =>
  rw [textL]
  by_cases h0 : S.2 = 0
  ·unfold nowF at h
   rw [if_pos h0] at h;rw [if_pos h0, h]
  ·rw [if_neg h0]
theorem z9z {l : List UInt8} {f : Nat} {acc : List UInt8} {S : St} {c : UInt8} (h : nowF l S = some c) : textL l (f + 1) acc S = if c = 123 ∨ c = 125 ∨ c = 35 then (acc, S) else if c = 39 then textL l f (acc ++ (quotF l S).1) (quotF l S).2 else textL l f (acc ++ [c]) (S.1 + 1, 0) := by
 obtain ⟨h0, hx⟩ := z0b h;rw [textL, if_pos h0, hx]
theorem zgh {l : List UInt8} {S : St} (h : nowF l S = some 39) : quotF l S = match nowF l (S.1 + 1, 0) with
  | some d => if isSp d then ([d], if d = 39 then (S.1 + 2, 0) else wordF l [39] (S.1 + 2, 0)) else ([], failF l (S.1 + 1, 0))
  | none => ([], failF l (S.1 + 1, 0)) := by
 unfold quotF
 rw [z5r h, wordF]
 have ho : oneF l [39, 123, 125, 35] (S.1 + 1, 0) = match nowF l (S.1 + 1, 0) with
   | some d => if isSp d then ([d], (S.1 + 2, 0)) else ([], failF l (S.1 + 1, 0))
   | none => ([], failF l (S.1 + 1, 0)) := by
  unfold oneF nowF
  simp only [if_true]
  cases hx : l[S.1 + 1]? with
  | none => rfl
  | some d =>
   simp only
   by_cases hd : isSp d
   ·rw [if_pos hd, if_pos (by unfold isSp at hd; simpa using hd)]
   ·rw [if_neg hd, if_neg (by unfold isSp at hd; simpa using hd)]
 rw [ho]
 cases hx : nowF l (S.1 + 1, 0) with
 | none => simp only; rw [if_neg (by simp), z0k l _ (z0t l _)]
 | some d =>
  simp only
  by_cases hd : isSp d
  ·rw [if_pos hd, if_pos hd]
   simp only
   by_cases h39 : d = 39
   ·subst h39; rw [if_pos rfl, if_pos rfl]
   ·rw [if_neg (by simpa using h39), if_neg h39]
  ·rw [if_neg hd, if_neg hd]
   simp only;rw [if_neg (by simp), z0k l _ (z0t l _)]
theorem zhp {l : List UInt8} {S : St} {d : UInt8} (h : nowF l (S.1 + 1, 0) = some d) : Wf l (if d = 39 then (S.1 + 2, 0) else wordF l [39] (S.1 + 2, 0)) /\ S.1 + 2 <= (if d = 39 then ((S.1 + 2, 0) : St) else wordF l [39] (S.1 + 2, 0)).1 := by
 have hw : Wf l (S.1 + 2, 0) := z0u h
 by_cases h39 : d = 39
 ·rw [if_pos h39]; exact ⟨hw, Nat.le_refl _⟩
 ·rw [if_neg h39]; exact ⟨(z06 l [39] _).2.1 hw, (z06 l [39] (S.1 + 2, 0)).1⟩
theorem z6j {l : List UInt8} (o : Nat) (h : Bool) (acc : List Pt) : ∀ (g : Nat) (t : List UInt8) (S : St) (f : Nat), Wf l S -> (S.2 = 0 -> l.length - S.1 < f) -> (S.2 = 0 -> l.length - S.1 <= g) ->
  Wf l (textL l g t S).2 /\ S.1 <= (textL l g t S).2.1 /\ (((textL l g t S).2.2 ≠ 0 /\ (z05 l f o h (acc ++ [tx t]) S).2 = (textL l g t S).2) ∨
   ((textL l g t S).2.2 = 0 /\ Stop l (textL l g t S).2 /\ ∃ f', l.length - (textL l g t S).2.1 < f' /\ z05 l f o h (acc ++ [tx t]) S = z05 l f' o h (acc ++ [tx (textL l g t S).1]) (textL l g t S).2))
 | g, t, S, f, hS, hf, hg => by
  cases hn : nowF l S with
  | none =>
   rw [z57 hn];refine ⟨hS, Nat.le_refl _, ?_⟩
   by_cases h0 : S.2 = 0
   ·refine .inr ⟨h0, fun _ c hc => ?_, f, hf h0, rfl⟩
    rw [z2x h0 hc] at hn; cases hn
   ·exact .inl ⟨h0, by rw [z49 h0]⟩
  | some c =>
   obtain ⟨h0, hx⟩ := z0b hn;have i := z0z hx;have h1 := hf h0;have h2 := hg h0;obtain ⟨g', rfl⟩ : ∃ g', g = g' + 1 := ⟨g - 1, by omega⟩;obtain ⟨f', rfl⟩ : ∃ f', f = f' + 1 := ⟨f - 1, by omega⟩;rw [z9z hn]
   by_cases hc : c = 123 ∨ c = 125 ∨ c = 35
   ·rw [if_pos hc]
    refine ⟨hS, Nat.le_refl _, .inr ⟨h0, fun _ d hd => ?_, f' + 1, h1, rfl⟩⟩
    rw [hx] at hd; obtain rfl := Option.some.inj hd; exact hc
   ·rw [if_neg hc]
    have n1 : c ≠ 123 := fun e => hc (.inl e)
    have n2 : c ≠ 125 := fun e => hc (.inr (.inl e))
    have n3 : c ≠ 35 := fun e => hc (.inr (.inr e))
    have hD : z05 l (f' + 1) o h (acc ++ [tx t]) S = if c = 39 then
      (match nowF l (S.1 + 1, 0) with
      | some d => if isSp d then z05 l f' o h (acc ++ [tx (t ++ [d])]) (if d = 39 then (S.1 + 2, 0) else wordF l [39] (S.1 + 2, 0)) else (acc ++ [tx t], failF l (S.1 + 1, 0))
      | none => (acc ++ [tx t], failF l (S.1 + 1, 0)))
     else z05 l f' o h (acc ++ [tx (t ++ [c])]) (S.1 + 1, 0) := by
     rw [z05, hn];simp only;rw [if_neg (fun e => n2 e.1), if_neg (fun e => by rcases e with e | e; exact n2 e; exact n3 e.1), if_neg n1, if_neg n3, add_tx]
     by_cases hq : c = 39
     ·rw [if_pos hq, if_pos hq]
      cases nowF l (S.1 + 1, 0) with
      | none => rfl
      | some d => simp only; rw [add_tx]
     ·rw [if_neg hq, if_neg hq]
    rw [hD]
    by_cases hq : c = 39
    ·subst hq
     rw [if_pos rfl, if_pos rfl, zgh hn]
     cases hd : nowF l (S.1 + 1, 0) with
     | none =>
      simp only;have a := z0t l (S.1 + 1, 0);have hw : Wf l (failF l (S.1 + 1, 0)) := (z1u l _).2.1 (z0u hn);have := z6j o h acc g' (t ++ []) (failF l (S.1 + 1, 0)) f' hw (fun e => absurd e a) (fun e => absurd e a);have ht : textL l g' (t ++ []) (failF l (S.1 + 1, 0)) = (t ++ [], failF l (S.1 + 1, 0)) := z57 (z11 a);rw [ht];exact ⟨hw, by rw [z25]; exact Nat.le_succ _, .inl ⟨a, rfl⟩⟩
     | some d =>
      simp only
      by_cases hsp : isSp d
      ·rw [if_pos hsp, if_pos hsp]
       simp only;obtain ⟨hw, j⟩ := zhp hd;have b := z0z (z0b hd).2;have k := hw.1;simp only at b;obtain ⟨i1, i2, i3⟩ := z6j o h acc g' (t ++ [d]) _ f' hw (fun _ => by omega) (fun _ => by omega);exact ⟨i1, by omega, i3⟩
      ·rw [if_neg hsp, if_neg hsp]
       simp only;have a := z0t l (S.1 + 1, 0);have hw : Wf l (failF l (S.1 + 1, 0)) := (z1u l _).2.1 (z0u hn);have ht : textL l g' (t ++ []) (failF l (S.1 + 1, 0)) = (t ++ [], failF l (S.1 + 1, 0)) := z57 (z11 a);rw [ht];exact ⟨hw, by rw [z25]; exact Nat.le_succ _, .inl ⟨a, rfl⟩⟩
    ·rw [if_neg hq, if_neg hq]
     obtain ⟨i1, i2, i3⟩ := z6j o h acc g' (t ++ [c]) (S.1 + 1, 0) f' (z0u hn) (fun _ => by simp only; omega) (fun _ => by simp only; omega);exact ⟨i1, by simp only at i2; omega, i3⟩
 termination_by g => g
end Go.Proofs.YtdkkkeoicekdgaaGreatDoor

end
