/- The plain mathematics of package pattern: parts, their text, what may be, the reader as total functions. -/
import Derived.WalkKit

section

namespace Go.Proofs.YtdkkkeoicekdgaaGreatDoor
mutual
inductive Pt where
 | mk (k : Int) (t n : ByteArray) (cs : List Cs)
inductive Cs where
 | mk (key : ByteArray) (kids : List Pt)
end
namespace Pt
def k : Pt -> Int | .mk k _ _ _ => k
def t : Pt -> ByteArray | .mk _ t _ _ => t
def n : Pt -> ByteArray | .mk _ _ n _ => n
def cs : Pt -> List Cs | .mk _ _ _ cs => cs
end Pt
namespace Cs
def key : Cs -> ByteArray | .mk k _ => k
def kids : Cs -> List Pt | .mk _ l => l
end Cs
abbrev ba (l : List UInt8) : ByteArray := ⟨l.toArray⟩
def isLet (c : UInt8) : Bool := decide (97 <= c.toNat) && decide (c.toNat <= 122)
def isDig (c : UInt8) : Bool := decide (48 <= c.toNat) && decide (c.toNat <= 57)
def isWrd (c : UInt8) : Bool := isLet c || isDig c || c == 95
def nameB : List UInt8 -> Bool
 | [] => false
 | c :: r => decide (r.length <= 31) && isLet c && (c :: r).all isWrd
def nx (n : Nat) (c : UInt8) : Nat := n * 10 + (c.toNat - 48)
def numB : List UInt8 -> Bool
 | [] => false
 | c :: r => (c :: r).all isDig && (c != 48 || r.isEmpty) && decide (r.length <= 6) && decide ((c :: r).foldl nx 0 <= 1000000)
def pkeyB (s : List UInt8) : Bool :=
 s == [122, 101, 114, 111] || s == [111, 110, 101] || s == [116, 119, 111] || s == [102, 101, 119] || s == [109, 97, 110, 121] || s == [111, 116, 104, 101, 114] ||
  (match s with | 61 :: r => numB r | _ => false)
mutual
def cntP : Pt -> Nat
 | .mk _ _ _ cs => 1 + cntCs cs
def cntPs : List Pt -> Nat
 | [] => 0
 | x :: r => cntP x + cntPs r
def cntCs : List Cs -> Nat
 | [] => 0
 | x :: r => cntC x + cntCs r
def cntC : Cs -> Nat
 | .mk _ kids => cntPs kids
end
mutual
def dpP : Pt -> Nat
 | .mk _ _ _ cs => dpCs cs
def dpPs : List Pt -> Nat
 | [] => 0
 | x :: r => max (dpP x) (dpPs r)
def dpCs : List Cs -> Nat
 | [] => 0
 | x :: r => max (dpC x) (dpCs r)
def dpC : Cs -> Nat
 | .mk _ kids => dpPs kids + 1
end
mutual
def okP (h : Bool) : Pt -> Bool
 | .mk k t n cs =>
  if k = 1 then !t.data.toList.isEmpty && n.data.toList.isEmpty && cs.isEmpty
  else if k = 2 then t.data.toList.isEmpty && nameB n.data.toList && cs.isEmpty
  else if k = 3 then h && t.data.toList.isEmpty && n.data.toList.isEmpty && cs.isEmpty
  else if k = 4 then t.data.toList.isEmpty && nameB n.data.toList && !cs.isEmpty && decide ((cs.getLast?.map Cs.key) = some (ba [111, 116, 104, 101, 114])) && okCs pkeyB true [] cs
  else if k = 5 then t.data.toList.isEmpty && nameB n.data.toList && !cs.isEmpty && decide ((cs.getLast?.map Cs.key) = some (ba [111, 116, 104, 101, 114])) && okCs nameB h [] cs
  else false
def okPs (h : Bool) : Bool -> List Pt -> Bool
 | _, [] => true
 | b, x :: r => !(decide (x.k = 1) && b) && okP h x && okPs h (decide (x.k = 1)) r
def okCs (p : List UInt8 -> Bool) (h : Bool) : List (List UInt8) -> List Cs -> Bool
 | _, [] => true
 | seen, x :: r => !(decide (x.key.data.toList ∈ seen)) && p x.key.data.toList && okC h x && okCs p h (seen ++ [x.key.data.toList]) r
def okC (h : Bool) : Cs -> Bool
 | .mk _ kids => okPs h false kids
end
def z13 (xs : List Pt) : Nat := if 1000 < cntPs xs then 2 else if 32 < dpPs xs then 12 else if okPs false false xs then 0 else 91
abbrev plW : List UInt8 := [44, 32, 112, 108, 117, 114, 97, 108, 44]
abbrev seW : List UInt8 := [44, 32, 115, 101, 108, 101, 99, 116, 44]
abbrev St := Nat × Nat
def failF (l : List UInt8) (S : St) : St := if S.2 = 0 then (S.1, if S.1 = l.length then 10 else 90) else S
def oneF (l may : List UInt8) (S : St) : List UInt8 × St :=
 if S.2 = 0 then match l[S.1]? with
  | some c => if c ∈ may then ([c], (S.1 + 1, 0)) else ([], failF l S)
  | none => ([], failF l S)
 else ([], S)
def wordF (l : List UInt8) : List UInt8 -> St -> St
 | [], S => S
 | c :: r, S => wordF l r (oneF l [c] S).2
def nextF (l t : List UInt8) (S : St) : Bool := decide (S.2 = 0) && t.isPrefixOf (l.drop S.1)
def longN (p : List UInt8 -> Bool) (r : List UInt8) : Nat -> Nat -> Nat
 | 0, n => n
 | f + 1, n => if n < r.length /\ p (r.take (n + 1)) = true then longN p r f (n + 1) else n
def longF (l : List UInt8) (p : List UInt8 -> Bool) (S : St) : List UInt8 × St :=
 if S.2 = 0 then
  if longN p (l.drop S.1) l.length 0 = 0 then ([], failF l S)
  else ((l.drop S.1).take (longN p (l.drop S.1) l.length 0), (S.1 + longN p (l.drop S.1) l.length 0, 0))
 else ([], S)
def keyF (l : List UInt8) (S : St) : List UInt8 × St :=
 if nextF l [61] S then ([61] ++ (longF l numB (wordF l [61] S)).1, (longF l numB (wordF l [61] S)).2) else longF l nameB S
def quotF (l : List UInt8) (S : St) : List UInt8 × St :=
 if (oneF l [39, 123, 125, 35] (wordF l [39] S)).1 = [39] then oneF l [39, 123, 125, 35] (wordF l [39] S)
 else ((oneF l [39, 123, 125, 35] (wordF l [39] S)).1, wordF l [39] (oneF l [39, 123, 125, 35] (wordF l [39] S)).2)
def textL (l : List UInt8) : Nat -> List UInt8 -> St -> List UInt8 × St
 | 0, acc, S => (acc, S)
 | f + 1, acc, S =>
  if S.2 = 0 then match l[S.1]? with
   | none => (acc, S)
   | some c =>
    if c = 123 ∨ c = 125 ∨ c = 35 then (acc, S)
    else if c = 39 then textL l f (acc ++ (quotF l S).1) (quotF l S).2
    else textL l f (acc ++ [c]) (S.1 + 1, 0)
  else (acc, S)
def holeG (l : List UInt8) (cf : Bool -> List UInt8 × St -> List Cs × St) (h : Bool) (S : St) : Pt × St :=
 let a := longF l nameB (wordF l [123] S)
 if nextF l [44, 32, 115] a.2 then (.mk 5 (ba []) (ba a.1) (cf h (oneF l [32] (wordF l seW a.2))).1, (cf h (oneF l [32] (wordF l seW a.2))).2)
 else if nextF l [44] a.2 then (.mk 4 (ba []) (ba a.1) (cf true (oneF l [32] (wordF l plW a.2))).1, (cf true (oneF l [32] (wordF l plW a.2))).2)
 else (.mk 2 (ba []) (ba a.1) [], wordF l [125] a.2)
def partG (l : List UInt8) (cf : Bool -> List UInt8 × St -> List Cs × St) (h : Bool) (S : St) : Pt × St :=
 if nextF l [123] S then holeG l cf h S
 else if nextF l [35] S then (.mk 3 (ba []) (ba []) [], wordF l [35] (if h then S else failF l S))
 else (.mk 1 (ba (textL l l.length [] S).1) (ba []) [], (textL l l.length [] S).2)
def deepF (l : List UInt8) (o : Nat) (S : St) : St := if nextF l [123] S = true /\ o = 32 then (S.1, 12) else S
def z16 (l : List UInt8) (pf : St -> List Pt × St) (o : Nat) (S : St) : Cs × St :=
 let r := pf (wordF l [123] (deepF l o (wordF l [32] (keyF l S).2)))
 (.mk (ba (keyF l S).1) r.1, wordF l [125] r.2)
mutual
def z0c (l : List UInt8) : Nat -> Bool -> Nat -> List Pt -> St -> List Pt × St
 | 0, _, _, acc, S => (acc, S)
 | f + 1, h, o, acc, S =>
  if S.2 = 0 /\ S.1 < l.length /\ nextF l [125] S = false then
   z0c l f h o (acc ++ [(partG l (fun h b => z09 l f h o [] b) h S).1]) (partG l (fun h b => z09 l f h o [] b) h S).2
  else (acc, S)
def z09 (l : List UInt8) : Nat -> Bool -> Nat -> List Cs -> List UInt8 × St -> List Cs × St
 | 0, _, _, acc, b => (acc, b.2)
 | f + 1, h, o, acc, b =>
  if b.1 = [32] then
   z09 l f h o (acc ++ [(z16 l (fun S => z0c l f h (o + 1) [] S) o b.2).1]) (oneF l [32, 125] (z16 l (fun S => z0c l f h (o + 1) [] S) o b.2).2)
  else (acc, b.2)
end
def readF (l : List UInt8) : List Pt × St := z0c l (l.length + 1) false 0 [] (0, 0)
def endF (l : List UInt8) (S : St) : St := if S.1 < l.length then failF l S else S
def z0q (l : List UInt8) : List Pt × Nat × Nat :=
 if 2000 < l.length then ([], 2, 0)
 else if (endF l (readF l).2).2 ≠ 0 then ([], (endF l (readF l).2).2, (endF l (readF l).2).1)
 else if z13 (readF l).1 ≠ 0 then ([], z13 (readF l).1, 0)
 else ((readF l).1, 0, 0)
end Go.Proofs.YtdkkkeoicekdgaaGreatDoor

end

section

namespace Go.Proofs.YtdkkkeoicekdgaaGreatDoor
def Wf (l : List UInt8) (S : St) : Prop := S.1 <= l.length /\ (S.2 = 0 ∨ (S.2 = 10 /\ S.1 = l.length) ∨ ((S.2 = 90 ∨ S.2 = 12) /\ S.1 < l.length))
def Ge (l : List UInt8) (S S' : St) : Prop := S.1 <= S'.1 /\ (Wf l S -> Wf l S') /\ (S.2 ≠ 0 -> S' = S)
theorem Ge.refl (l : List UInt8) (S : St) : Ge l S S := ⟨Nat.le_refl _, id, fun _ => rfl⟩
theorem Ge.trans {l : List UInt8} {A B C : St} (h : Ge l A B) (k : Ge l B C) : Ge l A C :=
 ⟨Nat.le_trans h.1 k.1, fun x => k.2.1 (h.2.1 x), fun x => by have h1 := h.2.2 x; rw [h1] at k; exact k.2.2 x⟩
theorem Ge.live {l : List UInt8} {A B : St} (h : Ge l A B) (hB : B.2 = 0) : A.2 = 0 := by
 rcases Nat.eq_zero_or_pos A.2 with h0 | h0
 ·exact h0
 ·rw [h.2.2 (by omega)] at hB; exact hB
theorem z0z {l : List UInt8} {a : Nat} {c : UInt8} (h : l[a]? = some c) : a < l.length := (List.getElem?_eq_some_iff.1 h).1
theorem z1i {l : List UInt8} {S : St} (h : S.2 ≠ 0) : failF l S = S := by unfold failF; rw [if_neg h]
theorem z26 (l : List UInt8) (S : St) : (failF l S).1 = S.1 := by unfold failF; split <;> rfl
theorem z0t (l : List UInt8) (S : St) : (failF l S).2 ≠ 0 := by
 unfold failF; split
 ·simp only; split <;> omega
 ·assumption
theorem z1u (l : List UInt8) (S : St) : Ge l S (failF l S) := by
 refine ⟨by rw [z26]; exact Nat.le_refl _, fun h => ?_, fun h => z1i h⟩
 unfold failF
 split
 ·obtain ⟨h1, h2⟩ := h
  refine ⟨h1, ?_⟩;simp only
  split
  ·right; left; exact ⟨rfl, by assumption⟩
  ·right; right; exact ⟨.inl rfl, by omega⟩
 ·exact h
theorem z3x {l m : List UInt8} {S : St} (h : S.2 ≠ 0) : oneF l m S = ([], S) := by unfold oneF; rw [if_neg h]
theorem z1f (l m : List UInt8) (S : St) : Ge l S (oneF l m S).2 := by
 unfold oneF
 split
 ·rename_i h0
  split
  ·rename_i c hc
   split
   ·refine ⟨by simp, fun h => ⟨z0z hc, .inl rfl⟩, fun h => absurd h0 h⟩
   ·exact z1u l S
  ·exact z1u l S
 ·exact Ge.refl l S
theorem z3y (l m : List UInt8) (S : St) : ((oneF l m S).2.2 ≠ 0 /\ (oneF l m S).1 = [] /\ (oneF l m S).2.1 = S.1) ∨ ∃ c, S.2 = 0 /\ l[S.1]? = some c /\ c ∈ m /\ oneF l m S = ([c], (S.1 + 1, 0)) := by
 unfold oneF
 split
 ·rename_i h0
  split
  ·rename_i c hc
   split
   ·right; exact ⟨c, h0, hc, by assumption, rfl⟩
   ·left; exact ⟨z0t l S, rfl, z26 l S⟩
  ·left; exact ⟨z0t l S, rfl, z26 l S⟩
 ·left; exact ⟨by assumption, rfl, rfl⟩
theorem z06 (l : List UInt8) : ∀ (t : List UInt8) (S : St), Ge l S (wordF l t S)
 | [], S => Ge.refl l S
 | c :: r, S => by rw [wordF]; exact (z1f l [c] S).trans (z06 l r _)
theorem z0j (l t : List UInt8) {S : St} (h : S.2 ≠ 0) : wordF l t S = S := (z06 l t S).2.2 h
theorem z1h {l : List UInt8} {c : UInt8} {S : St} : nextF l [c] S = true ↔ S.2 = 0 /\ l[S.1]? = some c := by
 unfold nextF
 cases hd : l.drop S.1 with
 | nil =>
  have : l[S.1]? = none := by rw [List.getElem?_eq_none]; simpa using hd
  simp [this]
 | cons d r =>
  have : l[S.1]? = some d := by rw [<- Nat.add_zero S.1, <- List.getElem?_drop, hd]; rfl
  rw [this]; simp [List.isPrefixOf]; intro _; exact eq_comm
theorem next_in {l t : List UInt8} {c : UInt8} {S : St} (h : nextF l (c :: t) S = true) : nextF l [c] S = true := by
 unfold nextF at *
 cases hd : l.drop S.1 with
 | nil => rw [hd] at h; simp [List.isPrefixOf] at h
 | cons d r => rw [hd] at h; simp [List.isPrefixOf] at h ⊢; exact ⟨h.1, h.2.1⟩
theorem zgs {l : List UInt8} {c : UInt8} {S : St} (h : nextF l [c] S = true) : oneF l [c] S = ([c], (S.1 + 1, 0)) := by
 obtain ⟨h1, h2⟩ := z1h.1 h
 unfold oneF; rw [if_pos h1, h2]; simp
theorem one_no {l : List UInt8} {c : UInt8} {S : St} (h : nextF l [c] S = false) : (oneF l [c] S).2.2 ≠ 0 := by
 rcases z3y l [c] S with h1 | ⟨d, h0, h1, h2, -⟩
 ·exact h1.1
 ·rw [List.mem_singleton] at h2; subst h2; rw [z1h.2 ⟨h0, h1⟩] at h; cases h
theorem z3i {l r : List UInt8} {c : UInt8} {S : St} (h : nextF l [c] S = true) : wordF l (c :: r) S = wordF l r (S.1 + 1, 0) := by rw [wordF, zgs h]
theorem zfs {l r : List UInt8} {c : UInt8} {S : St} (h : nextF l [c] S = false) : (wordF l (c :: r) S).2 ≠ 0 := by
 rw [wordF, z0j _ _ (one_no h)]; exact one_no h
theorem z4b {l r : List UInt8} {c : UInt8} {S : St} (h : (wordF l (c :: r) S).2 = 0) : S.1 + 1 <= (wordF l (c :: r) S).1 := by
 cases hb : nextF l [c] S with
 | true => rw [z3i hb]; exact (z06 l r (S.1 + 1, 0)).1
 | false => exact absurd h (zfs hb)
theorem zc7 {l m : List UInt8} {S : St} (h : (oneF l m S).2.2 = 0) : S.1 + 1 = (oneF l m S).2.1 := by
 rcases z3y l m S with h1 | ⟨d, h0, h1, h2, h3⟩
 ·exact absurd h h1.1
 ·rw [h3]
theorem z4g (p : List UInt8 -> Bool) (r : List UInt8) : ∀ (f n : Nat), n <= r.length -> n <= longN p r f n /\ longN p r f n <= r.length
 | 0, n, h => ⟨Nat.le_refl _, h⟩
 | f + 1, n, h => by
  rw [longN]
  split
  ·rename_i hh
   have := z4g p r f (n + 1) hh.1
   omega
  ·exact ⟨Nat.le_refl _, h⟩
theorem z3z (p : List UInt8 -> Bool) (r : List UInt8) : ∀ (f n j : Nat), n <= j -> j < longN p r f n -> p (r.take (j + 1)) = true
 | 0, n, j, h, k => by rw [longN] at k; omega
 | f + 1, n, j, h, k => by
  rw [longN] at k
  split at k
  ·rename_i hh
   by_cases hj : j = n
   ·subst hj; exact hh.2
   ·exact z3z p r f (n + 1) j (by omega) k
  ·omega
theorem z40 (p : List UInt8 -> Bool) (r : List UInt8) : ∀ (f n : Nat), r.length <= n + f -> longN p r f n < r.length -> p (r.take (longN p r f n + 1)) = false
 | 0, n, h, k => by rw [longN] at k; omega
 | f + 1, n, h, k => by
  rw [longN] at k ⊢
  split at k
  ·rename_i hh
   rw [if_pos hh];exact z40 p r f (n + 1) (by omega) k
  ·rename_i hh
   rw [if_neg hh]
   cases hp : p (r.take (n + 1)) with
   | false => rfl
   | true => exact absurd ⟨k, hp⟩ hh
theorem zdu {p : List UInt8 -> Bool} {r : List UInt8} {f n : Nat} (hf : r.length <= f) (hn : n <= r.length) (h1 : ∀ j, j < n -> p (r.take (j + 1)) = true) (h2 : n < r.length -> p (r.take (n + 1)) = false) : longN p r f 0 = n := by
 rcases Nat.lt_trichotomy (longN p r f 0) n with h | h | h
 ·have := z40 p r f 0 (by omega) (by omega)
  rw [h1 _ h] at this; cases this
 ·exact h
 ·have := z3z p r f 0 n (by omega) h
  have h3 := (z4g p r f 0 (by omega)).2
  rw [h2 (by omega)] at this; cases this
theorem z4f {l : List UInt8} {p : List UInt8 -> Bool} {S : St} (h : S.2 ≠ 0) : longF l p S = ([], S) := by unfold longF; rw [if_neg h]
theorem z3b (l : List UInt8) (p : List UInt8 -> Bool) (S : St) : Ge l S (longF l p S).2 := by
 unfold longF
 split
 ·rename_i h0
  split
  ·exact z1u l S
  ·refine ⟨by simp, fun h => ⟨?_, .inl rfl⟩, fun h => absurd h0 h⟩
   have h3 := (z4g p (l.drop S.1) l.length 0 (by omega)).2;have := h.1;rw [List.length_drop] at h3
   simp only; omega
 ·exact Ge.refl l S
theorem zav (l : List UInt8) (S : St) : Ge l S (keyF l S).2 := by
 unfold keyF
 split
 ·exact (z06 l _ _).trans (z3b l _ _)
 ·exact z3b l _ _
theorem zhp (l : List UInt8) (S : St) : Ge l S (quotF l S).2 := by
 unfold quotF
 split
 ·exact (z06 l _ _).trans (z1f l _ _)
 ·exact (z06 l _ _).trans ((z1f l _ _).trans (z06 l _ _))
theorem z4q (l : List UInt8) : ∀ (f : Nat) (acc : List UInt8) (S : St), Ge l S (textL l f acc S).2
 | 0, acc, S => Ge.refl l S
 | f + 1, acc, S => by
  rw [textL]
  split
  ·rename_i h0
   split
   ·exact Ge.refl l S
   ·rename_i c hc
    split
    ·exact Ge.refl l S
    ·split
     ·exact (zhp l S).trans (z4q l f _ _)
     ·have h1 : Ge l S (S.1 + 1, 0) := ⟨by simp, fun h => ⟨z0z hc, .inl rfl⟩, fun h => absurd h0 h⟩
      exact h1.trans (z4q l f _ _)
  ·exact Ge.refl l S
theorem zhs (l : List UInt8) (o : Nat) (S : St) : Ge l S (deepF l o S) := by
 unfold deepF
 split
 ·rename_i h
  have h1 := z1h.1 h.1;exact ⟨Nat.le_refl _, fun hw => ⟨hw.1, .inr (.inr ⟨.inr rfl, z0z h1.2⟩)⟩, fun h2 => absurd h1.1 h2⟩
 ·exact Ge.refl l S
section
variable {l : List UInt8}
theorem zhr {cf : Bool -> List UInt8 × St -> List Cs × St} (hc : ∀ h b, Ge l b.2 (cf h b).2) (h : Bool) (S : St) : Ge l S (holeG l cf h S).2 := by
 unfold holeG
 simp only
 split
 ·exact (z06 l _ _).trans ((z3b l _ _).trans ((z06 l _ _).trans ((z1f l _ _).trans (hc _ _))))
 ·split
  ·exact (z06 l _ _).trans ((z3b l _ _).trans ((z06 l _ _).trans ((z1f l _ _).trans (hc _ _))))
  ·exact (z06 l _ _).trans ((z3b l _ _).trans (z06 l _ _))
theorem zhq {cf : Bool -> List UInt8 × St -> List Cs × St} (hc : ∀ h b, Ge l b.2 (cf h b).2) (h : Bool) (S : St) : Ge l S (partG l cf h S).2 := by
 unfold partG
 split
 ·exact zhr hc h S
 ·split
  ·split
   ·exact z06 l _ _
   ·exact (z1u l _).trans (z06 l _ _)
  ·exact z4q l _ _ _
theorem zaw {pf : St -> List Pt × St} (hp : ∀ S, Ge l S (pf S).2) (o : Nat) (S : St) : Ge l S (z16 l pf o S).2 := by
 unfold z16
 exact (zav l S).trans ((z06 l _ _).trans ((zhs l o _).trans ((z06 l _ _).trans ((hp _).trans (z06 l _ _)))))
end
theorem zcn (l : List UInt8) : ∀ f, (∀ h o acc S, Ge l S (z0c l f h o acc S).2) /\ (∀ h o acc b, Ge l b.2 (z09 l f h o acc b).2)
 | 0 => ⟨fun h o acc S => by rw [z0c]; exact Ge.refl l S, fun h o acc b => by rw [z09]; exact Ge.refl l b.2⟩
 | f + 1 => by
  obtain ⟨a, c⟩ := zcn l f;refine ⟨fun h o acc S => ?_, fun h o acc b => ?_⟩
  ·rw [z0c]
   split
   ·exact (zhq (fun h b => c h o [] b) h S).trans (a _ _ _ _)
   ·exact Ge.refl l S
  ·rw [z09]
   split
   ·exact (zaw (fun S => a h (o + 1) [] S) o b.2).trans ((z1f l _ _).trans (c _ _ _ _))
   ·exact Ge.refl l b.2
theorem z2l (l : List UInt8) (f : Nat) (h : Bool) (o : Nat) (acc : List Pt) (S : St) : Ge l S (z0c l f h o acc S).2 := (zcn l f).1 h o acc S
theorem z3m (l : List UInt8) (f : Nat) (h : Bool) (o : Nat) (acc : List Cs) (b : List UInt8 × St) : Ge l b.2 (z09 l f h o acc b).2 := (zcn l f).2 h o acc b
theorem z6e {l : List UInt8} {S : St} (h : (quotF l S).2.2 = 0) : S.1 + 1 <= (quotF l S).2.1 := by
 have key : (wordF l [39] S).2 = 0 -> S.1 + 1 <= (wordF l [39] S).1 := z4b
 unfold quotF at *
 split at h
 ·rename_i h1
  rw [if_pos h1];have := key ((z1f l [39, 123, 125, 35] (wordF l [39] S)).live h);have h2 := (z1f l [39, 123, 125, 35] (wordF l [39] S)).1
  omega
 ·rename_i h1
  rw [if_neg h1];have h3 := (z06 l [39] (oneF l [39, 123, 125, 35] (wordF l [39] S)).2);have := key ((z1f l [39, 123, 125, 35] (wordF l [39] S)).live (h3.live h));have h2 := (z1f l [39, 123, 125, 35] (wordF l [39] S)).1;have := h3.1
  simp only at *
  omega
theorem z8x {l : List UInt8} {cf : Bool -> List UInt8 × St -> List Cs × St} (hc : ∀ h b, Ge l b.2 (cf h b).2) {h : Bool} {S : St} (h0 : S.2 = 0) (h1 : S.1 < l.length) (h2 : nextF l [125] S = false) : (partG l cf h S).2.2 ≠ 0 ∨ S.1 + 1 <= (partG l cf h S).2.1 := by
 rcases Nat.eq_zero_or_pos (partG l cf h S).2.2 with hl | hl
 ·right
  unfold partG at *
  split at hl
  ·rename_i hn
   rw [if_pos hn]
   unfold holeG
   simp only
   have hw : S.1 + 1 <= (wordF l [123] S).1 := by rw [z3i hn]; exact (z06 l [] (S.1 + 1, 0)).1
   have e1 := (z3b l nameB (wordF l [123] S)).1
   split
   ·have e2 := ((z06 l seW (longF l nameB (wordF l [123] S)).2).trans ((z1f l [32] _).trans (hc h _))).1
    show S.1 + 1 <= (cf h _).2.1
    omega
   ·split
    ·have e2 := ((z06 l plW (longF l nameB (wordF l [123] S)).2).trans ((z1f l [32] _).trans (hc true _))).1
     show S.1 + 1 <= (cf true _).2.1
     omega
    ·have e2 := (z06 l [125] (longF l nameB (wordF l [123] S)).2).1
     simp only at *
     omega
  ·rename_i hn
   rw [if_neg hn]
   split at hl
   ·rename_i hn2
    rw [if_pos hn2]
    cases h with
    | true => simp only [if_true] at *; rw [z3i hn2]; exact (z06 l [] (S.1 + 1, 0)).1
    | false =>
     simp only [Bool.false_eq_true, if_false] at *
     rw [z0j l _ (z0t l S)] at hl;exact absurd hl (z0t l S)
   ·rename_i hn2
    rw [if_neg hn2];have hx : l[S.1]? = some l[S.1] := List.getElem?_eq_getElem h1;have a : ∃ f, l.length = f + 1 := ⟨l.length - 1, by omega⟩;obtain ⟨f, hf⟩ := a;rw [hf] at hl ⊢;rw [textL, if_pos h0, hx] at hl ⊢;simp only at hl ⊢
    have n1 : ¬ (l[S.1] = 123 ∨ l[S.1] = 125 ∨ l[S.1] = 35) := by
     rintro (e | e | e)
     ·exact hn (z1h.2 ⟨h0, by rw [hx, e]⟩)
     ·rw [z1h.2 ⟨h0, by rw [hx, e]⟩] at h2; cases h2
     ·exact hn2 (z1h.2 ⟨h0, by rw [hx, e]⟩)
    rw [if_neg n1] at hl ⊢
    split at hl
    ·rename_i h39
     rw [if_pos h39];have g := z4q l f ([] ++ (quotF l S).1) (quotF l S).2;have := z6e (g.live hl);have := g.1
     omega
    ·rename_i h39
     rw [if_neg h39];exact (z4q l f _ (S.1 + 1, 0)).1
 ·left; omega
end Go.Proofs.YtdkkkeoicekdgaaGreatDoor

end

section

namespace Go.Proofs.YtdkkkeoicekdgaaGreatDoor
theorem zcs : ∀ (xs : List Pt) (x : Pt), dpPs (xs ++ [x]) = max (dpPs xs) (dpP x)
 | [], x => by simp [dpPs]
 | y :: r, x => by simp only [List.cons_append, dpPs]; rw [zcs r x]; omega
theorem z9i : ∀ (xs : List Cs) (x : Cs), dpCs (xs ++ [x]) = max (dpCs xs) (dpC x)
 | [], x => by simp [dpCs]
 | y :: r, x => by simp only [List.cons_append, dpCs]; rw [z9i r x]; omega
theorem zij (l : List UInt8) (S : St) : (wordF l [123] (deepF l 32 S)).2 ≠ 0 := by
 unfold deepF
 split
 ·rw [z0j l _ (by simp)]; simp
 ·rename_i h
  cases hb : nextF l [123] S with
  | true => exact absurd ⟨hb, rfl⟩ h
  | false => exact zfs hb
theorem zia (l : List UInt8) : ∀ f, (∀ h o acc S, dpPs acc + o <= 32 -> o <= 32 -> (z0c l f h o acc S).2.2 = 0 -> dpPs (z0c l f h o acc S).1 + o <= 32) /\ (∀ h o acc b, dpCs acc + o <= 32 -> o <= 32 -> (z09 l f h o acc b).2.2 = 0 -> dpCs (z09 l f h o acc b).1 + o <= 32)
 | 0 => ⟨fun h o acc S h1 _ _ => by rw [z0c]; exact h1, fun h o acc b h1 _ _ => by rw [z09]; exact h1⟩
 | f + 1 => by
  obtain ⟨c, a⟩ := zia l f;refine ⟨fun h o acc S h1 h2 h3 => ?_, fun h o acc b h1 h2 h3 => ?_⟩
  ·rw [z0c] at h3 ⊢
   split
   ·rename_i hc
    rw [if_pos hc] at h3;refine c _ _ _ _ ?_ h2 h3;have hl := (z2l l f h o _ _).live h3;rw [zcs]
    have : dpP (partG l (fun h b => z09 l f h o [] b) h S).1 + o <= 32 := by
     unfold partG at hl ⊢
     split at hl
     ·rename_i hn
      rw [if_pos hn]
      unfold holeG at hl ⊢
      simp only at hl ⊢
      split at hl
      ·rename_i hs
       rw [if_pos hs];exact a h o [] _ (by simp [dpCs]; exact h2) h2 hl
      ·rename_i hs
       rw [if_neg hs]
       split at hl
       ·rename_i hp
        rw [if_pos hp];exact a true o [] _ (by simp [dpCs]; exact h2) h2 hl
       ·rename_i hp
        rw [if_neg hp]
        simp [dpP, dpCs]; exact h2
     ·rename_i hn
      rw [if_neg hn]
      split
      ·simp [dpP, dpCs]; exact h2
      ·simp [dpP, dpCs]; exact h2
    omega
   ·exact h1
  ·rw [z09] at h3 ⊢
   split
   ·rename_i hc
    rw [if_pos hc] at h3;refine a _ _ _ _ ?_ h2 h3;have hl := (z1f l [32, 125] _).live ((z3m l f h o _ _).live h3);rw [z9i]
    unfold z16 at hl ⊢
    simp only at hl ⊢;have d := (z06 l [125] _).live hl
    have ho : o ≠ 32 := by
     rintro rfl;exact zij l _ ((z2l l f h (32 + 1) [] _).live d)
    have := c h (o + 1) [] _ (by simp [dpPs]; omega) (by omega) d;simp only [dpC]
    omega
   ·exact h1
theorem dp_read {l : List UInt8} (h : (readF l).2.2 = 0) : dpPs (readF l).1 <= 32 := by
 have := (zia l (l.length + 1)).1 false 0 [] (0, 0) (by simp [dpPs]) (by omega) h
 unfold readF; omega
theorem one_text {l m : List UInt8} {S : St} (h : (oneF l m S).2.2 = 0) : ∃ c ∈ m, (oneF l m S).1 = [c] /\ l.drop S.1 = c :: l.drop (oneF l m S).2.1 := by
 rcases z3y l m S with h1 | ⟨d, h0, h1, h2, h3⟩
 ·exact absurd h h1.1
 ·rw [h3]
  obtain ⟨hi, rfl⟩ := List.getElem?_eq_some_iff.1 h1;exact ⟨_, h2, rfl, List.drop_eq_getElem_cons hi⟩
theorem z9w {l : List UInt8} : ∀ {t : List UInt8} {S : St}, (wordF l t S).2 = 0 -> l.drop S.1 = t ++ l.drop (wordF l t S).1
 | [], S, _ => rfl
 | c :: r, S, h => by
  rw [wordF] at h ⊢;obtain ⟨d, hd, -, h1⟩ := one_text ((z06 l r _).live h)
  rw [List.mem_singleton] at hd; subst hd
  rw [h1, z9w h]; rfl
end Go.Proofs.YtdkkkeoicekdgaaGreatDoor

end

section

namespace Go.Proofs.YtdkkkeoicekdgaaGreatDoor
theorem zdj {l t : List UInt8} {S : St} {c : UInt8} (h : (oneF l t S).1 = [c]) : (oneF l t S).2.2 = 0 := by
 rcases z3y l t S with z | ⟨d, z0, z1, z2, z3⟩
 ·rw [z.2.1] at h; cases h
 ·rw [z3]
structure Ag (l m : List UInt8) (k : Nat) : Prop where
 hl : k <= l.length
 hm : k <= m.length
 eq : ∀ i, i < k -> m[i]? = l[i]?
section
variable {l m : List UInt8} {k : Nat} (A : Ag l m k)
include A
theorem Ag.fail {S : St} (h : S.1 < k) : failF m S = failF l S := by
 unfold failF
 have h1 := A.hl; have h2 := A.hm
 rw [if_neg (show ¬ S.1 = m.length by omega), if_neg (show ¬ S.1 = l.length by omega)]
theorem Ag.one {t : List UInt8} {S : St} (h : S.1 < k) : oneF m t S = oneF l t S := by
 unfold oneF
 rw [A.eq _ h, A.fail h]
theorem Ag.word : ∀ {t : List UInt8} {S : St}, (wordF l t S).1 < k -> wordF m t S = wordF l t S
 | [], S, _ => rfl
 | c :: r, S, h => by
  rw [wordF] at h ⊢;rw [wordF];have h1 := (z06 l r (oneF l [c] S).2).1;have h2 := (z1f l [c] S).1;rw [A.one (by omega)];exact Ag.word h
theorem Ag.next {c : UInt8} {S : St} (h : S.1 < k) : nextF m [c] S = nextF l [c] S := by
 have e := A.eq _ h
 cases hb : nextF l [c] S with
 | true => rw [z1h] at hb ⊢; rw [e]; exact hb
 | false =>
  cases hc : nextF m [c] S with
  | false => rfl
  | true => rw [z1h] at hc; rw [e] at hc; rw [z1h.2 hc] at hb; cases hb
theorem Ag.take {a n : Nat} (h : a + n <= k) : (m.drop a).take n = (l.drop a).take n := by
 apply List.ext_getElem?
 intro i;rw [List.getElem?_take, List.getElem?_take]
 split
 ·rw [List.getElem?_drop, List.getElem?_drop, A.eq _ (by omega)]
 ·rfl
theorem Ag.long {p : List UInt8 -> Bool} {S : St} (hS : S.1 <= l.length) (h : (longF l p S).2.1 < k) : longF m p S = longF l p S := by
 have h1 := A.hl; have h2 := A.hm
 by_cases h0 : S.2 = 0
 ·have hn : S.1 + longN p (l.drop S.1) l.length 0 < k := by
   unfold longF at h
   rw [if_pos h0] at h
   split at h
   ·rename_i e; rw [z26] at h; omega
   ·exact h
  have a := z4g p (l.drop S.1) l.length 0 (by omega)
  have hL : longN p (m.drop S.1) m.length 0 = longN p (l.drop S.1) l.length 0 := by
   refine zdu (by simp) (by rw [List.length_drop]; omega) (fun j hj => ?_) (fun hj => ?_)
   ·rw [A.take (by omega)]
    exact z3z p _ _ 0 j (by omega) hj
   ·rw [A.take (by omega)]
    exact z40 p _ _ 0 (by simp) (by rw [List.length_drop]; omega)
  unfold longF
  rw [if_pos h0, if_pos h0, hL, A.take (by omega)]
  split
  ·rw [A.fail (by omega)]
  ·rfl
 ·rw [z4f h0, z4f h0]
theorem Ag.key {S : St} (hS : S.1 <= l.length) (h : (keyF l S).2.1 < k) : keyF m S = keyF l S := by
 have h0 := (zav l S).1
 unfold keyF at h ⊢
 rw [A.next (show S.1 < k by unfold keyF at h0; split at h <;> simp_all <;> omega)]
 split
 ·rename_i hn
  rw [if_pos hn] at h;simp only at h;have h1 := (z3b l numB (wordF l [61] S)).1
  have hw : (wordF l [61] S).1 <= l.length := by
   have := z0z (z1h.1 hn).2
   rw [z3i hn]; exact this
  rw [A.word (by omega), A.long hw h]
 ·rename_i hn
  rw [if_neg hn] at h;exact A.long hS h
theorem Ag.quot {S : St} (h : (quotF l S).2.1 < k) : quotF m S = quotF l S := by
 have h1 := (z1f l [39, 123, 125, 35] (wordF l [39] S)).1;have h2 := (z06 l [39] (oneF l [39, 123, 125, 35] (wordF l [39] S)).2).1
 have h3 : (wordF l [39] S).1 < k := by
  unfold quotF at h
  split at h
  ·omega
  ·simp only at h; omega
 have e1 := A.word h3;have e2 := A.one (t := [39, 123, 125, 35]) h3
 unfold quotF at h ⊢
 rw [e1, e2]
 split
 ·rfl
 ·rename_i hh
  rw [if_neg hh] at h;rw [A.word h]
theorem Ag.text : ∀ (f g : Nat) (acc : List UInt8) (S : St), (S.2 = 0 -> l.length - S.1 <= f) -> (S.2 = 0 -> m.length - S.1 <= g) -> (textL l f acc S).2.1 < k -> textL m g acc S = textL l f acc S
 | f, g, acc, S, hf, hg, h => by
  have h1 := A.hl; have h2 := A.hm
  by_cases h0 : S.2 = 0
  ·have a : S.1 < k := Nat.lt_of_le_of_lt (z4q l f acc S).1 h
   have hf := hf h0;have hg := hg h0;obtain ⟨f', rfl⟩ : ∃ f', f = f' + 1 := ⟨f - 1, by omega⟩;obtain ⟨g', rfl⟩ : ∃ g', g = g' + 1 := ⟨g - 1, by omega⟩;rw [textL] at h ⊢;rw [textL];rw [if_pos h0] at h ⊢;rw [if_pos h0, A.eq _ a]
   split
   ·rfl
   ·rename_i c hc
    rw [hc] at h;simp only at h
    split
    ·rfl
    ·rename_i n1
     rw [if_neg n1] at h
     split
     ·rename_i n2
      rw [if_pos n2] at h;have g1 := z4q l f' (acc ++ (quotF l S).1) (quotF l S).2;have g2 := g1.1;rw [A.quot (by omega)];refine Ag.text f' g' _ _ (fun e => ?_) (fun e => ?_) h
      ·have := z6e e; omega
      ·have := z6e e; omega
     ·rename_i n2
      rw [if_neg n2] at h;exact Ag.text f' g' _ _ (fun _ => by simp only; omega) (fun _ => by simp only; omega) h
  ·have e : ∀ (l : List UInt8) f, textL l f acc S = (acc, S) := fun l f => by
    cases f with
    | zero => rw [textL]
    | succ f => rw [textL, if_neg h0]
   rw [e, e]
end
theorem zak {l : List UInt8} : ∀ {t : List UInt8} {S : St}, S.2 = 0 -> (wordF l t S).2 = 0 -> nextF l t S = true
 | t, S, h0, h => by
  unfold nextF
  simp only [Bool.and_eq_true, decide_eq_true_eq];refine ⟨h0, ?_⟩;rw [List.isPrefixOf_iff_prefix, z9w h];exact List.prefix_append _ _
theorem z69 (l : List UInt8) : ∀ (s t : List UInt8) (S : St), wordF l (s ++ t) S = wordF l t (wordF l s S)
 | [], t, S => rfl
 | c :: r, t, S => by rw [List.cons_append, wordF, wordF, z69 l r t]
section
variable {l m : List UInt8} {k : Nat} (A : Ag l m k)
include A
end
end Go.Proofs.YtdkkkeoicekdgaaGreatDoor

end
