/- The plain mathematics of package pattern: parts, their text, what may be, the reader as total functions. -/
import Derived.WalkKit
namespace Go.Proofs.YtlmaafmhadbiaaaGreatDoor

mutual
/-- A part: its kind, text, name, cases. -/
inductive Pt where
  | mk (k : Int) (t n : ByteArray) (cs : List Cs)
/-- A case: its key and its parts. -/
inductive Cs where
  | mk (key : ByteArray) (kids : List Pt)
end
namespace Pt
def k : Pt → Int | .mk k _ _ _ => k
def t : Pt → ByteArray | .mk _ t _ _ => t
def n : Pt → ByteArray | .mk _ _ n _ => n
def cs : Pt → List Cs | .mk _ _ _ cs => cs
end Pt
namespace Cs
def key : Cs → ByteArray | .mk k _ => k
def kids : Cs → List Pt | .mk _ l => l
end Cs
abbrev ba (l : List UInt8) : ByteArray := ⟨l.toArray⟩

def isLet (c : UInt8) : Bool := decide (97 ≤ c.toNat) && decide (c.toNat ≤ 122)
def isDig (c : UInt8) : Bool := decide (48 ≤ c.toNat) && decide (c.toNat ≤ 57)
def isWrd (c : UInt8) : Bool := isLet c || isDig c || c == 95
/-- A name. -/
def nameB : List UInt8 → Bool
  | [] => false
  | c :: r => decide (r.length ≤ 31) && isLet c && (c :: r).all isWrd
def nx (n : Nat) (c : UInt8) : Nat := n * 10 + (c.toNat - 48)
/-- A number from 0 to 1000000, without a leading 0. -/
def numB : List UInt8 → Bool
  | [] => false
  | c :: r => (c :: r).all isDig && (c != 48 || r.isEmpty) && decide (r.length ≤ 6) && decide ((c :: r).foldl nx 0 ≤ 1000000)
/-- A key of a plural. -/
def pkeyB (s : List UInt8) : Bool :=
  s == [122, 101, 114, 111] || s == [111, 110, 101] || s == [116, 119, 111] || s == [102, 101, 119] || s == [109, 97, 110, 121] || s == [111, 116, 104, 101, 114] ||
    (match s with | 61 :: r => numB r | _ => false)

/- What may be. -/
mutual
def cntP : Pt → Nat
  | .mk _ _ _ cs => 1 + cntCs cs
def cntPs : List Pt → Nat
  | [] => 0
  | x :: r => cntP x + cntPs r
def cntCs : List Cs → Nat
  | [] => 0
  | x :: r => cntC x + cntCs r
def cntC : Cs → Nat
  | .mk _ kids => cntPs kids
end
mutual
def dpP : Pt → Nat
  | .mk _ _ _ cs => dpCs cs
def dpPs : List Pt → Nat
  | [] => 0
  | x :: r => max (dpP x) (dpPs r)
def dpCs : List Cs → Nat
  | [] => 0
  | x :: r => max (dpC x) (dpCs r)
def dpC : Cs → Nat
  | .mk _ kids => dpPs kids + 1
end
mutual
def okP (h : Bool) : Pt → Bool
  | .mk k t n cs =>
    if k = 1 then !t.data.toList.isEmpty && n.data.toList.isEmpty && cs.isEmpty
    else if k = 2 then t.data.toList.isEmpty && nameB n.data.toList && cs.isEmpty
    else if k = 3 then h && t.data.toList.isEmpty && n.data.toList.isEmpty && cs.isEmpty
    else if k = 4 then t.data.toList.isEmpty && nameB n.data.toList && !cs.isEmpty && decide ((cs.getLast?.map Cs.key) = some (ba [111, 116, 104, 101, 114])) && okCs pkeyB true [] cs
    else if k = 5 then t.data.toList.isEmpty && nameB n.data.toList && !cs.isEmpty && decide ((cs.getLast?.map Cs.key) = some (ba [111, 116, 104, 101, 114])) && okCs nameB h [] cs
    else false
def okPs (h : Bool) : Bool → List Pt → Bool
  | _, [] => true
  | b, x :: r => !(decide (x.k = 1) && b) && okP h x && okPs h (decide (x.k = 1)) r
def okCs (p : List UInt8 → Bool) (h : Bool) : List (List UInt8) → List Cs → Bool
  | _, [] => true
  | seen, x :: r => !(decide (x.key.data.toList ∈ seen)) && p x.key.data.toList && okC h x && okCs p h (seen ++ [x.key.data.toList]) r
def okC (h : Bool) : Cs → Bool
  | .mk _ kids => okPs h false kids
end
/-- Why parts are no pattern. -/
def rightE (xs : List Pt) : Nat := if 1000 < cntPs xs then 2 else if 32 < dpPs xs then 12 else if okPs false false xs then 0 else 91

/- The text. -/
def escF : List UInt8 → List UInt8
  | [] => []
  | c :: r => (if c = 39 then [39, 39] else if c = 123 ∨ c = 125 ∨ c = 35 then [39, c, 39] else [c]) ++ escF r
abbrev plW : List UInt8 := [44, 32, 112, 108, 117, 114, 97, 108, 44]
abbrev seW : List UInt8 := [44, 32, 115, 101, 108, 101, 99, 116, 44]
mutual
def txP : Pt → List UInt8
  | .mk k t n cs =>
    if k = 1 then escF t.data.toList
    else if k = 2 then [123] ++ n.data.toList ++ [125]
    else if k = 3 then [35]
    else if k = 4 then [123] ++ n.data.toList ++ plW ++ txCs cs ++ [125]
    else if k = 5 then [123] ++ n.data.toList ++ seW ++ txCs cs ++ [125]
    else []
def txPs : List Pt → List UInt8
  | [] => []
  | x :: r => txP x ++ txPs r
def txCs : List Cs → List UInt8
  | [] => []
  | x :: r => txC x ++ txCs r
def txC : Cs → List UInt8
  | .mk key kids => [32] ++ key.data.toList ++ [32, 123] ++ txPs kids ++ [125]
end

/- The reader: the place, the error. -/
abbrev St := Nat × Nat
def failF (l : List UInt8) (S : St) : St := if S.2 = 0 then (S.1, if S.1 = l.length then 10 else 90) else S
def oneF (l may : List UInt8) (S : St) : List UInt8 × St :=
  if S.2 = 0 then match l[S.1]? with
    | some c => if c ∈ may then ([c], (S.1 + 1, 0)) else ([], failF l S)
    | none => ([], failF l S)
  else ([], S)
def wordF (l : List UInt8) : List UInt8 → St → St
  | [], S => S
  | c :: r, S => wordF l r (oneF l [c] S).2
def nextF (l t : List UInt8) (S : St) : Bool := decide (S.2 = 0) && t.isPrefixOf (l.drop S.1)
def longN (p : List UInt8 → Bool) (r : List UInt8) : Nat → Nat → Nat
  | 0, n => n
  | f + 1, n => if n < r.length ∧ p (r.take (n + 1)) = true then longN p r f (n + 1) else n
def longF (l : List UInt8) (p : List UInt8 → Bool) (S : St) : List UInt8 × St :=
  if S.2 = 0 then
    if longN p (l.drop S.1) l.length 0 = 0 then ([], failF l S)
    else ((l.drop S.1).take (longN p (l.drop S.1) l.length 0), (S.1 + longN p (l.drop S.1) l.length 0, 0))
  else ([], S)
def keyF (l : List UInt8) (S : St) : List UInt8 × St :=
  if nextF l [61] S then ([61] ++ (longF l numB (wordF l [61] S)).1, (longF l numB (wordF l [61] S)).2) else longF l nameB S
def quotF (l : List UInt8) (S : St) : List UInt8 × St :=
  if (oneF l [39, 123, 125, 35] (wordF l [39] S)).1 = [39] then oneF l [39, 123, 125, 35] (wordF l [39] S)
  else ((oneF l [39, 123, 125, 35] (wordF l [39] S)).1, wordF l [39] (oneF l [39, 123, 125, 35] (wordF l [39] S)).2)
def textL (l : List UInt8) : Nat → List UInt8 → St → List UInt8 × St
  | 0, acc, S => (acc, S)
  | f + 1, acc, S =>
    if S.2 = 0 then match l[S.1]? with
      | none => (acc, S)
      | some c =>
        if c = 123 ∨ c = 125 ∨ c = 35 then (acc, S)
        else if c = 39 then textL l f (acc ++ (quotF l S).1) (quotF l S).2
        else textL l f (acc ++ [c]) (S.1 + 1, 0)
    else (acc, S)
/-- What begins with a brace; cf reads cases. -/
def holeG (l : List UInt8) (cf : Bool → List UInt8 × St → List Cs × St) (h : Bool) (S : St) : Pt × St :=
  let a := longF l nameB (wordF l [123] S)
  if nextF l [44, 32, 115] a.2 then (.mk 5 (ba []) (ba a.1) (cf h (oneF l [32] (wordF l seW a.2))).1, (cf h (oneF l [32] (wordF l seW a.2))).2)
  else if nextF l [44] a.2 then (.mk 4 (ba []) (ba a.1) (cf true (oneF l [32] (wordF l plW a.2))).1, (cf true (oneF l [32] (wordF l plW a.2))).2)
  else (.mk 2 (ba []) (ba a.1) [], wordF l [125] a.2)
def partG (l : List UInt8) (cf : Bool → List UInt8 × St → List Cs × St) (h : Bool) (S : St) : Pt × St :=
  if nextF l [123] S then holeG l cf h S
  else if nextF l [35] S then (.mk 3 (ba []) (ba []) [], wordF l [35] (if h then S else failF l S))
  else (.mk 1 (ba (textL l l.length [] S).1) (ba []) [], (textL l l.length [] S).2)
/-- Where a branch's brace is to come: a branch too deep. -/
def deepF (l : List UInt8) (o : Nat) (S : St) : St := if nextF l [123] S = true ∧ o = 32 then (S.1, 12) else S
def branchG (l : List UInt8) (pf : St → List Pt × St) (o : Nat) (S : St) : Cs × St :=
  let r := pf (wordF l [123] (deepF l o (wordF l [32] (keyF l S).2)))
  (.mk (ba (keyF l S).1) r.1, wordF l [125] r.2)
mutual
def partsL (l : List UInt8) : Nat → Bool → Nat → List Pt → St → List Pt × St
  | 0, _, _, acc, S => (acc, S)
  | f + 1, h, o, acc, S =>
    if S.2 = 0 ∧ S.1 < l.length ∧ nextF l [125] S = false then
      partsL l f h o (acc ++ [(partG l (fun h b => casesL l f h o [] b) h S).1]) (partG l (fun h b => casesL l f h o [] b) h S).2
    else (acc, S)
def casesL (l : List UInt8) : Nat → Bool → Nat → List Cs → List UInt8 × St → List Cs × St
  | 0, _, _, acc, b => (acc, b.2)
  | f + 1, h, o, acc, b =>
    if b.1 = [32] then
      casesL l f h o (acc ++ [(branchG l (fun S => partsL l f h (o + 1) [] S) o b.2).1]) (oneF l [32, 125] (branchG l (fun S => partsL l f h (o + 1) [] S) o b.2).2)
    else (acc, b.2)
end
/-- The parts, and where the reader stands behind them. -/
def readF (l : List UInt8) : List Pt × St := partsL l (l.length + 1) false 0 [] (0, 0)
def endF (l : List UInt8) (S : St) : St := if S.1 < l.length then failF l S else S
/-- The pattern, the error, the place. -/
def parseF (l : List UInt8) : List Pt × Nat × Nat :=
  if 2000 < l.length then ([], 2, 0)
  else if (endF l (readF l).2).2 ≠ 0 then ([], (endF l (readF l).2).2, (endF l (readF l).2).1)
  else if rightE (readF l).1 ≠ 0 then ([], rightE (readF l).1, 0)
  else ((readF l).1, 0, 0)
end Go.Proofs.YtlmaafmhadbiaaaGreatDoor
