/- The plain mathematics of package code: trees of values, their bytes, and the reader's answer as a function of the bytes. -/
import Derived.WalkKit
namespace Go.Proofs.YtmagcikaepobiaaDoor

/-- A value: an integer, a text, a list. -/
inductive Tree where
  | num (n : Int)
  | text (bs : List UInt8)
  | list (ts : List Tree)

def isDig (c : UInt8) : Bool := decide (48 ≤ c.toNat) && decide (c.toNat ≤ 57)

/-- The digits of a number up to 'most', ended by the byte 'e'; the rest of the text, the place, what was read so far, whether the next byte is the first one. -/
def decF (most : Nat) (e : UInt8) : List UInt8 → Nat → Nat → Bool → Nat × Nat × Nat
  | [], i, _, _ => (0, 10, i)
  | c :: r, i, n, first =>
    if (c == e && !first) = true then (n, 0, i + 1)
    else if (!isDig c || (n == 0 && !first)) = true then (0, 11, i)
    else if (most - (c.toNat - 48)) / 10 < n then (0, 11, i)
    else decF most e r (i + 1) (n * 10 + (c.toNat - 48)) false

inductive Res where
  | ok (t : Tree) (next : Nat)
  | bad (e i : Nat)

def numF (s : List UInt8) (i : Nat) : Res :=
  if s[i]? = some 45 then
    if s[i + 1]? = some 48 then .bad 11 (i + 1)
    else match decF 9223372036854775808 101 (s.drop (i + 1)) (i + 1) 0 true with
      | (n, 0, k) => .ok (.num (-(n : Int))) k
      | (_, e, k) => .bad e k
  else match decF 9223372036854775807 101 (s.drop i) i 0 true with
    | (n, 0, k) => .ok (.num n) k
    | (_, e, k) => .bad e k

def textF (s : List UInt8) (i : Nat) : Res :=
  match decF 131072 58 (s.drop i) i 0 true with
  | (n, 0, k) => if s.length < k + n then .bad 10 s.length else .ok (.text ((s.drop k).take n)) (k + n)
  | (_, e, k) => .bad e k

/-- Whether the count-th value, on that level, may begin at a place: 0, or why not. -/
def beginF (s : List UInt8) (i level count : Nat) : Nat :=
  match s[i]? with
  | none => 10
  | some c => if (c != 105 && c != 108 && !isDig c) = true then 11 else if 30 < level then 12 else if 4000 < count then 2 else 0

mutual
def rdV (s : List UInt8) : Nat → Nat → Nat → Nat → Res × Nat
  | 0, _, _, count => (.bad 1 0, count)
  | f + 1, i, level, count =>
    if beginF s i level (count + 1) = 0 then
      if s[i]? = some 105 then (numF s (i + 1), count + 1)
      else if s[i]? = some 108 then rdL s f (i + 1) level (count + 1) []
      else (textF s i, count + 1)
    else (.bad (beginF s i level (count + 1)) i, count + 1)
def rdL (s : List UInt8) : Nat → Nat → Nat → Nat → List Tree → Res × Nat
  | 0, _, _, count, _ => (.bad 1 0, count)
  | f + 1, i, level, count, acc =>
    if s[i]? = some 101 then (.ok (.list acc) (i + 1), count)
    else match rdV s f i (level + 1) count with
      | (.ok t k, c) => rdL s f k level c (acc ++ [t])
      | (.bad e k, c) => (.bad e k, c)
end

end Go.Proofs.YtmagcikaepobiaaDoor
