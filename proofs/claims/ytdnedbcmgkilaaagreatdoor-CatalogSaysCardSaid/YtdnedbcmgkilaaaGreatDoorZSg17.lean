/- Plural rules: what is valid, what holds, what is written, what is read: plain mathematics, in the program's shape and in the document's. -/
import Derived.Lib.ItoaLen
import Derived.Test.YtdnedbcmgkilaaaGreatDoorChecked
import Derived.Deep.MidRow
import Derived.Lib.UnsafeStr
import Derived.Below
import Derived.Deep.Draws
import Derived.WalkSpells
import Derived.Lib.Hide
import Derived.Lib.LaidTab
import Derived.Lib.AppendIntMem
import Derived.Laws.OwnMore
import Derived.Deep.AppendLies
import Derived.Deep.QuietTactic
import Derived.BigQuiet
import Derived.IntWalk
import Derived.Test.YtdnedbcmgkilaaaGreatDoorZSg7

section

namespace Go.Proofs.YtdnedbcmgkilaaaGreatDoor.Pu
structure Sp where
 lo : Int
 hi : Int
structure Rl where
 m : Int
 neg : Bool
 sp : List Sp
abbrev Rule := List (List Rl)
def rgS (x : Sp) : Bool := decide (0 <= x.lo) && (decide (x.lo <= x.hi) && decide (x.hi <= 1000000))
def allR {α : Type} (f : α -> Bool) (l : List α) : Bool := decide (1 <= l.length /\ l.length <= 10) && l.all f
def rgR (x : Rl) : Bool := decide (0 <= x.m /\ x.m ≠ 1 /\ x.m <= 1000000) && allR rgS x.sp
def rgRow (r : List Rl) : Bool := allR rgR r
def z0x (r : Rule) : Bool := allR rgRow r
def inS (sp : List Sp) (i : Int) : Bool := sp.any fun s => decide (s.lo <= i) && decide (i <= s.hi)
def hoR (x : Rl) (i : Int) : Bool := inS x.sp (if 0 < x.m then i % x.m else i) != x.neg
def hoRow (r : List Rl) (i : Int) : Bool := r.all fun x => hoR x i
def z1g (r : Rule) (i : Int) : Bool := r.any fun x => hoRow x i
def txS (x : Sp) : List UInt8 := if x.hi = x.lo then Lib.itoa x.lo else Lib.itoa x.lo ++ [46, 46] ++ Lib.itoa x.hi
def joinF {α : Type} (f : α -> List UInt8) (sep : List UInt8) : List α -> List UInt8
 | [] => []
 | [x] => f x
 | x :: y :: r => f x ++ sep ++ joinF f sep (y :: r)
def txR (x : Rl) : List UInt8 := [105] ++ (if 0 < x.m then [32, 37, 32] ++ Lib.itoa x.m else []) ++ (if x.neg then [32, 33, 61, 32] else [32, 61, 32]) ++ joinF txS [44] x.sp
def txRow (r : List Rl) : List UInt8 := joinF txR [32, 97, 110, 100, 32] r
def z0h (r : Rule) : List UInt8 := joinF txRow [32, 111, 114, 32] r
abbrev St := Nat × Bool
def nextF (l t : List UInt8) (S : St) : Bool := !S.2 && t.isPrefixOf (l.drop S.1)
def wordF (l : List UInt8) : List UInt8 -> St -> St
 | [], S => S
 | c :: r, S => if nextF l [c] S then wordF l r (S.1 + 1, false) else (S.1, true)
def isDg (c : UInt8) : Bool := decide (48 <= c.toNat /\ c.toNat <= 57)
def numL (l : List UInt8) : Nat -> Nat -> Nat -> Nat × Nat
 | 0, n, a => (n, a)
 | f + 1, n, a =>
  match l[a]? with
  | some c => if isDg c /\ n * 10 + (c.toNat - 48) <= 1000000 then numL l f (n * 10 + (c.toNat - 48)) (a + 1) else (n, a)
  | none => (n, a)
def numF (l : List UInt8) (S : St) : Nat × St :=
 if S.2 then (0, S) else if l[S.1]? = some 48 then (0, (S.1 + 1, false)) else ((numL l (l.length - S.1) 0 S.1).1, ((numL l (l.length - S.1) 0 S.1).2, decide ((numL l (l.length - S.1) 0 S.1).2 = S.1)))
def spanF (l : List UInt8) (S : St) : Sp × St :=
 if nextF l [46] (numF l S).2 then (⟨(numF l S).1, (numF l (wordF l [46, 46] (numF l S).2)).1⟩, (numF l (wordF l [46, 46] (numF l S).2)).2)
 else (⟨(numF l S).1, (numF l S).1⟩, (numF l S).2)
def z3f (l : List UInt8) : Nat -> List Sp -> St -> List Sp × St
 | 0, xs, S => (xs, S)
 | f + 1, xs, S => if nextF l [44] S then z3f l f (xs ++ [(spanF l (wordF l [44] S)).1]) (spanF l (wordF l [44] S)).2 else (xs, S)
def z2b (l : List UInt8) (S : St) : List Sp × St := z3f l l.length [(spanF l S).1] (spanF l S).2
def modF (l : List UInt8) (S : St) : Nat × St := if nextF l [32, 37] S then numF l (wordF l [32, 37, 32] S) else (0, S)
def negF (l : List UInt8) (S : St) : Bool × St := if nextF l [32, 33] S then (true, wordF l [32, 33, 61, 32] S) else (false, wordF l [32, 61, 32] S)
def relF (l : List UInt8) (S : St) : Rl × St :=
 (⟨(modF l (wordF l [105] S)).1, (negF l (modF l (wordF l [105] S)).2).1, (z2b l (negF l (modF l (wordF l [105] S)).2).2).1⟩, (z2b l (negF l (modF l (wordF l [105] S)).2).2).2)
def rowL (l : List UInt8) : Nat -> List Rl -> St -> List Rl × St
 | 0, xs, S => (xs, S)
 | f + 1, xs, S => if nextF l [32, 97] S then rowL l f (xs ++ [(relF l (wordF l [32, 97, 110, 100, 32] S)).1]) (relF l (wordF l [32, 97, 110, 100, 32] S)).2 else (xs, S)
def rowF (l : List UInt8) (S : St) : List Rl × St := rowL l l.length [(relF l S).1] (relF l S).2
def ruleL (l : List UInt8) : Nat -> Rule -> St -> Rule × St
 | 0, xs, S => (xs, S)
 | f + 1, xs, S => if S.2 = false /\ S.1 < l.length then ruleL l f (xs ++ [(rowF l (wordF l [32, 111, 114, 32] S)).1]) (rowF l (wordF l [32, 111, 114, 32] S)).2 else (xs, S)
def ruleF (l : List UInt8) (S : St) : Rule × St := ruleL l l.length [(rowF l S).1] (rowF l S).2
def z03 (l : List UInt8) : Rule × Nat × Nat :=
 if 400 < l.length then ([], 2, 0)
 else if (ruleF l (0, false)).2.2 then ([], if (ruleF l (0, false)).2.1 = l.length then 10 else 80, (ruleF l (0, false)).2.1)
 else if z0x (ruleF l (0, false)).1 = true /\ z0h (ruleF l (0, false)).1 = l then ((ruleF l (0, false)).1, 0, 0) else ([], 1, 0)
theorem z0v {l : List UInt8} {c : UInt8} {S : St} : nextF l [c] S = true ↔ S.2 = false /\ l[S.1]? = some c := by
 unfold nextF
 cases hd : l.drop S.1 with
 | nil =>
  have : l[S.1]? = none := by rw [List.getElem?_eq_none]; simpa using hd
  simp [this]
 | cons d r =>
  have : l[S.1]? = some d := by rw [<- Nat.add_zero S.1, <- List.getElem?_drop, hd]; rfl
  rw [this]; simp [List.isPrefixOf]; intro _; exact eq_comm
theorem z77 {l t : List UInt8} {c : UInt8} {S : St} (h : nextF l (c :: t) S = true) : S.2 = false /\ l[S.1]? = some c := by
 have : nextF l [c] S = true := by
  unfold nextF at *
  cases hd : l.drop S.1 with
  | nil => rw [hd] at h; simp [List.isPrefixOf] at h
  | cons d r => rw [hd] at h; simp [List.isPrefixOf] at h ⊢; exact ⟨h.1, h.2.1⟩
 exact z0v.1 this
theorem z0l {l : List UInt8} {a : Nat} {c : UInt8} (h : l[a]? = some c) : a < l.length := (List.getElem?_eq_some_iff.1 h).1
theorem zc6 (l : List UInt8) : ∀ (t : List UInt8) (S : St), S.1 <= (wordF l t S).1 /\ (S.1 <= l.length -> (wordF l t S).1 <= l.length)
 | [], S => ⟨Nat.le_refl _, id⟩
 | c :: r, S => by
  rw [wordF]
  split
  ·rename_i h
   have h1 := z0l (z0v.1 h).2
   have h2 := zc6 l r (S.1 + 1, false)
   exact ⟨by have := h2.1; simp only at this; omega, fun _ => h2.2 h1⟩
  ·exact ⟨Nat.le_refl _, id⟩
theorem zhp (l : List UInt8) : ∀ (f n a : Nat), a <= (numL l f n a).2 /\ (a <= l.length -> (numL l f n a).2 <= l.length)
 | 0, n, a => ⟨Nat.le_refl _, id⟩
 | f + 1, n, a => by
  rw [numL]
  split
  ·rename_i c hc
   split
   ·have h2 := zhp l f (n * 10 + (c.toNat - 48)) (a + 1)
    exact ⟨by omega, fun _ => h2.2 (z0l hc)⟩
   ·exact ⟨Nat.le_refl _, id⟩
  ·exact ⟨Nat.le_refl _, id⟩
theorem num_ge (l : List UInt8) (S : St) : S.1 <= (numF l S).2.1 /\ (S.1 <= l.length -> (numF l S).2.1 <= l.length) := by
 unfold numF
 split
 ·exact ⟨Nat.le_refl _, id⟩
 ·split
  ·rename_i h
   exact ⟨by simp, fun _ => z0l h⟩
  ·exact zhp l _ _ _
def Ge (l : List UInt8) (S S' : St) : Prop := S.1 <= S'.1 /\ (S.1 <= l.length -> S'.1 <= l.length)
theorem Ge.refl (l : List UInt8) (S : St) : Ge l S S := ⟨Nat.le_refl _, id⟩
theorem Ge.trans {l : List UInt8} {A B C : St} (h : Ge l A B) (k : Ge l B C) : Ge l A C := ⟨Nat.le_trans h.1 k.1, fun x => k.2 (h.2 x)⟩
theorem z06 (l t : List UInt8) (S : St) : Ge l S (wordF l t S) := zc6 l t S
theorem z83 (l : List UInt8) (S : St) : Ge l S (numF l S).2 := num_ge l S
theorem z9j (l : List UInt8) (S : St) : Ge l S (spanF l S).2 := by
 unfold spanF
 split
 ·exact (z83 l S).trans ((z06 l _ _).trans (z83 l _))
 ·exact z83 l S
theorem zbg (l : List UInt8) : ∀ (f : Nat) (xs : List Sp) (S : St), Ge l S (z3f l f xs S).2
 | 0, xs, S => Ge.refl l S
 | f + 1, xs, S => by
  rw [z3f]
  split
  ·exact (z06 l _ _).trans ((z9j l _).trans (zbg l f _ _))
  ·exact Ge.refl l S
theorem ge_spans (l : List UInt8) (S : St) : Ge l S (z2b l S).2 := (z9j l S).trans (zbg l _ _ _)
theorem ge_mod (l : List UInt8) (S : St) : Ge l S (modF l S).2 := by
 unfold modF; split
 ·exact (z06 l _ _).trans (z83 l _)
 ·exact Ge.refl l S
theorem ge_neg (l : List UInt8) (S : St) : Ge l S (negF l S).2 := by
 unfold negF; split
 ·exact z06 l _ _
 ·exact z06 l _ _
theorem zei (l : List UInt8) (S : St) : Ge l S (relF l S).2 := (z06 l _ _).trans ((ge_mod l _).trans ((ge_neg l _).trans (ge_spans l _)))
theorem zii (l : List UInt8) : ∀ (f : Nat) (xs : List Rl) (S : St), Ge l S (rowL l f xs S).2
 | 0, xs, S => Ge.refl l S
 | f + 1, xs, S => by
  rw [rowL]
  split
  ·exact (z06 l _ _).trans ((zei l _).trans (zii l f _ _))
  ·exact Ge.refl l S
theorem zbh (l : List UInt8) (S : St) : Ge l S (rowF l S).2 := (zei l S).trans (zii l _ _ _)
theorem zeh (l : List UInt8) : ∀ (f : Nat) (xs : Rule) (S : St), Ge l S (ruleL l f xs S).2
 | 0, xs, S => Ge.refl l S
 | f + 1, xs, S => by
  rw [ruleL]
  split
  ·exact (z06 l _ _).trans ((zbh l _).trans (zeh l f _ _))
  ·exact Ge.refl l S
theorem ge_rule (l : List UInt8) (S : St) : Ge l S (ruleF l S).2 := (zbh l S).trans (zeh l _ _ _)
theorem zc5 {l t u : List UInt8} {c : UInt8} {S : St} (h : nextF l (c :: t) S = true) : S.1 + 1 <= (wordF l (c :: u) S).1 := by
 obtain ⟨h1, h2⟩ := z77 h
 rw [wordF, if_pos (z0v.2 ⟨h1, h2⟩)]
 exact (zc6 l u (S.1 + 1, false)).1
end Go.Proofs.YtdnedbcmgkilaaaGreatDoor.Pu

end

section

namespace Go.Proofs.YtdnedbcmgkilaaaGreatDoor.Pu
open Go.RowKit
theorem z0z {k : IntKind} {a b : Int} (h : a = b) : Ending.returned (.int k a) = .returned (.int k b) := by rw [h]
theorem z01 {a b : Bool} (h : a = b) : Ending.returned (.bool a) = .returned (.bool b) := by rw [h]
def Row (w : World) (b : Nat) (t : TypeId) (cs : List Value) : Prop := w.heap[b]? = some (.cells cs.toArray t (0, 0))
theorem Row.cell {w : World} {b : Nat} {t : TypeId} {cs : List Value} (h : Row w b t cs) {i : Nat} {v : Value} (hi : cs[i]? = some v) : w.cell? ⟨b, i, none⟩ = some v := by
 simp only [World.cell?, Row] at *
 simp [h, hi]
theorem Row.thaw {w : World} {b : Nat} {t : TypeId} {cs : List Value} (h : Row w b t cs) (i : Nat) : w.frozen? ⟨b, i, none⟩ = false := by
 simp only [World.frozen?, Row] at *
 simp [h]
theorem Row.set {w : World} {b : Nat} {t : TypeId} {cs : List Value} (h : Row w b t cs) (i : Nat) (v : Value) : Row (w.setCell ⟨b, i, none⟩ v) b t (cs.set i v) := by
 unfold Row at *
 simp [World.setCell, Array.getElem?_modify, h]
theorem Row.keep {w w' : World} {b : Nat} {t : TypeId} {cs : List Value} (h : Row w b t cs) (hk : w'.heap[b]? = w.heap[b]?) : Row w' b t cs := hk.trans h
theorem Row.lt {w : World} {b : Nat} {t : TypeId} {cs : List Value} (h : Row w b t cs) : b < w.heap.size := (Array.getElem?_eq_some_iff.1 h).1
theorem Row.below {w w' : World} {b : Nat} {t : TypeId} {cs : List Value} (h : Row w b t cs) (hb : Below w.heap.size w w') : Row w' b t cs := h.keep (hb.block b h.lt)
theorem z04 (w : World) (cs : Array Value) (t : TypeId) : Row (w.alloc (.cells cs t)) w.heap.size t cs.toList := by
 show (w.heap.push _)[w.heap.size]? = _
 simp
theorem Row.alloc {w : World} {b : Nat} {t : TypeId} {cs : List Value} (h : Row w b t cs) (o : Obj) : Row (w.alloc o) b t cs := h.keep (Below.heap_alloc _ _ _ h.lt)
structure But (g : Nat) (w w' : World) : Prop where
 os : w'.os = w.os
 tape : w'.tape = w.tape
 output : w'.output = w.output
 size : w'.heap.size = w.heap.size
 block : ∀ k, k ≠ g -> w'.heap[k]? = w.heap[k]?
theorem But.refl (g : Nat) (w : World) : But g w w := ⟨rfl, rfl, rfl, rfl, fun _ _ => rfl⟩
theorem But.set {g : Nat} {w w' : World} (h : But g w w') (i : Nat) (u : Value) : But g w (w'.setCell ⟨g, i, none⟩ u) :=
 ⟨h.os, h.tape, h.output, by simpa [World.setCell] using h.size, fun k hk => (Below.heap_setCell _ _ _ _ hk).trans (h.block k hk)⟩
theorem But.below {g B : Nat} {w w' : World} (h : But g w w') (hg : B <= g) : Below B w w' := ⟨h.os, h.tape, h.output, Nat.le_of_eq h.size.symm, fun k hk => h.block k (by omega)⟩
theorem But.row {g b : Nat} {w w' : World} (h : But g w w') {t : TypeId} {cs : List Value} (hr : Row w b t cs) (hb : b ≠ g) : Row w' b t cs := hr.keep (h.block b hb)
structure Same (w w' : World) : Prop where
 os : w'.os = w.os
 tape : w'.tape = w.tape
 output : w'.output = w.output
 heap : w'.heap = w.heap
theorem Same.refl (w : World) : Same w w := ⟨rfl, rfl, rfl, rfl⟩
theorem Same.drewN {w w' : World} (h : Same w w') (n : Nat) : Same w (w'.drewN n) := ⟨h.os, h.tape, h.output, h.heap⟩
theorem Same.row {w w' : World} (h : Same w w') {b : Nat} {t : TypeId} {cs : List Value} (hr : Row w b t cs) : Row w' b t cs := hr.keep (by rw [h.heap])
theorem z02 (w : World) (o : Obj) : Below w.heap.size w (w.alloc o) := (Below.refl _ w).alloc (Nat.le_refl _) o
theorem z0r {B : Nat} {a w : World} (h : Below B a w) (n : Nat) : Below B a (w.drewN n) := ⟨h.os, h.tape, h.output, h.size, h.block⟩
theorem z00 {w w1 w2 : World} (h1 : Below w.heap.size w w1) (h2 : Below w1.heap.size w1 w2) : Below w.heap.size w w2 := h1.trans (h2.mono h1.size)
theorem z11 {w w' : World} {base : Nat} {e : TypeId} {size : Nat} {v : Value} {n : Nat} {xs : List Value} (h : w.ownsRow base e size v n xs) (hb : Below w.heap.size w w') : w'.ownsRow base e size v n xs := by
 refine ⟨h.1, ?_⟩
 rcases h.2 with h0 | ⟨g, cap, cur, hv, hbs, hh, hr⟩
 ·exact .inl h0
 ·exact .inr ⟨g, cap, cur, hv, hbs, (hb.block g (Array.getElem?_eq_some_iff.1 hh).1).trans hh, hr⟩
theorem z0m {w : World} {base : Nat} {v : Value} {e : TypeId} {k n : Nat} {xs : List Value} (h : w.ownsRow base e k v n xs) : ∃ a cap, v = .slice a n cap /\ n <= cap /\ cap <= 9223372036854775807 /\ (0 < n -> ∃ g, a = some ⟨g, 0, none⟩) := by
 rcases h.2 with ⟨rfl, rfl⟩ | ⟨g, cap, cur, rfl, -, -, hc, hm, -⟩
 ·exact ⟨none, 0, rfl, Nat.le_refl _, by omega, fun h => by omega⟩
 ·exact ⟨_, cap, rfl, hc, by unfold maxLen at hm; exact hm, fun _ => ⟨g, rfl⟩⟩
structure Fr (X : Nat -> Prop) (w w' : World) : Prop where
 os : w'.os = w.os
 tape : w'.tape = w.tape
 output : w'.output = w.output
 size : w.heap.size <= w'.heap.size
 block : ∀ k, k < w.heap.size -> ¬ X k -> w'.heap[k]? = w.heap[k]?
section
variable {X Y : Nat -> Prop} {a w w' : World}
theorem Fr.refl (X : Nat -> Prop) (w : World) : Fr X w w := ⟨rfl, rfl, rfl, Nat.le_refl _, fun _ _ _ => rfl⟩
theorem Fr.trans (h : Fr X a w) (k : Fr X w w') : Fr X a w' :=
 ⟨k.os.trans h.os, k.tape.trans h.tape, k.output.trans h.output, Nat.le_trans h.size k.size, fun i hi hx => (k.block i (Nat.lt_of_lt_of_le hi h.size) hx).trans (h.block i hi hx)⟩
theorem Fr.alloc (h : Fr X a w) (o : Obj) : Fr X a (w.alloc o) :=
 h.trans ⟨rfl, rfl, rfl, by simp, fun k hk _ => Below.heap_alloc _ _ _ hk⟩
theorem Fr.setCell (h : Fr X a w) {p : Addr} (hp : a.heap.size <= p.block ∨ X p.block) (u : Value) : Fr X a (w.setCell p u) :=
 ⟨h.os, h.tape, h.output, by simpa [World.setCell] using h.size, fun k hk hx => (Below.heap_setCell _ _ _ _ (fun e => by subst e; rcases hp with hp | hp; omega; exact hx hp)).trans (h.block k hk hx)⟩
theorem Fr.grown (h : Fr X a w) {row : Option Nat} (hg : w.grownBy w' row) (hr : ∀ g, row = some g -> a.heap.size <= g ∨ X g) : Fr X a w' :=
 ⟨hg.os.trans h.os, hg.tape.trans h.tape, hg.output.trans h.output, Nat.le_trans h.size hg.size, fun k hk hx => (hg.block k (Nat.lt_of_lt_of_le hk h.size) (fun e => by rcases hr k e.symm with h1 | h1; omega; exact hx h1)).trans (h.block k hk hx)⟩
end
theorem z0a {w w' : World} {base : Nat} {e : TypeId} {size : Nat} {v : Value} {n : Nat} {xs : List Value} (h : w.ownsRow base e size v n xs) (hk : ∀ g, v.ownBlock = some g -> w'.heap[g]? = w.heap[g]?) : w'.ownsRow base e size v n xs := by
 refine ⟨h.1, ?_⟩
 rcases h.2 with h0 | ⟨g, cap, cur, hv, hb, hh, hr⟩
 ·exact .inl h0
 ·exact .inr ⟨g, cap, cur, hv, hb, (hk g (by rw [hv]; rfl)).trans hh, hr⟩
theorem Fr.of_same {X : Nat -> Prop} {w w' : World} (h : Same w w') : Fr X w w' := ⟨h.os, h.tape, h.output, by rw [h.heap]; exact Nat.le_refl _, fun k _ _ => by rw [h.heap]⟩
theorem Fr.to_below {g : Nat} {W w w' : World} (hb : Below W.heap.size W w) (h : Fr (· = g) w w') (hg : W.heap.size <= g) : Below W.heap.size W w' :=
 ⟨h.os.trans hb.os, h.tape.trans hb.tape, h.output.trans hb.output, Nat.le_trans hb.size h.size, fun k hk => (h.block k (Nat.lt_of_lt_of_le hk hb.size) (by omega)).trans (hb.block k hk)⟩
def Ty (T : List Nat) (w : World) (b : Nat) : Prop := ∃ cs t z, w.heap[b]? = some (.cells cs t z) /\ t ∈ T
theorem Ty.lt {T : List Nat} {w : World} {b : Nat} (h : Ty T w b) : b < w.heap.size := by
 obtain ⟨cs, t, z, h, -⟩ := h
 exact (Array.getElem?_eq_some_iff.1 h).1
theorem Ty.keep {T : List Nat} {w w' : World} {b : Nat} (h : Ty T w b) (hk : w'.heap[b]? = w.heap[b]?) : Ty T w' b := by
 obtain ⟨cs, t, z, h, ht⟩ := h
 exact ⟨cs, t, z, hk.trans h, ht⟩
theorem Ty.mono {T T' : List Nat} {w : World} {b : Nat} (h : Ty T w b) (hT : ∀ t ∈ T, t ∈ T') : Ty T' w b := by
 obtain ⟨cs, t, z, h, ht⟩ := h
 exact ⟨cs, t, z, h, hT t ht⟩
theorem Ty.ne {T : List Nat} {w : World} {b g : Nat} {cs : Array Value} {t : TypeId} {z : Nat × Nat} (h : Ty T w b) (hg : w.heap[g]? = some (.cells cs t z)) (ht : t ∉ T) : b ≠ g := by
 rintro rfl
 obtain ⟨cs', t', z', h, ht'⟩ := h
 rw [hg] at h
 injection h with h
 injection h with _ h
 subst h
 exact ht ht'
def KpT (T : List Nat) (w w' : World) : Prop := ∀ b, Ty T w b -> w'.heap[b]? = w.heap[b]?
theorem KpT.of_below {T : List Nat} {w w' : World} (h : Below w.heap.size w w') : KpT T w w' := fun b hb => h.block b hb.lt
theorem KpT.trans {T : List Nat} {a b c : World} (h : KpT T a b) (k : KpT T b c) : KpT T a c := fun x hx => (k x (hx.keep (h x hx))).trans (h x hx)
theorem KpT.of_fr {T : List Nat} {g : Nat} {w w' : World} {cs : Array Value} {t : TypeId} {z : Nat × Nat} (h : Fr (· = g) w w') (hg : w.heap[g]? = some (.cells cs t z)) (ht : t ∉ T) : KpT T w w' := fun b hb => h.block b hb.lt (hb.ne hg ht)
theorem KpT.of_grown {T : List Nat} {w w' : World} {base size n : Nat} {e : TypeId} {v : Value} {xs : List Value} (h : w.grownBy w' v.ownBlock) (ho : w.ownsRow base e size v n xs) (ht : e ∉ T) : KpT T w w' := fun b hb => h.block b hb.lt (fun e => by
 rcases ho.2 with ⟨rfl, -⟩ | ⟨g, cap, cur, rfl, -, hh, -⟩
 ·cases e
 ·exact hb.ne hh ht (Option.some.inj e))
def At {α : Type} (k : Nat) (C : α -> List Value -> Prop) (w : World) (b o : Nat) (x : α) : Prop := ∃ cs, cs.length = k /\ C x cs /\ ∀ j u, cs[j]? = some u -> w.cell? ⟨b, o + j, none⟩ = some u
def Sl {α : Type} (k : Nat) (C : α -> List Value -> Prop) (w : World) (S : Nat -> Prop) (v : Value) (xs : List α) : Prop :=
 ∃ a cap, v = .slice a xs.length cap /\ xs.length <= cap /\ cap <= 9223372036854775807 /\ (xs ≠ [] -> ∃ b off, a = some ⟨b, off, none⟩ /\ S b /\ ∀ (j : Nat) (x : α), xs[j]? = some x -> At k C w b (off + j * k) x)
theorem At.keep {α : Type} {k : Nat} {C C' : α -> List Value -> Prop} {w w' : World} {b o : Nat} {x : α} (h : At k C w b o x) (hk : w'.heap[b]? = w.heap[b]?) (hC : ∀ x cs, C x cs -> C' x cs) : At k C' w' b o x := by
 obtain ⟨cs, hl, hx, hc⟩ := h
 exact ⟨cs, hl, hC _ _ hx, fun j u hu => (World.cell?_of_block (a := ⟨b, o + j, none⟩) hk).trans (hc j u hu)⟩
theorem Sl.keep {α : Type} {k : Nat} {C C' : α -> List Value -> Prop} {w w' : World} {S S' : Nat -> Prop} {v : Value} {xs : List α} (h : Sl k C w S v xs) (hk : ∀ b, S b -> w'.heap[b]? = w.heap[b]?) (hS : ∀ b, S b -> S' b) (hC : ∀ x cs, C x cs -> C' x cs) : Sl k C' w' S' v xs := by
 obtain ⟨a, cap, hv, hl, hm, hx⟩ := h
 refine ⟨a, cap, hv, hl, hm, fun hne => ?_⟩
 obtain ⟨b, off, ha, hb, hat⟩ := hx hne
 exact ⟨b, off, ha, hS b hb, fun j x hj => (hat j x hj).keep (hk b hb) hC⟩
def CS (x : Sp) (cs : List Value) : Prop := cs = [.int .i64 x.lo, .int .i64 x.hi]
abbrev SlS (w : World) (S : Nat -> Prop) (v : Value) (xs : List Sp) : Prop := Sl 2 CS w S v xs
def CR (w : World) (S : Nat -> Prop) (x : Rl) (cs : List Value) : Prop := ∃ v, cs = [.int .i64 x.m, .bool x.neg, v] /\ SlS w S v x.sp
abbrev SlR (w : World) (S : Nat -> Prop) (v : Value) (xs : List Rl) : Prop := Sl 3 (CR w S) w S v xs
def CW (w : World) (S : Nat -> Prop) (x : List Rl) (cs : List Value) : Prop := ∃ v, cs = [v] /\ SlR w S v x
abbrev SlW (w : World) (S : Nat -> Prop) (v : Value) (xs : Rule) : Prop := Sl 1 (CW w S) w S v xs
def CC (w : World) (S : Nat -> Prop) (x : ByteArray × Rule) (cs : List Value) : Prop := ∃ v, cs = [.string x.1, v] /\ SlW w S v x.2
abbrev SlC (w : World) (S : Nat -> Prop) (v : Value) (xs : List (ByteArray × Rule)) : Prop := Sl 2 (CC w S) w S v xs
section
variable {w w' : World} {S S' : Nat -> Prop} (hk : ∀ b, S b -> w'.heap[b]? = w.heap[b]?) (hS : ∀ b, S b -> S' b)
include hk hS
theorem SlS.keep {v : Value} {xs : List Sp} (h : SlS w S v xs) : SlS w' S' v xs := Sl.keep h hk hS (fun _ _ => id)
theorem CR.keep {x : Rl} {cs : List Value} (h : CR w S x cs) : CR w' S' x cs := by
 obtain ⟨v, hv, h⟩ := h
 exact ⟨v, hv, SlS.keep hk hS h⟩
theorem SlR.keep {v : Value} {xs : List Rl} (h : SlR w S v xs) : SlR w' S' v xs := Sl.keep h hk hS (fun _ _ => CR.keep hk hS)
theorem CW.keep {x : List Rl} {cs : List Value} (h : CW w S x cs) : CW w' S' x cs := by
 obtain ⟨v, hv, h⟩ := h
 exact ⟨v, hv, SlR.keep hk hS h⟩
theorem SlW.keep {v : Value} {xs : Rule} (h : SlW w S v xs) : SlW w' S' v xs := Sl.keep h hk hS (fun _ _ => CW.keep hk hS)
theorem CC.keep {x : ByteArray × Rule} {cs : List Value} (h : CC w S x cs) : CC w' S' x cs := by
 obtain ⟨v, hv, h⟩ := h
 exact ⟨v, hv, SlW.keep hk hS h⟩
theorem SlC.keep {v : Value} {xs : List (ByteArray × Rule)} (h : SlC w S v xs) : SlC w' S' v xs := Sl.keep h hk hS (fun _ _ => CC.keep hk hS)
end
abbrev Old (w : World) (b : Nat) : Prop := b < w.heap.size
theorem SlS.below {w w' : World} {v : Value} {xs : List Sp} (h : SlS w (Old w) v xs) (hb : Below w.heap.size w w') : SlS w' (Old w') v xs := SlS.keep (fun b h => hb.block b h) (fun _ h => Nat.lt_of_lt_of_le h hb.size) h
theorem SlR.below {w w' : World} {v : Value} {xs : List Rl} (h : SlR w (Old w) v xs) (hb : Below w.heap.size w w') : SlR w' (Old w') v xs := SlR.keep (fun b h => hb.block b h) (fun _ h => Nat.lt_of_lt_of_le h hb.size) h
theorem SlW.below {w w' : World} {v : Value} {xs : Rule} (h : SlW w (Old w) v xs) (hb : Below w.heap.size w w') : SlW w' (Old w') v xs := SlW.keep (fun b h => hb.block b h) (fun _ h => Nat.lt_of_lt_of_le h hb.size) h
theorem SlC.below {w w' : World} {v : Value} {xs : List (ByteArray × Rule)} (h : SlC w (Old w) v xs) (hb : Below w.heap.size w w') : SlC w' (Old w') v xs := SlC.keep (fun b h => hb.block b h) (fun _ h => Nat.lt_of_lt_of_le h hb.size) h
theorem SlW.old {w : World} {T : List Nat} {v : Value} {xs : Rule} (h : SlW w (Ty T w) v xs) : SlW w (Old w) v xs := SlW.keep (fun _ _ => rfl) (fun _ h => h.lt) h
theorem SlS.kpt {w w' : World} {T : List Nat} {v : Value} {xs : List Sp} (h : SlS w (Ty T w) v xs) (hb : KpT T w w') : SlS w' (Ty T w') v xs := SlS.keep (fun b h => hb b h) (fun b h => h.keep (hb b h)) h
theorem SlR.kpt {w w' : World} {T : List Nat} {v : Value} {xs : List Rl} (h : SlR w (Ty T w) v xs) (hb : KpT T w w') : SlR w' (Ty T w') v xs := SlR.keep (fun b h => hb b h) (fun b h => h.keep (hb b h)) h
theorem CR.kpt {w w' : World} {T : List Nat} {x : Rl} {cs : List Value} (h : CR w (Ty T w) x cs) (hb : KpT T w w') : CR w' (Ty T w') x cs := CR.keep (fun b h => hb b h) (fun b h => h.keep (hb b h)) h
theorem CW.kpt {w w' : World} {T : List Nat} {x : List Rl} {cs : List Value} (h : CW w (Ty T w) x cs) (hb : KpT T w w') : CW w' (Ty T w') x cs := CW.keep (fun b h => hb b h) (fun b h => h.keep (hb b h)) h
def Cat {α : Type} (k : Nat) (C : α -> List Value -> Prop) : List α -> List Value -> Prop
 | [], vs => vs = []
 | x :: r, vs => ∃ cs rest, vs = cs ++ rest /\ cs.length = k /\ C x cs /\ Cat k C r rest
theorem Cat.mono {α : Type} {k : Nat} {C C' : α -> List Value -> Prop} (hC : ∀ x cs, C x cs -> C' x cs) : ∀ {xs : List α} {vs : List Value}, Cat k C xs vs -> Cat k C' xs vs
 | [], _, h => h
 | x :: r, vs, h => by
  obtain ⟨cs, rest, hv, hl, hx, hr⟩ := h
  exact ⟨cs, rest, hv, hl, hC _ _ hx, Cat.mono hC hr⟩
theorem Cat.snoc {α : Type} {k : Nat} {C : α -> List Value -> Prop} {x : α} {cs : List Value} (hl : cs.length = k) (hx : C x cs) : ∀ {xs : List α} {vs : List Value}, Cat k C xs vs -> Cat k C (xs ++ [x]) (vs ++ cs)
 | [], vs, h => by
  obtain rfl : vs = [] := h
  exact ⟨cs, [], by simp, hl, hx, rfl⟩
 | y :: r, vs, h => by
  obtain ⟨ds, rest, rfl, hd, hy, hr⟩ := h
  exact ⟨ds, rest ++ cs, by simp, hd, hy, Cat.snoc hl hx hr⟩
theorem Cat.one {α : Type} {k : Nat} {C : α -> List Value -> Prop} {x : α} {cs : List Value} (hl : cs.length = k) (hx : C x cs) : Cat k C [x] cs := ⟨cs, [], by simp, hl, hx, rfl⟩
theorem Cat.get {α : Type} {k : Nat} {C : α -> List Value -> Prop} : ∀ {xs : List α} {vs : List Value}, Cat k C xs vs -> ∀ (j : Nat) (x : α), xs[j]? = some x -> ∃ cs, cs.length = k /\ C x cs /\ ∀ i u, cs[i]? = some u -> vs[j * k + i]? = some u
 | [], _, _, j, x, hj => by simp at hj
 | y :: r, vs, h, 0, x, hj => by
  obtain ⟨cs, rest, rfl, hl, hx, hr⟩ := h
  obtain rfl : y = x := by simpa using hj
  exact ⟨cs, hl, hx, fun i u hu => by
   rw [Nat.zero_mul, Nat.zero_add, List.getElem?_append_left (by have := (List.getElem?_eq_some_iff.1 hu).1; omega)]; exact hu⟩
 | y :: r, vs, h, j + 1, x, hj => by
  obtain ⟨cs, rest, rfl, hl, hx, hr⟩ := h
  obtain ⟨ds, hd, hdx, hc⟩ := Cat.get hr j x (by simpa using hj)
  refine ⟨ds, hd, hdx, fun i u hu => ?_⟩
  rw [Nat.succ_mul, List.getElem?_append_right (by omega), show j * k + k + i - cs.length = j * k + i by omega]
  exact hc i u hu
theorem z1m {w : World} {base k n : Nat} {e : TypeId} {v : Value} {vs : List Value} (h : w.ownsRow base e k v n vs) {b off : Nat} {cap m : Nat} (hv : v = .slice (some ⟨b, off, none⟩) m cap) : off = 0 /\ (∃ cs z, w.heap[b]? = some (.cells cs e z)) /\ ∀ i u, vs[i]? = some u -> w.cell? ⟨b, i, none⟩ = some u := by
 rcases h.2 with ⟨rfl, h0⟩ | ⟨g, cap', cur, rfl, hb, hh, hc, -, hs, ht⟩
 ·cases hv
 ·injection hv with hv
  injection hv with hv
  injection hv with h1 h2
  subst h1
  refine ⟨h2.symm, ⟨_, _, hh⟩, fun i u hu => ?_⟩
  have hlt := (List.getElem?_eq_some_iff.1 hu).1
  have := h.1
  rw [<- ht, List.getElem?_take, if_pos (by omega), Array.getElem?_toList] at hu
  simp only [World.cell?, hh, hu]
  simp
theorem Sl.of_owns {α : Type} {k : Nat} {C : α -> List Value -> Prop} {w : World} {base : Nat} {e : TypeId} {v : Value} {xs : List α} {vs : List Value} (h : w.ownsRow base e k v xs.length vs) (hc : Cat k C xs vs) {S : Nat -> Prop} (hS : ∀ b cs z, w.heap[b]? = some (.cells cs e z) -> S b) : Sl k C w S v xs := by
 obtain ⟨a, cap, hv, hl, hm, hx⟩ := z0m h
 refine ⟨a, cap, hv, hl, hm, fun hne => ?_⟩
 obtain ⟨g, rfl⟩ := hx (List.length_pos_iff.2 hne)
 obtain ⟨-, ⟨cs, z, hh⟩, hcell⟩ := z1m h hv
 refine ⟨g, 0, rfl, hS _ _ _ hh, fun j x hj => ?_⟩
 obtain ⟨ds, hd, hdx, hdc⟩ := hc.get j x hj
 exact ⟨ds, hd, hdx, fun i u hu => by rw [Nat.zero_add]; exact hcell _ _ (hdc i u hu)⟩
theorem z2h (w : World) (cs : Array Value) (e : TypeId) (base n : Nat) (k : Nat) (hs : cs.size = n * k) (hb : base <= w.heap.size) (hn : n <= 9223372036854775807) : (w.alloc (.cells cs e)).ownsRow base e k (.slice (some ⟨w.heap.size, 0, none⟩) n n) n cs.toList :=
 ⟨by simpa using hs, .inr ⟨w.heap.size, n, cs, rfl, hb, heap_alloc_new w _, Nat.le_refl _, by unfold maxLen; exact hn, hs, by rw [List.take_of_length_le]; simp [hs]⟩⟩
theorem z0s (w : World) (cs : Array Value) (t : TypeId) {B : Nat} (hB : w.heap.size = B) : ∀ j v, cs.toList[j]? = some v -> (w.alloc (.cells cs t)).cell? (Addr.add ⟨B, 0, none⟩ j) = some v := fun j v hv => by
 subst hB
 rw [Addr.add_mid, Nat.zero_add]
 exact (z04 w cs t).cell hv
theorem info55 : (Tryz.prog.info? 266).map (fun i => (i.zero, i.size, i.bytes)) = some (some (.agg #[.int .i64 0, .int .i64 0]), 2, 16) := by kernel_rfl
theorem info49 : (Tryz.prog.info? 245).map (fun i => (i.zero, i.size, i.bytes)) = some (some (.agg #[.int .i64 0, .bool false, .slice none 0 0]), 3, 40) := by kernel_rfl
theorem info51 : (Tryz.prog.info? 231).map (fun i => (i.zero, i.size, i.bytes)) = some (some (.slice none 0 0), 1, 24) := by kernel_rfl
theorem info9 : (Tryz.prog.info? 9).map (fun i => (i.zero, i.size, i.bytes)) = some (some (.string ByteArray.empty), 1, 16) := by kernel_rfl
abbrev BA := ByteArray
abbrev TabW (w : World) : Prop := Lib.TabIs Tryz.prog w "internal/strconv.uint64pow10" .u64 Lib.pow10Tab
theorem TabW.below {w w' : World} (h : TabW w) (hb : Below w.heap.size w w') : TabW w' := Lib.tabBelow_of_tabIs h w' hb
end Go.Proofs.YtdnedbcmgkilaaaGreatDoor.Pu

end

section

namespace Go.Proofs.YtdnedbcmgkilaaaGreatDoor.Pu
set_option maxHeartbeats 1600000
set_option maxRecDepth 100000
open Go.Lib (hid)
open Go.RowKit
def RdAt (w : World) (rb : Nat) (s : BA) (S : St) : Prop := w.heap[rb]? = some (.cells #[.string s, .int .i64 S.1, .bool S.2] 255 (0, 0))
theorem RdAt.lt {w : World} {rb : Nat} {s : BA} {S : St} (h : RdAt w rb s S) : rb < w.heap.size := (Array.getElem?_eq_some_iff.1 h).1
theorem RdAt.c0 {w : World} {rb : Nat} {s : BA} {S : St} (h : RdAt w rb s S) : w.cell? ⟨rb, 0, none⟩ = some (.string s) := by simp [World.cell?, RdAt] at *; simp [h]
theorem RdAt.c1 {w : World} {rb : Nat} {s : BA} {S : St} (h : RdAt w rb s S) : w.cell? ⟨rb, 1, none⟩ = some (.int .i64 S.1) := by simp [World.cell?, RdAt] at *; simp [h]
theorem RdAt.c2 {w : World} {rb : Nat} {s : BA} {S : St} (h : RdAt w rb s S) : w.cell? ⟨rb, 2, none⟩ = some (.bool S.2) := by simp [World.cell?, RdAt] at *; simp [h]
theorem RdAt.thaw {w : World} {rb : Nat} {s : BA} {S : St} (h : RdAt w rb s S) (i : Nat) : w.frozen? ⟨rb, i, none⟩ = false := by simp [World.frozen?, RdAt] at *; simp [h]
theorem RdAt.keep {w w' : World} {rb : Nat} {s : BA} {S : St} (h : RdAt w rb s S) (hk : w'.heap[rb]? = w.heap[rb]?) : RdAt w' rb s S := hk.trans h
theorem RdAt.same {w w' : World} {rb : Nat} {s : BA} {S : St} (h : RdAt w rb s S) (hk : Same w w') : RdAt w' rb s S := h.keep (by rw [hk.heap])
theorem RdAt.alloc {w : World} {rb : Nat} {s : BA} {S : St} (h : RdAt w rb s S) (o : Obj) : RdAt (w.alloc o) rb s S := h.keep (Below.heap_alloc _ _ _ h.lt)
theorem RdAt.set1 {w : World} {rb : Nat} {s : BA} {S : St} (h : RdAt w rb s S) (a : Nat) : RdAt (w.setCell ⟨rb, 1, none⟩ (.int .i64 a)) rb s (a, S.2) := by
 unfold RdAt at *
 simp [World.setCell, Array.getElem?_modify, h]
theorem RdAt.set2 {w : World} {rb : Nat} {s : BA} {S : St} (h : RdAt w rb s S) (b : Bool) : RdAt (w.setCell ⟨rb, 2, none⟩ (.bool b)) rb s (S.1, b) := by
 unfold RdAt at *
 simp [World.setCell, Array.getElem?_modify, h]
theorem z0d {w : World} {rb : Nat} (i : Nat) (u : Value) : Fr (· = rb) w (w.setCell ⟨rb, i, none⟩ u) := Fr.setCell (X := (· = rb)) (Fr.refl _ w) (p := ⟨rb, i, none⟩) (.inr rfl) u
theorem z7y (l t : List UInt8) (a : Nat) : nextF l t (a, true) = false := rfl
theorem zhr (l t : List UInt8) (a : Nat) : nextF l t (a, false) = Lib.hasPrefix (l.drop a) t := rfl
theorem z13 (rb : Nat) (s t : BA) (S : St) (w : World) (_hs : s.size <= 400) (hS : S.1 <= s.size) (hR : RdAt w rb s S) :
  Calls Tryz.prog 249 #[.pointer (some ⟨rb, 0, none⟩), .string t] w fun e w' => e = .returned (.bool (nextF s.data.toList t.data.toList S)) /\ Same w w' := by
 obtain ⟨a, st⟩ := S
 have c0 := hR.c0
 have c1 := hR.c1
 have c2 := hR.c2
 simp only at hS c1 c2
 clear hR
 cases st with
 | true =>
  go_enter Tryz.func249, Tryz.ntmps249
  go_wp2
  go_quiet (fail)
  go_wp2
  go_ret
  exact ⟨rfl, (Same.refl _).drewN _⟩
 | false =>
  go_enter Tryz.func249, Tryz.ntmps249
  go_wp2
  go_quiet ((go_at_call 153; exact Calls.quiet_of_same (Tryz.strings_HasPrefix _ _ _)))
  go_wp2
  go_ret
  exact ⟨z01 (by rw [zhr, List.take_of_length_le (by simp)]), (Same.refl _).drewN _⟩
def peekF (l : List UInt8) (S : St) : Nat := if S.2 then 0 else match l[S.1]? with | some c => c.toNat | none => 0
theorem z1s (s : BA) (k : Nat) (h : k < s.size) : s.data.toList[k]? = some s[k] := by rw [Array.getElem?_toList, Array.getElem?_eq_getElem (show k < s.data.size from h)]; rfl
theorem zig (s : BA) (k : Nat) (h : ¬ k < s.size) : s.data.toList[k]? = none := by rw [List.getElem?_eq_none]; simp; omega
theorem peek_any (rb : Nat) (s : BA) (S : St) (w : World) (_hs : s.size <= 400) (hS : S.1 <= s.size) (hR : RdAt w rb s S) :
  Calls Tryz.prog 257 #[.pointer (some ⟨rb, 0, none⟩)] w fun e w' => e = .returned (.int .u8 (peekF s.data.toList S : Nat)) /\ Same w w' := by
 obtain ⟨a, st⟩ := S
 have c0 := hR.c0
 have c1 := hR.c1
 have c2 := hR.c2
 simp only at hS c1 c2
 clear hR
 cases st with
 | true =>
  go_enter Tryz.func257, Tryz.ntmps257
  go_wp2
  go_quiet (fail)
  go_wp2
  go_ret
  exact ⟨rfl, (Same.refl _).drewN _⟩
 | false =>
  by_cases hlt : a < s.size
  ·have hP : Hid (peekF s.data.toList (a, false) = s[a].toNat) := hid (by unfold peekF; simp only [Bool.false_eq_true, if_false]; rw [z1s s a hlt])
   have hB : ((a : Int) == (s.size : Int)) = false := by simp; omega
   rw [hP.out]
   go_enter Tryz.func257, Tryz.ntmps257
   go_wp2
   go_quiet (fail)
   go_wp2
   go_quiet (fail)
   go_wp2
   go_ret
   exact ⟨rfl, ((Same.refl _).drewN _).drewN _⟩
  ·have hP : Hid (peekF s.data.toList (a, false) = 0) := hid (by unfold peekF; simp only [Bool.false_eq_true, if_false]; rw [zig s a hlt])
   have hB : ((a : Int) == (s.size : Int)) = true := by simp; omega
   rw [hP.out]
   go_enter Tryz.func257, Tryz.ntmps257
   go_wp2
   go_quiet (fail)
   go_wp2
   go_ret
   exact ⟨rfl, (Same.refl _).drewN _⟩
theorem z4v (t : BA) (k : Nat) (h : k < t.size) : (ByteArray.extract t k (k + 1)).data.toList = [t[k]] := by
 have h1 := z1s t k h
 have h2 : (ByteArray.extract t k (k + 1)).data.toList = (t.data.toList.drop k).take (k + 1 - k) := by simp [ByteArray.data_extract]
 rw [h2, show k + 1 - k = 1 by omega, List.take_one, List.head?_drop, h1]; rfl
theorem zdb {l : List UInt8} {k : Nat} {c : UInt8} (h : l[k]? = some c) : l.drop k = c :: l.drop (k + 1) := by
 obtain ⟨hi, rfl⟩ := List.getElem?_eq_some_iff.1 h
 exact List.drop_eq_getElem_cons hi
theorem z2e {l r : List UInt8} {c : UInt8} {S : St} (h : nextF l [c] S = true) : wordF l (c :: r) S = wordF l r (S.1 + 1, false) := by rw [wordF, if_pos h]
theorem z6s {l r : List UInt8} {c : UInt8} {S : St} (h : nextF l [c] S = false) : wordF l (c :: r) S = (S.1, true) := by rw [wordF, h]; rfl
theorem z0i (rb : Nat) (s t : BA) (S : St) (w : World) (hs : s.size <= 400) (ht : t.size <= 100) (hS : S.1 <= s.size) (hR : RdAt w rb s S) :
  Calls Tryz.prog 244 #[.pointer (some ⟨rb, 0, none⟩), .string t] w fun e w' => e = .returned (.tuple #[]) /\ RdAt w' rb s (wordF s.data.toList t.data.toList S) /\ Fr (· = rb) w w' := by
 have HR := hid hR
 clear hR
 go_enter Tryz.func244, Tryz.ntmps244
 go_wp2
 go_loopw [7] (fun i wr => ∃ (k : Nat) (T : St), k <= t.size /\ i = .int .i64 k /\ T.1 <= s.size /\ Hid (RdAt wr rb s T) /\ Hid (Fr (· = rb) w wr) /\ Hid (wordF s.data.toList t.data.toList S = wordF s.data.toList (t.data.toList.drop k) T)) (fun i _ => t.size - (intOf i).toNat)
 case atStart => exact ⟨0, S, by omega, rfl, hS, HR, hid (Fr.refl _ _), hid (by rw [List.drop_zero])⟩
 case round =>
  obtain ⟨k, T, hk, rfl, hT, HRT, HF, HW⟩ := hrel
  clear HR
  by_cases hlt : k < t.size
  ·have hc := z1s t k hlt
   have HD := hid (HW.out.trans (by rw [zdb hc]))
   have HN := hid (fun (t1 : BA) => z13 rb s t1 T wr hs hT HRT.out)
   have HX : Hid ((ByteArray.extract t k (k + 1)).data.toList = [t[k]]) := hid (by rw [z4v t k hlt])
   clear hc HW
   generalize t[k] = c at *
   go_wp2_with fail
   refine (HN.out _).mono ?_
   rintro e w2 ⟨rfl, hw2⟩
   rw [HX.out]
   have HR2 := hid (HRT.out.same hw2)
   have HF2 := hid (HF.out.trans (Fr.of_same hw2))
   clear hw2 HN HX
   have c1 := HR2.out.c1
   have c2 := HR2.out.c2
   have z1 := HR2.out.thaw 1
   have z2 := HR2.out.thaw 2
   cases hb : nextF s.data.toList [c] T with
   | true =>
    have HW2 := hid (HD.out.trans (z2e hb))
    have HL : Hid (T.1 + 1 <= s.size) := hid (by have := z0l (z0v.1 hb).2; simp at this; omega)
    have HQ : Hid (RdAt (w2.setCell ⟨rb, 1, none⟩ (.int .i64 ((T.1 : Int) + 1))) rb s (T.1 + 1, false)) := hid (by have h := HR2.out.set1 (T.1 + 1); rw [(z0v.1 hb).1] at h; exact h)
    have HF3 : Hid (Fr (· = rb) w (w2.setCell ⟨rb, 1, none⟩ (.int .i64 ((T.1 : Int) + 1)))) := hid (HF2.out.trans (z0d 1 _))
    clear hb HD
    go_wp2
    go_roundw
    case rel => exact ⟨k + 1, (T.1 + 1, false), by omega, by go_num, HL.out, HQ, HF3, HW2⟩
    case measure => simp [intOf]; omega
   | false =>
    have HW2 := hid (HD.out.trans (z6s hb))
    have HQ : Hid (RdAt (w2.setCell ⟨rb, 2, none⟩ (.bool true)) rb s (T.1, true)) := hid (HR2.out.set2 true)
    have HF3 : Hid (Fr (· = rb) w (w2.setCell ⟨rb, 2, none⟩ (.bool true))) := hid (HF2.out.trans (z0d 2 _))
    clear hb HD
    go_wp2
    exact bodyPost_ret (v := .tuple #[]) (by simp [results, Tryz.results244, go_sem]) rfl ⟨rfl, by rw [HW2.out]; exact HQ.out, HF3.out⟩
  ·have HD : Hid (t.data.toList.drop k = []) := hid (by rw [List.drop_eq_nil_iff]; simp; omega)
   go_wp2
   go_end0
   exact ⟨rfl, by rw [HW.out, HD.out]; exact HRT.out, HF.out⟩
end Go.Proofs.YtdnedbcmgkilaaaGreatDoor.Pu

end
