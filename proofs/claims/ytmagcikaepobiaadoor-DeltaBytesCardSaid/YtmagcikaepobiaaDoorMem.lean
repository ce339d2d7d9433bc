/- How a value of package api lies in memory: a tree of rows of four cells each; what keeps it. -/
import Derived.Test.YtmagcikaepobiaaDoorNum
import Derived.Deep.AppendLies
import Derived.Laws.OwnMore
namespace Go.Proofs.YtmagcikaepobiaaDoor
open Go.RowKit

/-- All blocks of w but those in X stand in w' as they stood. -/
structure Fr (X : Nat → Prop) (w w' : World) : Prop where
  os : w'.os = w.os
  tape : w'.tape = w.tape
  output : w'.output = w.output
  size : w.heap.size ≤ w'.heap.size
  block : ∀ k, k < w.heap.size → ¬ X k → w'.heap[k]? = w.heap[k]?

section
variable {X Y : Nat → Prop} {a w w' : World}
theorem Fr.refl (X : Nat → Prop) (w : World) : Fr X w w := ⟨rfl, rfl, rfl, Nat.le_refl _, fun _ _ _ => rfl⟩
theorem Fr.trans (h : Fr X a w) (k : Fr X w w') : Fr X a w' :=
  ⟨k.os.trans h.os, k.tape.trans h.tape, k.output.trans h.output, Nat.le_trans h.size k.size, fun i hi hx => (k.block i (Nat.lt_of_lt_of_le hi h.size) hx).trans (h.block i hi hx)⟩
theorem Fr.mono (h : Fr X w w') (hxy : ∀ k, k < w.heap.size → X k → Y k) : Fr Y w w' := ⟨h.os, h.tape, h.output, h.size, fun k hk hy => h.block k hk (fun hx => hy (hxy k hk hx))⟩
theorem Fr.alloc (h : Fr X a w) (o : Obj) : Fr X a (w.alloc o) :=
  h.trans ⟨rfl, rfl, rfl, by simp, fun k hk _ => Below.heap_alloc _ _ _ hk⟩
theorem Fr.setCell (h : Fr X a w) {p : Addr} (hp : a.heap.size ≤ p.block ∨ X p.block) (u : Value) : Fr X a (w.setCell p u) :=
  ⟨h.os, h.tape, h.output, by simpa [World.setCell] using h.size, fun k hk hx => (Below.heap_setCell _ _ _ _ (fun e => by subst e; rcases hp with hp | hp; omega; exact hx hp)).trans (h.block k hk hx)⟩
theorem Fr.drew (h : Fr X a w) : Fr X a w.drew := ⟨h.os, h.tape, h.output, h.size, h.block⟩
theorem Fr.of_below (hb : Below w.heap.size w w') : Fr X w w' := ⟨hb.os, hb.tape, hb.output, hb.size, fun k hk _ => hb.block k hk⟩
theorem Fr.below {B : Nat} (h : Fr (fun k => B ≤ k) w w') (hB : B ≤ w.heap.size) : Below B w w' :=
  ⟨h.os, h.tape, h.output, h.size, fun k hk => h.block k (by omega) (by omega)⟩
theorem Fr.grown (h : Fr X a w) {row : Option Nat} (hg : w.grownBy w' row) (hr : ∀ g, row = some g → a.heap.size ≤ g ∨ X g) : Fr X a w' :=
  ⟨hg.os.trans h.os, hg.tape.trans h.tape, hg.output.trans h.output, Nat.le_trans h.size hg.size, fun k hk hx => (hg.block k (Nat.lt_of_lt_of_le hk h.size) (fun e => by rcases hr k e.symm with h1 | h1; omega; exact hx h1)).trans (h.block k hk hx)⟩
theorem Fr.cell (h : Fr X w w') {p : Addr} (hp : p.block < w.heap.size) (hx : ¬ X p.block) : w'.cell? p = w.cell? p := World.cell?_of_block (h.block _ hp hx)
end

abbrev listV (L : Value) : Value := .agg #[.int .i64 3, .int .i64 0, .string ⟨#[]⟩, L]

mutual
/-- The value v is the tree, its rows being blocks in S. -/
def Rep (w : World) (S : Nat → Prop) : Tree → Value → Prop
  | .num n, v => v = numV n
  | .text bs, v => v = textV ⟨bs.toArray⟩
  | .list ts, v => ∃ L xs, v = listV L ∧ w.ownsRow 0 36 4 L ts.length xs ∧ (∀ g, L.ownBlock = some g → S g) ∧ RepAll w S ts xs
def RepAll (w : World) (S : Nat → Prop) : List Tree → List Value → Prop
  | [], xs => xs = []
  | t :: ts, xs => ∃ c0 c1 c2 c3 rest, xs = c0 :: c1 :: c2 :: c3 :: rest ∧ Rep w S t (.agg #[c0, c1, c2, c3]) ∧ RepAll w S ts rest
end

theorem ownsRow_keep {w w' : World} {base : Nat} {e : TypeId} {size : Nat} {v : Value} {n : Nat} {xs : List Value} (h : w.ownsRow base e size v n xs) (hk : ∀ g, v.ownBlock = some g → w'.heap[g]? = w.heap[g]?) : w'.ownsRow base e size v n xs := by
  refine ⟨h.1, ?_⟩
  rcases h.2 with h0 | ⟨g, cap, cur, hv, hb, hh, hr⟩
  · exact .inl h0
  · exact .inr ⟨g, cap, cur, hv, hb, (hk g (by rw [hv]; rfl)).trans hh, hr⟩

mutual
theorem Rep.keep {w w' : World} {S S' : Nat → Prop} (hk : ∀ g, S g → w'.heap[g]? = w.heap[g]?) (hS : ∀ g, S g → S' g) : ∀ (t : Tree) (v : Value), Rep w S t v → Rep w' S' t v
  | .num n, v, h => by rw [Rep] at h ⊢; exact h
  | .text bs, v, h => by rw [Rep] at h ⊢; exact h
  | .list ts, v, h => by
    rw [Rep] at h ⊢
    obtain ⟨L, xs, hv, ho, hg, hr⟩ := h
    exact ⟨L, xs, hv, ownsRow_keep ho (fun g e => hk g (hg g e)), fun g e => hS g (hg g e), RepAll.keep hk hS ts xs hr⟩
theorem RepAll.keep {w w' : World} {S S' : Nat → Prop} (hk : ∀ g, S g → w'.heap[g]? = w.heap[g]?) (hS : ∀ g, S g → S' g) : ∀ (ts : List Tree) (xs : List Value), RepAll w S ts xs → RepAll w' S' ts xs
  | [], xs, h => by rw [RepAll] at h ⊢; exact h
  | t :: ts, xs, h => by
    rw [RepAll] at h ⊢
    obtain ⟨c0, c1, c2, c3, rest, hx, ht, hr⟩ := h
    exact ⟨c0, c1, c2, c3, rest, hx, Rep.keep hk hS t _ ht, RepAll.keep hk hS ts rest hr⟩
end

theorem RepAll.snoc {w : World} {S : Nat → Prop} {t : Tree} {c0 c1 c2 c3 : Value} (ht : Rep w S t (.agg #[c0, c1, c2, c3])) : ∀ (ts : List Tree) (xs : List Value), RepAll w S ts xs → RepAll w S (ts ++ [t]) (xs ++ [c0, c1, c2, c3])
  | [], xs, h => by
    rw [RepAll] at h; subst h
    show RepAll w S [t] [c0, c1, c2, c3]
    rw [RepAll]
    exact ⟨c0, c1, c2, c3, [], rfl, ht, by rw [RepAll]⟩
  | u :: ts, xs, h => by
    rw [RepAll] at h
    obtain ⟨d0, d1, d2, d3, rest, rfl, hu, hr⟩ := h
    show RepAll w S (u :: (ts ++ [t])) _
    rw [RepAll]
    exact ⟨d0, d1, d2, d3, rest ++ [c0, c1, c2, c3], rfl, hu, RepAll.snoc ht ts rest hr⟩

/-- Every value that is a tree is four cells: two integers, a string, a slice. -/
theorem Rep.cells {w : World} {S : Nat → Prop} : ∀ (t : Tree) (v : Value), Rep w S t v → ∃ (kd n : Int) (b : ByteArray) (a : Option Addr) (len cap : Nat), v = .agg #[.int .i64 kd, .int .i64 n, .string b, .slice a len cap]
  | .num n, v, h => by rw [Rep] at h; subst h; exact ⟨_, _, _, _, _, _, rfl⟩
  | .text bs, v, h => by rw [Rep] at h; subst h; exact ⟨_, _, _, _, _, _, rfl⟩
  | .list ts, v, h => by
    rw [Rep] at h
    obtain ⟨L, xs, rfl, ho, -, -⟩ := h
    rcases ho.2 with ⟨rfl, -⟩ | ⟨g, cap, cur, rfl, -⟩ <;> exact ⟨_, _, _, _, _, _, rfl⟩

/-- w' is w, but for what block h holds. -/
structure But (h : Nat) (w w' : World) : Prop where
  os : w'.os = w.os
  tape : w'.tape = w.tape
  output : w'.output = w.output
  size : w'.heap.size = w.heap.size
  block : ∀ k, k ≠ h → w'.heap[k]? = w.heap[k]?

theorem But.refl (h : Nat) (w : World) : But h w w := ⟨rfl, rfl, rfl, rfl, fun _ _ => rfl⟩
theorem But.set {h : Nat} {w w' : World} (hb : But h w w') (i : Nat) (u : Value) : But h w (w'.setCell ⟨h, i, none⟩ u) :=
  ⟨hb.os, hb.tape, hb.output, by simpa [World.setCell] using hb.size, fun k hk => (Below.heap_setCell _ _ _ _ hk).trans (hb.block k hk)⟩
theorem But.put4 (h : Nat) (w : World) (a b c d : Value) : But h w ((((w.setCell ⟨h, 0, none⟩ a).setCell ⟨h, 1, none⟩ b).setCell ⟨h, 2, none⟩ c).setCell ⟨h, 3, none⟩ d) :=
  ((((But.refl h w).set 0 a).set 1 b).set 2 c).set 3 d
theorem heap_set {w : World} {h : Nat} {cs : Array Value} {t : TypeId} (hb : w.heap[h]? = some (.cells cs t (0, 0))) (i : Nat) (u : Value) : (w.setCell ⟨h, i, none⟩ u).heap[h]? = some (.cells (cs.setIfInBounds i u) t (0, 0)) := by
  simp [World.setCell, Array.getElem?_modify, hb]
theorem heap_put4 {w : World} {h : Nat} {x0 x1 x2 x3 : Value} {t : TypeId} (hb : w.heap[h]? = some (.cells #[x0, x1, x2, x3] t (0, 0))) (a b c d : Value) :
    ((((w.setCell ⟨h, 0, none⟩ a).setCell ⟨h, 1, none⟩ b).setCell ⟨h, 2, none⟩ c).setCell ⟨h, 3, none⟩ d).heap[h]? = some (.cells #[a, b, c, d] t (0, 0)) :=
  heap_set (heap_set (heap_set (heap_set hb 0 a) 1 b) 2 c) 3 d

end Go.Proofs.YtmagcikaepobiaaDoor
