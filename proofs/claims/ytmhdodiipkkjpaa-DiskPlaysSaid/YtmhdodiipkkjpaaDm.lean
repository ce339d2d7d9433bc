/- Rows of cells in memory: what a row holds, what keeps it. -/
import Derived.Test.YtmhdodiipkkjpaaDk
import Derived.Test.YtmhdodiipkkjpaaChecked
import Derived.Deep.MidRow
import Derived.Lib.UnsafeStr
import Derived.Below
import Derived.Deep.Draws
import Derived.WalkSpells
import Derived.Lib.Hide
import Derived.Laws.OwnMore
import Derived.Deep.AppendLies
namespace Go.Proofs.Ytmhdodiipkkjpaa.Dk
open Go.RowKit

theorem ret_int {k : IntKind} {a b : Int} (h : a = b) : Ending.returned (.int k a) = .returned (.int k b) := by rw [h]
theorem ret_bool {a b : Bool} (h : a = b) : Ending.returned (.bool a) = .returned (.bool b) := by rw [h]

/-- Block b is this row. -/
def Row (w : World) (b : Nat) (t : TypeId) (cs : List Value) : Prop := w.heap[b]? = some (.cells cs.toArray t (0, 0))
theorem Row.cell {w : World} {b : Nat} {t : TypeId} {cs : List Value} (h : Row w b t cs) {i : Nat} {v : Value} (hi : cs[i]? = some v) : w.cell? ⟨b, i, none⟩ = some v := by
  simp only [World.cell?, Row] at *
  simp [h, hi]
theorem Row.thaw {w : World} {b : Nat} {t : TypeId} {cs : List Value} (h : Row w b t cs) (i : Nat) : w.frozen? ⟨b, i, none⟩ = false := by
  simp only [World.frozen?, Row] at *
  simp [h]
theorem Row.set {w : World} {b : Nat} {t : TypeId} {cs : List Value} (h : Row w b t cs) (i : Nat) (v : Value) : Row (w.setCell ⟨b, i, none⟩ v) b t (cs.set i v) := by
  unfold Row at *
  simp [World.setCell, Array.getElem?_modify, h]
theorem Row.keep {w w' : World} {b : Nat} {t : TypeId} {cs : List Value} (h : Row w b t cs) (hk : w'.heap[b]? = w.heap[b]?) : Row w' b t cs := hk.trans h
theorem Row.lt {w : World} {b : Nat} {t : TypeId} {cs : List Value} (h : Row w b t cs) : b < w.heap.size := (Array.getElem?_eq_some_iff.1 h).1
theorem Row.below {w w' : World} {b : Nat} {t : TypeId} {cs : List Value} (h : Row w b t cs) (hb : Below w.heap.size w w') : Row w' b t cs := h.keep (hb.block b h.lt)
theorem row_new (w : World) (cs : Array Value) (t : TypeId) : Row (w.alloc (.cells cs t)) w.heap.size t cs.toList := by
  show (w.heap.push _)[w.heap.size]? = _
  simp
theorem Row.alloc {w : World} {b : Nat} {t : TypeId} {cs : List Value} (h : Row w b t cs) (o : Obj) : Row (w.alloc o) b t cs := h.keep (Below.heap_alloc _ _ _ h.lt)
theorem Row.range {w : World} {b : Nat} {t : TypeId} {cs : List Value} (h : Row w b t cs) : w.rangeAt b 0 cs := fun j v hv => by
  rw [Nat.zero_add]; exact h.cell hv
theorem Row.there {w : World} {b : Nat} {t : TypeId} {cs : List Value} (h : Row w b t cs) (o n : Nat) (hn : o + n ≤ cs.length) : w.there b o n := fun j hj =>
  ⟨by rw [h.cell (List.getElem?_eq_getElem (show o + j < cs.length by omega))]; rfl, h.thaw _⟩

/-- w' is w, but for what block g holds. -/
structure But (g : Nat) (w w' : World) : Prop where
  os : w'.os = w.os
  tape : w'.tape = w.tape
  output : w'.output = w.output
  size : w'.heap.size = w.heap.size
  block : ∀ k, k ≠ g → w'.heap[k]? = w.heap[k]?
theorem But.refl (g : Nat) (w : World) : But g w w := ⟨rfl, rfl, rfl, rfl, fun _ _ => rfl⟩
theorem But.set {g : Nat} {w w' : World} (h : But g w w') (i : Nat) (u : Value) : But g w (w'.setCell ⟨g, i, none⟩ u) :=
  ⟨h.os, h.tape, h.output, by simpa [World.setCell] using h.size, fun k hk => (Below.heap_setCell _ _ _ _ hk).trans (h.block k hk)⟩
theorem But.drew {g : Nat} {w w' : World} (h : But g w w') : But g w w'.drew := ⟨h.os, h.tape, h.output, h.size, h.block⟩
theorem But.drewN {g : Nat} {w w' : World} (h : But g w w') (n : Nat) : But g w (w'.drewN n) := ⟨h.os, h.tape, h.output, h.size, h.block⟩
theorem But.trans {g : Nat} {a b c : World} (h : But g a b) (k : But g b c) : But g a c :=
  ⟨k.os.trans h.os, k.tape.trans h.tape, k.output.trans h.output, k.size.trans h.size, fun i hi => (k.block i hi).trans (h.block i hi)⟩
theorem But.below {g B : Nat} {w w' : World} (h : But g w w') (hg : B ≤ g) : Below B w w' := ⟨h.os, h.tape, h.output, Nat.le_of_eq h.size.symm, fun k hk => h.block k (by omega)⟩
theorem But.row {g b : Nat} {w w' : World} (h : But g w w') {t : TypeId} {cs : List Value} (hr : Row w b t cs) (hb : b ≠ g) : Row w' b t cs := hr.keep (h.block b hb)
theorem but_setCells (g : Nat) : ∀ (vs : List Value) (o : Nat) (w : World), But g w (w.setCells g o vs)
  | [], _, w => But.refl g w
  | v :: r, o, w => by rw [World.setCells]; exact ((But.refl g w).set o v).trans (but_setCells g r (o + 1) _)

/-- w' has the very memory of w. -/
structure Same (w w' : World) : Prop where
  os : w'.os = w.os
  tape : w'.tape = w.tape
  output : w'.output = w.output
  heap : w'.heap = w.heap
theorem Same.refl (w : World) : Same w w := ⟨rfl, rfl, rfl, rfl⟩
theorem Same.drewN {w w' : World} (h : Same w w') (n : Nat) : Same w (w'.drewN n) := ⟨h.os, h.tape, h.output, h.heap⟩
theorem Same.drew {w w' : World} (h : Same w w') : Same w w'.drew := ⟨h.os, h.tape, h.output, h.heap⟩
theorem Same.trans {a b c : World} (h : Same a b) (k : Same b c) : Same a c := ⟨k.os.trans h.os, k.tape.trans h.tape, k.output.trans h.output, k.heap.trans h.heap⟩
theorem Same.row {w w' : World} (h : Same w w') {b : Nat} {t : TypeId} {cs : List Value} (hr : Row w b t cs) : Row w' b t cs := hr.keep (by rw [h.heap])
theorem Same.below {B : Nat} {w w' : World} (h : Same w w') : Below B w w' := ⟨h.os, h.tape, h.output, by rw [h.heap]; exact Nat.le_refl _, fun k _ => by rw [h.heap]⟩
theorem Same.cell {w w' : World} (h : Same w w') (a : Addr) : w'.cell? a = w.cell? a := World.cell?_of_block (by rw [h.heap])
theorem Same.thaw {w w' : World} (h : Same w w') (a : Addr) : w'.frozen? a = w.frozen? a := World.frozen?_of_block (by rw [h.heap])

theorem below1 (w : World) (o : Obj) : Below w.heap.size w (w.alloc o) := (Below.refl _ w).alloc (Nat.le_refl _) o
theorem below2 (w : World) (o1 o2 : Obj) : Below w.heap.size w ((w.alloc o1).alloc o2) := (below1 w o1).alloc (by simp) o2
theorem below3 (w : World) (o1 o2 o3 : Obj) : Below w.heap.size w (((w.alloc o1).alloc o2).alloc o3) := (below2 w o1 o2).alloc (by simp; omega) o3
theorem below_drewN {B : Nat} {a w : World} (h : Below B a w) (n : Nat) : Below B a (w.drewN n) := ⟨h.os, h.tape, h.output, h.size, h.block⟩
theorem below_trans {w w1 w2 : World} (h1 : Below w.heap.size w w1) (h2 : Below w1.heap.size w1 w2) : Below w.heap.size w w2 := h1.trans (h2.mono h1.size)
theorem ownsRow_below {w w' : World} {base : Nat} {e : TypeId} {size : Nat} {v : Value} {n : Nat} {xs : List Value} (h : w.ownsRow base e size v n xs) (hb : Below w.heap.size w w') : w'.ownsRow base e size v n xs := by
  refine ⟨h.1, ?_⟩
  rcases h.2 with h0 | ⟨g, cap, cur, hv, hbs, hh, hr⟩
  · exact .inl h0
  · exact .inr ⟨g, cap, cur, hv, hbs, (hb.block g (Array.getElem?_eq_some_iff.1 hh).1).trans hh, hr⟩
theorem owns_but {w w' : World} {base : Nat} {e : TypeId} {size : Nat} {v : Value} {n : Nat} {xs : List Value} {A : Nat} (h : w.ownsRow base e size v n xs) (hb : But A w w') (hA : A < base) : w'.ownsRow base e size v n xs := by
  refine ⟨h.1, ?_⟩
  rcases h.2 with h0 | ⟨g, cap, cur, hv, hbs, hh, hr⟩
  · exact .inl h0
  · exact .inr ⟨g, cap, cur, hv, hbs, (hb.block g (by omega)).trans hh, hr⟩
theorem owns_form {w : World} {base : Nat} {v : Value} {e : TypeId} {k n : Nat} {xs : List Value} (h : w.ownsRow base e k v n xs) : ∃ a cap, v = .slice a n cap ∧ n ≤ cap ∧ cap ≤ 9223372036854775807 ∧ (0 < n → ∃ g, a = some ⟨g, 0, none⟩) := by
  rcases h.2 with ⟨rfl, rfl⟩ | ⟨g, cap, cur, rfl, -, -, hc, hm, -⟩
  · exact ⟨none, 0, rfl, Nat.le_refl _, by omega, fun h => by omega⟩
  · exact ⟨_, cap, rfl, hc, by unfold maxLen at hm; exact hm, fun _ => ⟨g, rfl⟩⟩
/-- The cells of one item, laid by a literal. -/
theorem cell_new3 (w : World) (x y z : Value) (t : TypeId) : ∀ j v, [x, y, z][j]? = some v → (w.alloc (.cells #[x, y, z] t)).cell? (Addr.add ⟨w.heap.size, 0, none⟩ j) = some v := fun j v hv => by
  rw [Addr.add_mid, Nat.zero_add]
  exact (row_new w #[x, y, z] t).cell hv
theorem cell_n3 (w : World) (x y z : Value) (t : TypeId) {B : Nat} (hB : w.heap.size = B) : ∀ j v, [x, y, z][j]? = some v → (w.alloc (.cells #[x, y, z] t)).cell? (Addr.add ⟨B, 0, none⟩ j) = some v := by
  subst hB; exact cell_new3 w x y z t
theorem own_base {w : World} {base : Nat} {e : TypeId} {k n m cap : Nat} {a : Option Addr} {xs : List Value} (h : w.ownsRow base e k (.slice a m cap) n xs) : ∀ ad, a = some ad → base ≤ ad.block := fun ad had => (h.lt ad.block (by subst had; rfl)).1
/-- All blocks of w but those in X stand in w' as they stood. -/
structure Fr (X : Nat → Prop) (w w' : World) : Prop where
  os : w'.os = w.os
  tape : w'.tape = w.tape
  output : w'.output = w.output
  size : w.heap.size ≤ w'.heap.size
  block : ∀ k, k < w.heap.size → ¬ X k → w'.heap[k]? = w.heap[k]?

section
variable {X Y : Nat → Prop} {a w w' : World}
theorem Fr.refl (X : Nat → Prop) (w : World) : Fr X w w := ⟨rfl, rfl, rfl, Nat.le_refl _, fun _ _ _ => rfl⟩
theorem Fr.trans (h : Fr X a w) (k : Fr X w w') : Fr X a w' :=
  ⟨k.os.trans h.os, k.tape.trans h.tape, k.output.trans h.output, Nat.le_trans h.size k.size, fun i hi hx => (k.block i (Nat.lt_of_lt_of_le hi h.size) hx).trans (h.block i hi hx)⟩
theorem Fr.mono (h : Fr X w w') (hxy : ∀ k, k < w.heap.size → X k → Y k) : Fr Y w w' := ⟨h.os, h.tape, h.output, h.size, fun k hk hy => h.block k hk (fun hx => hy (hxy k hk hx))⟩
theorem Fr.alloc (h : Fr X a w) (o : Obj) : Fr X a (w.alloc o) :=
  h.trans ⟨rfl, rfl, rfl, by simp, fun k hk _ => Below.heap_alloc _ _ _ hk⟩
theorem Fr.setCell (h : Fr X a w) {p : Addr} (hp : a.heap.size ≤ p.block ∨ X p.block) (u : Value) : Fr X a (w.setCell p u) :=
  ⟨h.os, h.tape, h.output, by simpa [World.setCell] using h.size, fun k hk hx => (Below.heap_setCell _ _ _ _ (fun e => by subst e; rcases hp with hp | hp; omega; exact hx hp)).trans (h.block k hk hx)⟩
theorem Fr.drew (h : Fr X a w) : Fr X a w.drew := ⟨h.os, h.tape, h.output, h.size, h.block⟩
theorem Fr.of_below (hb : Below w.heap.size w w') : Fr X w w' := ⟨hb.os, hb.tape, hb.output, hb.size, fun k hk _ => hb.block k hk⟩
theorem Fr.below {B : Nat} (h : Fr (fun k => B ≤ k) w w') (hB : B ≤ w.heap.size) : Below B w w' :=
  ⟨h.os, h.tape, h.output, h.size, fun k hk => h.block k (by omega) (by omega)⟩
theorem Fr.grown (h : Fr X a w) {row : Option Nat} (hg : w.grownBy w' row) (hr : ∀ g, row = some g → a.heap.size ≤ g ∨ X g) : Fr X a w' :=
  ⟨hg.os.trans h.os, hg.tape.trans h.tape, hg.output.trans h.output, Nat.le_trans h.size hg.size, fun k hk hx => (hg.block k (Nat.lt_of_lt_of_le hk h.size) (fun e => by rcases hr k e.symm with h1 | h1; omega; exact hx h1)).trans (h.block k hk hx)⟩
theorem Fr.cell (h : Fr X w w') {p : Addr} (hp : p.block < w.heap.size) (hx : ¬ X p.block) : w'.cell? p = w.cell? p := World.cell?_of_block (h.block _ hp hx)
end

theorem ownsRow_keep {w w' : World} {base : Nat} {e : TypeId} {size : Nat} {v : Value} {n : Nat} {xs : List Value} (h : w.ownsRow base e size v n xs) (hk : ∀ g, v.ownBlock = some g → w'.heap[g]? = w.heap[g]?) : w'.ownsRow base e size v n xs := by
  refine ⟨h.1, ?_⟩
  rcases h.2 with h0 | ⟨g, cap, cur, hv, hb, hh, hr⟩
  · exact .inl h0
  · exact .inr ⟨g, cap, cur, hv, hb, (hk g (by rw [hv]; rfl)).trans hh, hr⟩


theorem Fr.of_same {X : Nat → Prop} {w w' : World} (h : Same w w') : Fr X w w' := ⟨h.os, h.tape, h.output, by rw [h.heap]; exact Nat.le_refl _, fun k _ _ => by rw [h.heap]⟩
theorem Fr.to_below {g : Nat} {W w w' : World} (hb : Below W.heap.size W w) (h : Fr (· = g) w w') (hg : W.heap.size ≤ g) : Below W.heap.size W w' :=
  ⟨h.os.trans hb.os, h.tape.trans hb.tape, h.output.trans hb.output, Nat.le_trans hb.size h.size, fun k hk => (h.block k (Nat.lt_of_lt_of_le hk hb.size) (by omega)).trans (hb.block k hk)⟩

/-- Blocks whose element type is one of these. -/
def Ty (T : List Nat) (w : World) (b : Nat) : Prop := ∃ cs t z, w.heap[b]? = some (.cells cs t z) ∧ t ∈ T
theorem Ty.lt {T : List Nat} {w : World} {b : Nat} (h : Ty T w b) : b < w.heap.size := by
  obtain ⟨cs, t, z, h, -⟩ := h
  exact (Array.getElem?_eq_some_iff.1 h).1
theorem Ty.keep {T : List Nat} {w w' : World} {b : Nat} (h : Ty T w b) (hk : w'.heap[b]? = w.heap[b]?) : Ty T w' b := by
  obtain ⟨cs, t, z, h, ht⟩ := h
  exact ⟨cs, t, z, hk.trans h, ht⟩
theorem Ty.mono {T T' : List Nat} {w : World} {b : Nat} (h : Ty T w b) (hT : ∀ t ∈ T, t ∈ T') : Ty T' w b := by
  obtain ⟨cs, t, z, h, ht⟩ := h
  exact ⟨cs, t, z, h, hT t ht⟩
theorem Ty.ne {T : List Nat} {w : World} {b g : Nat} {cs : Array Value} {t : TypeId} {z : Nat × Nat} (h : Ty T w b) (hg : w.heap[g]? = some (.cells cs t z)) (ht : t ∉ T) : b ≠ g := by
  rintro rfl
  obtain ⟨cs', t', z', h, ht'⟩ := h
  rw [hg] at h
  injection h with h
  injection h with _ h
  subst h
  exact ht ht'
/-- The typed blocks of w stand in w'. -/
def KpT (T : List Nat) (w w' : World) : Prop := ∀ b, Ty T w b → w'.heap[b]? = w.heap[b]?
theorem KpT.of_below {T : List Nat} {w w' : World} (h : Below w.heap.size w w') : KpT T w w' := fun b hb => h.block b hb.lt
theorem KpT.trans {T : List Nat} {a b c : World} (h : KpT T a b) (k : KpT T b c) : KpT T a c := fun x hx => (k x (hx.keep (h x hx))).trans (h x hx)
theorem KpT.of_fr {T : List Nat} {g : Nat} {w w' : World} {cs : Array Value} {t : TypeId} {z : Nat × Nat} (h : Fr (· = g) w w') (hg : w.heap[g]? = some (.cells cs t z)) (ht : t ∉ T) : KpT T w w' := fun b hb => h.block b hb.lt (hb.ne hg ht)
theorem KpT.of_grown {T : List Nat} {w w' : World} {base size n : Nat} {e : TypeId} {v : Value} {xs : List Value} (h : w.grownBy w' v.ownBlock) (ho : w.ownsRow base e size v n xs) (ht : e ∉ T) : KpT T w w' := fun b hb => h.block b hb.lt (fun e => by
  rcases ho.2 with ⟨rfl, -⟩ | ⟨g, cap, cur, rfl, -, hh, -⟩
  · cases e
  · exact hb.ne hh ht (Option.some.inj e))

/-- An element at a place. -/
def At {α : Type} (k : Nat) (C : α → List Value → Prop) (w : World) (b o : Nat) (x : α) : Prop := ∃ cs, cs.length = k ∧ C x cs ∧ ∀ j u, cs[j]? = some u → w.cell? ⟨b, o + j, none⟩ = some u
/-- A slice of such elements, its row being a block of S. -/
def Sl {α : Type} (k : Nat) (C : α → List Value → Prop) (w : World) (S : Nat → Prop) (v : Value) (xs : List α) : Prop :=
  ∃ a cap, v = .slice a xs.length cap ∧ xs.length ≤ cap ∧ cap ≤ 9223372036854775807 ∧ (xs ≠ [] → ∃ b off, a = some ⟨b, off, none⟩ ∧ S b ∧ ∀ (j : Nat) (x : α), xs[j]? = some x → At k C w b (off + j * k) x)
theorem At.keep {α : Type} {k : Nat} {C C' : α → List Value → Prop} {w w' : World} {b o : Nat} {x : α} (h : At k C w b o x) (hk : w'.heap[b]? = w.heap[b]?) (hC : ∀ x cs, C x cs → C' x cs) : At k C' w' b o x := by
  obtain ⟨cs, hl, hx, hc⟩ := h
  exact ⟨cs, hl, hC _ _ hx, fun j u hu => (World.cell?_of_block (a := ⟨b, o + j, none⟩) hk).trans (hc j u hu)⟩
theorem Sl.keep {α : Type} {k : Nat} {C C' : α → List Value → Prop} {w w' : World} {S S' : Nat → Prop} {v : Value} {xs : List α} (h : Sl k C w S v xs) (hk : ∀ b, S b → w'.heap[b]? = w.heap[b]?) (hS : ∀ b, S b → S' b) (hC : ∀ x cs, C x cs → C' x cs) : Sl k C' w' S' v xs := by
  obtain ⟨a, cap, hv, hl, hm, hx⟩ := h
  refine ⟨a, cap, hv, hl, hm, fun hne => ?_⟩
  obtain ⟨b, off, ha, hb, hat⟩ := hx hne
  exact ⟨b, off, ha, hS b hb, fun j x hj => (hat j x hj).keep (hk b hb) hC⟩

/-- The cells of elements, one behind the other. -/
def Cat {α : Type} (k : Nat) (C : α → List Value → Prop) : List α → List Value → Prop
  | [], vs => vs = []
  | x :: r, vs => ∃ cs rest, vs = cs ++ rest ∧ cs.length = k ∧ C x cs ∧ Cat k C r rest
theorem Cat.mono {α : Type} {k : Nat} {C C' : α → List Value → Prop} (hC : ∀ x cs, C x cs → C' x cs) : ∀ {xs : List α} {vs : List Value}, Cat k C xs vs → Cat k C' xs vs
  | [], _, h => h
  | x :: r, vs, h => by
    obtain ⟨cs, rest, hv, hl, hx, hr⟩ := h
    exact ⟨cs, rest, hv, hl, hC _ _ hx, Cat.mono hC hr⟩
theorem Cat.snoc {α : Type} {k : Nat} {C : α → List Value → Prop} {x : α} {cs : List Value} (hl : cs.length = k) (hx : C x cs) : ∀ {xs : List α} {vs : List Value}, Cat k C xs vs → Cat k C (xs ++ [x]) (vs ++ cs)
  | [], vs, h => by
    obtain rfl : vs = [] := h
    exact ⟨cs, [], by simp, hl, hx, rfl⟩
  | y :: r, vs, h => by
    obtain ⟨ds, rest, rfl, hd, hy, hr⟩ := h
    exact ⟨ds, rest ++ cs, by simp, hd, hy, Cat.snoc hl hx hr⟩
theorem Cat.one {α : Type} {k : Nat} {C : α → List Value → Prop} {x : α} {cs : List Value} (hl : cs.length = k) (hx : C x cs) : Cat k C [x] cs := ⟨cs, [], by simp, hl, hx, rfl⟩
theorem Cat.get {α : Type} {k : Nat} {C : α → List Value → Prop} : ∀ {xs : List α} {vs : List Value}, Cat k C xs vs → ∀ (j : Nat) (x : α), xs[j]? = some x → ∃ cs, cs.length = k ∧ C x cs ∧ ∀ i u, cs[i]? = some u → vs[j * k + i]? = some u
  | [], _, _, j, x, hj => by simp at hj
  | y :: r, vs, h, 0, x, hj => by
    obtain ⟨cs, rest, rfl, hl, hx, hr⟩ := h
    obtain rfl : y = x := by simpa using hj
    exact ⟨cs, hl, hx, fun i u hu => by
      rw [Nat.zero_mul, Nat.zero_add, List.getElem?_append_left (by have := (List.getElem?_eq_some_iff.1 hu).1; omega)]; exact hu⟩
  | y :: r, vs, h, j + 1, x, hj => by
    obtain ⟨cs, rest, rfl, hl, hx, hr⟩ := h
    obtain ⟨ds, hd, hdx, hc⟩ := Cat.get hr j x (by simpa using hj)
    refine ⟨ds, hd, hdx, fun i u hu => ?_⟩
    rw [Nat.succ_mul, List.getElem?_append_right (by omega), show j * k + k + i - cs.length = j * k + i by omega]
    exact hc i u hu
theorem owns_cells {w : World} {base k n : Nat} {e : TypeId} {v : Value} {vs : List Value} (h : w.ownsRow base e k v n vs) {b off : Nat} {cap m : Nat} (hv : v = .slice (some ⟨b, off, none⟩) m cap) : off = 0 ∧ (∃ cs z, w.heap[b]? = some (.cells cs e z)) ∧ ∀ i u, vs[i]? = some u → w.cell? ⟨b, i, none⟩ = some u := by
  rcases h.2 with ⟨rfl, h0⟩ | ⟨g, cap', cur, rfl, hb, hh, hc, -, hs, ht⟩
  · cases hv
  · injection hv with hv
    injection hv with hv
    injection hv with h1 h2
    subst h1
    refine ⟨h2.symm, ⟨_, _, hh⟩, fun i u hu => ?_⟩
    have hlt := (List.getElem?_eq_some_iff.1 hu).1
    have := h.1
    rw [← ht, List.getElem?_take, if_pos (by omega), Array.getElem?_toList] at hu
    simp only [World.cell?, hh, hu]
    simp
/-- What was made under way, done. -/
theorem Sl.of_owns {α : Type} {k : Nat} {C : α → List Value → Prop} {w : World} {base : Nat} {e : TypeId} {v : Value} {xs : List α} {vs : List Value} (h : w.ownsRow base e k v xs.length vs) (hc : Cat k C xs vs) {S : Nat → Prop} (hS : ∀ b cs z, w.heap[b]? = some (.cells cs e z) → S b) : Sl k C w S v xs := by
  obtain ⟨a, cap, hv, hl, hm, hx⟩ := owns_form h
  refine ⟨a, cap, hv, hl, hm, fun hne => ?_⟩
  obtain ⟨g, rfl⟩ := hx (List.length_pos_iff.2 hne)
  obtain ⟨-, ⟨cs, z, hh⟩, hcell⟩ := owns_cells h hv
  refine ⟨g, 0, rfl, hS _ _ _ hh, fun j x hj => ?_⟩
  obtain ⟨ds, hd, hdx, hdc⟩ := hc.get j x hj
  exact ⟨ds, hd, hdx, fun i u hu => by rw [Nat.zero_add]; exact hcell _ _ (hdc i u hu)⟩
/-- A row of one element, as a literal lays it. -/
theorem owns_lit (w : World) (cs : Array Value) (e : TypeId) (base n : Nat) (k : Nat) (hs : cs.size = n * k) (hb : base ≤ w.heap.size) (hn : n ≤ 9223372036854775807) : (w.alloc (.cells cs e)).ownsRow base e k (.slice (some ⟨w.heap.size, 0, none⟩) n n) n cs.toList :=
  ⟨by simpa using hs, .inr ⟨w.heap.size, n, cs, rfl, hb, heap_alloc_new w _, Nat.le_refl _, by unfold maxLen; exact hn, hs, by rw [List.take_of_length_le]; simp [hs]⟩⟩
theorem cell_newL (w : World) (cs : Array Value) (t : TypeId) {B : Nat} (hB : w.heap.size = B) : ∀ j v, cs.toList[j]? = some v → (w.alloc (.cells cs t)).cell? (Addr.add ⟨B, 0, none⟩ j) = some v := fun j v hv => by
  subst hB
  rw [Addr.add_mid, Nat.zero_add]
  exact (row_new w cs t).cell hv

theorem Sl.nil {α : Type} (k : Nat) (C : α → List Value → Prop) (w : World) (S : Nat → Prop) : Sl k C w S (.slice none 0 0) [] := ⟨none, 0, rfl, Nat.le_refl _, by omega, fun h => absurd rfl h⟩

/-- Everything that is there. -/
abbrev Old (w : World) (b : Nat) : Prop := b < w.heap.size
/-- All that came behind a place. -/
abbrev Fsh (B : Nat) (w : World) (b : Nat) : Prop := B ≤ b ∧ b < w.heap.size
theorem get_of (s : BA) (k : Nat) (h : k < s.size) : s.data.toList[k]? = some s[k] := by rw [Array.getElem?_toList, Array.getElem?_eq_getElem (show k < s.data.size from h)]; rfl
theorem get_no (s : BA) (k : Nat) (h : ¬ k < s.size) : s.data.toList[k]? = none := by rw [List.getElem?_eq_none]; simp; omega
theorem len_list (s : BA) : s.data.toList.length = s.size := by simp
theorem extract01 (c : UInt8) (r : List UInt8) : ByteArray.extract ⟨(c :: r).toArray⟩ 0 1 = ⟨#[c]⟩ := by
  apply ByteArray.ext
  simp [ByteArray.data_extract]
theorem size_cons (c : UInt8) (r : List UInt8) : ByteArray.size ⟨(c :: r).toArray⟩ = r.length + 1 := by simp [ByteArray.size]
theorem drop_at {l : List UInt8} {k : Nat} {c : UInt8} (h : l[k]? = some c) : l.drop k = c :: l.drop (k + 1) := by
  obtain ⟨hi, rfl⟩ := List.getElem?_eq_some_iff.1 h
  exact List.drop_eq_getElem_cons hi
theorem extract_one (t : BA) (k : Nat) (h : k < t.size) : (ByteArray.extract t k (k + 1)).data.toList = [t[k]] := by
  have h1 := get_of t k h
  have h2 : (ByteArray.extract t k (k + 1)).data.toList = (t.data.toList.drop k).take (k + 1 - k) := by simp [ByteArray.data_extract]
  rw [h2, show k + 1 - k = 1 by omega, List.take_one, List.head?_drop, h1]; rfl
end Go.Proofs.Ytmhdodiipkkjpaa.Dk
